import PyProof.Rows.All
import Wide.All
import OpenK.AllK
import Wide.FinOn
import Lean
import PyProof.EqAt
import PyProof.EqKinds
import PyProof.TupleCall
import PySem.Challenge.RW_fivecups_k26_papers_written
set_option Elab.async false
set_option linter.all false
set_option maxRecDepth 100000
namespace L2
open PySem PySem.Spec PyProof.Rows
abbrev Key:=Sum Int Str
def keyIs:Key->Value->Bool
 | .inl k,v=>Value.isInt k v
 | .inr x,v=>Value.isStrOf x v
def keyH(w:World):Key->Int
 | .inl k=>hashInt k
 | .inr x=>hashStr w x
theorem zAv:∀ {k:Key} {v:Value},keyIs k v=true->(∃ i t,k=Sum.inl i/\v=Value.int i t)\/(∃ x t,k=Sum.inr x/\v=Value.str x t)
 | .inl i,v,h=>by
  obtain⟨t,e⟩:=Value.isInt_shape (k:=i) (v:=v) h
  exact .inl ⟨i,t,rfl,e⟩
 | .inr x,v,h=>by
  obtain⟨t,e⟩:=Value.isStrOf_shape (x:=x) (v:=v) h
  exact .inr ⟨x,t,rfl,e⟩
theorem zJj(i:Int)(t:Tok):keyIs (.inl i) (.int i t)=true:=by simp[keyIs,Value.isInt]
theorem zJB(x:Str)(t:Tok):keyIs (.inr x) (.str x t)=true:=by simp[keyIs,Value.isStrOf]
theorem zOj(a b:Int):decide ((Sum.inl a:Key)=Sum.inl b)=(a == b):=by
 by_cases e:a=b
 ·subst e; simp
 ·have h:¬ (Sum.inl a:Key)=Sum.inl b:=fun q=>e (Sum.inl.inj q)
  rw[decide_eq_false h]
  exact (beq_eq_false_iff_ne.mpr e).symm
theorem zOS(a b:Str):decide ((Sum.inr a:Key)=Sum.inr b)=decide (a=b):=by
 by_cases e:a=b
 ·subst e; simp
 ·have h:¬ (Sum.inr a:Key)=Sum.inr b:=fun q=>e (Sum.inr.inj q)
  rw[decide_eq_false h,decide_eq_false e]
theorem zNy(a:Int)(b:Str):decide ((Sum.inl a:Key)=Sum.inr b)=false:=decide_eq_false (fun q=>nomatch q)
theorem zNt(a:Str)(b:Int):decide ((Sum.inr a:Key)=Sum.inl b)=false:=decide_eq_false (fun q=>nomatch q)
def mixKind(prog:Program)(w:World):PySem.KeyKind prog w Key where
 is:=keyIs
 hash:=keyH w
 inj:=fun v a b ha hb=>by
  rcases zAv ha with ⟨i,t,rfl,rfl⟩ | ⟨x,t,rfl,rfl⟩
  ·rcases zAv hb with ⟨j,u,rfl,e⟩ | ⟨y,u,rfl,e⟩
   ·injection e with e1 _; rw[e1]
   ·exact nomatch e
  ·rcases zAv hb with ⟨j,u,rfl,e⟩ | ⟨y,u,rfl,e⟩
   ·exact nomatch e
   ·injection e with e1 _; rw[e1]
 byValue:=fun k v h=>by
  rcases zAv h with ⟨i,t,rfl,rfl⟩ | ⟨x,t,rfl,rfl⟩ <;> rfl
 pyHash:=fun hv h=>by
  rcases zAv hv with ⟨i,t,rfl,rfl⟩ | ⟨x,t,rfl,rfl⟩
  ·exact wpAny_pyHash_int h
  ·exact wpAny_pyHash_str h
 eqBool:=fun hu hv h=>by
  rcases zAv hu with ⟨i,t,rfl,rfl⟩ | ⟨x,t,rfl,rfl⟩
  ·rcases zAv hv with ⟨j,u,rfl,rfl⟩ | ⟨y,u,rfl,rfl⟩
   ·rw[zOj]at h; exact wpAny_eqBool_int h
   ·rw[zNy]at h; exact SeqAt.EqAt.int_str i t y u _ _ _ _ h
  ·rcases zAv hv with ⟨j,u,rfl,rfl⟩ | ⟨y,u,rfl,rfl⟩
   ·rw[zNt]at h; exact SeqAt.EqAt.str_int x t j u _ _ _ _ h
   ·rw[zOS]at h; exact wpAny_eqBool_str h
 «strs»:=fun k x t v h=>by
  rcases zAv h with ⟨i,u,rfl,e⟩ | ⟨y,u,rfl,e⟩
  ·exact nomatch e
  ·injection e with e1 _
   subst e1
   cases v <;> rfl
theorem zGq(prog:Program)(w:World)(i:Int)(t:Tok):(mixKind prog w).is (.inl i) (.int i t)=true:=zJj i t
theorem zGo(prog:Program)(w:World)(x:Str)(t:Tok):(mixKind prog w).is (.inr x) (.str x t)=true:=zJB x t
inductive V where
 | non | bl (b:Bool) | int (i:Int) | str (x:Str) | byt (b:Array UInt8) | flt (b:UInt64) | ref (a:Addr) | ty (n:String)
 deriving DecidableEq
def RelV:V->Value->Prop
 | .non,u=>u=Value.none
 | .bl b,u=>u=Value.bool b
 | .int i,u=>∃ t,u=Value.int i t
 | .str x,u=>∃ t,u=Value.str x t
 | .byt b,u=>∃ t,u=Value.bytes b t
 | .flt b,u=>∃ t,u=Value.float b t
 | .ref a,u=>u=Value.ref a
 | .ty n,u=>u=Value.type n
abbrev Vals:List V->List Value->Prop:=Paired RelV
theorem Vals.length{xs:List V}{us:List Value}(r:Vals xs us):xs.length=us.length:=Paired.length r
theorem Vals.get:∀ {xs:List V} {us:List Value} {i:Nat} {x:V},Vals xs us->xs[i]?=some x->∃ u,us[i]?=some u/\RelV x u
 | _,_,_,_,.nil,e=>by simp at e
 | _,_,0,_,.cons r _,e=>by simp at e; subst e; exact⟨_,rfl,r⟩
 | _,_,i+1,x,.cons _ t,e=>by
  obtain⟨u,h1,h2⟩:=Vals.get (i:=i) (x:=x) t (by simpa using e)
  exact⟨u,by simpa using h1,h2⟩
theorem Vals.set{x:V}{u:Value}(r:RelV x u):∀ {xs:List V} {us:List Value} (i:Nat),Vals xs us->Vals (xs.set i x) (us.set i u)
 | _,_,_,.nil=>.nil
 | _,_,0,.cons _ t=>.cons r t
 | _,_,i+1,.cons q t=>.cons q (Vals.set r i t)
theorem Vals.append:∀ {xs ys:List V} {us ws:List Value},Vals xs us->Vals ys ws->Vals (xs++ys) (us++ws)
 | _,_,_,_,.nil,s=>s
 | _,_,_,_,.cons r t,s=>.cons r (Vals.append t s)
theorem Vals.take:∀ {xs:List V} {us:List Value} (n:Nat),Vals xs us->Vals (xs.take n) (us.take n)
 | _,_,0,_=>.nil
 | _,_,_+1,.nil=>.nil
 | _,_,n+1,.cons r t=>.cons r (Vals.take n t)
theorem Vals.drop:∀ {xs:List V} {us:List Value} (n:Nat),Vals xs us->Vals (xs.drop n) (us.drop n)
 | _,_,0,r=>r
 | _,_,_+1,.nil=>.nil
 | _,_,n+1,.cons _ t=>Vals.drop n t
def RelO:Option V->Option Value->Prop
 | some v,some u=>RelV v u
 | none,none=>True
 | _,_=>False
def KV{κ:Type}:List (κ×V)->List (κ×Value)->Prop:=Paired fun (p:κ×V) (q:κ×Value)=>p.1=q.1/\RelV p.2 q.2
def kV:Key->V
 | .inl i=>.int i
 | .inr x=>.str x
inductive HO where
 | lst (xs:List V)
 | tup (xs:List V)
 | dK (kvs:List (Key×V)) | dT (kvs:List (List Key×V))
 | set (S:Int->Bool) (n:Nat)
 | ins (C dx:Addr) (fs:List (Str×V))
 | own (x:Addr)
 | xd (fs:List (Str×V))
 | met (f x:Addr)
 | rng (lo hi:Int)
 | frz (o:Obj) (u:HO)
 | tbl (ps:Array Value)
 | ext (φ:Heap->Prop)
abbrev Hp:=Addr->Option HO
def upd(H:Hp)(a:Addr)(o:HO):Hp:=fun b=>if b=a then some o else H b
theorem zAg{H:Hp}{a:Addr}{o:HO}:upd H a o a=some o:=by unfold upd; rw[if_pos rfl]
theorem zAK{H:Hp}{a b:Addr}{o:HO}(h:b≠a):upd H a o b=H b:=by unfold upd; rw[if_neg h]
theorem zAV{H:Hp}{a b:Addr}{o:HO}(h:H a=some o)(h':H b=none):a≠b:=by
 intro e; subst e; rw[h]at h'; cases h'
def TupD(h:Heap)(a:Addr)(items:Array Value):Prop:=∃ o,h.get? a=some o/\o.cls=.type "tuple"/\(∃ n,o.data=.seq items n)/\o.dict=none
theorem TupD.tup{h:Heap}{a:Addr}{items:Array Value}(x:TupD h a items):IsTup h a items:=let ⟨o,e,c,d,_⟩:=x; ⟨o,e,c,d⟩
theorem TupD.lt{h:Heap}{a:Addr}{items:Array Value}(x:TupD h a items):a < h.objs.size:=let ⟨_,e,_⟩:=x; Heap.lt_size e
theorem TupD.new(h:Heap)(items:Array Value):TupD (h.push { cls:=.type "tuple",data:=.seq items }) h.objs.size items:=⟨_,Heap.get?_push_size _ rfl,rfl,⟨_,rfl⟩,rfl⟩
section
variable (P:Program)(w:World)
def ObjOk(H:Hp)(h:Heap)(a:Addr):HO->Prop
 | .lst xs=>xs.length<=sizeLine/\∃ (its:List Value) (n:Nat),Vals xs its/\h.get? a=some { cls:=.type "list",data:=.seq its.toArray n }
 | .tup xs=>xs.length<=sizeLine/\∃ its:List Value,Vals xs its/\TupD h a its.toArray
 | .dK kvs=>kvs.length<=sizeLine/\(a == sysModules)=false/\∃ vs,KV kvs vs/\h.DictOf (mixKind P w) a vs
 | .dT kvs=>kvs.length<=sizeLine/\(a == sysModules)=false/\∃ xs:List (List Key×Addr×Value),
   Paired (fun (p:List Key×V) (q:List Key×Addr×Value)=>p.1=q.1/\H q.2.1=some (.tup (p.1.map kV))/\RelV p.2 q.2.2) kvs xs /\
   ∃ o es ep,h.get? a=some o/\o.ExactDict/\o.data=.dict es ep/\es.toList=xs.map (entryOfKey (tupleKind (mixKind P w)))/\(xs.map (·.1)).Nodup
 | .set S n=>h.SetOf (intKind P w) a S n
 | .ins C dx fs=>H dx=some (.own a)/\fs.length<=1000/\dx≠a/\h.get? a=some (PySem.W.instObj C dx) /\
   ∃ mA,h.Ns1 dx mA/\(∀ f,RelO (fs.lookup f) (mA f))/\PySem.Within mA (fs.map (·.1))
 | .own _=>∃ o,h.get? a=some o
 | .xd fs=>∃ mA,h.Ns1 a mA/\∀ f,RelO (fs.lookup f) (mA f)
 | .rng lo hi=>∃ t u v,h.get? a=some { cls:=.type "range",data:=.fields #[.int lo t,.int hi u,.int 1 v] }
 | .frz o u=>h.get? a=some o/\ObjOk H h a u
 | .tbl ps=>h.get? a=some { cls:=.none,data:=.fields ps }
 | .met f x=>h.get? a=some (PySem.W.methodObj (.ref f) (.ref x))
 | .ext φ=>φ h/\(∃ o,h.get? a=some o)/\∀ h1 h2:Heap,φ h1->(∀ o,h1.get? a=some o->h2.get? a=some o)->φ h2
def HOk(H:Hp)(h:Heap):Prop:=∀ a o,H a=some o->ObjOk P w H h a o
end
section
variable {P:Program}{w:World}{H H':Hp}{h h':Heap}{a:Addr}{o:HO}
theorem ObjOk.lt(x:ObjOk P w H h a o):a < h.objs.size:=by
 cases o with
 | lst xs=>obtain⟨_,_,_,_,e⟩:=x; exact Heap.lt_size e
 | tup xs=>obtain⟨_,_,_,p⟩:=x; exact p.lt
 | dK kvs=>obtain⟨_,_,_,_,o,_,_,e,_⟩:=x; exact Heap.lt_size e
 | dT kvs=>obtain⟨_,_,_,_,o,_,_,e,_⟩:=x; exact Heap.lt_size e
 | set S n=>obtain⟨o,_,_,_,e,_⟩:=x; exact Heap.lt_size e
 | ins C dx fs=>obtain⟨_,_,_,e,_⟩:=x; exact Heap.lt_size e
 | own y=>obtain⟨_,e⟩:=x; exact Heap.lt_size e
 | xd fs=>obtain⟨_,⟨_,_,_,e,_⟩,_⟩:=x; exact Heap.lt_size e
 | rng lo hi=>obtain⟨_,_,_,e⟩:=x; exact Heap.lt_size e
 | frz ob u=>obtain⟨e,_⟩:=x; exact Heap.lt_size e
 | tbl ps=>exact Heap.lt_size (show h.get? a=some _ from x)
 | met f y=>exact Heap.lt_size (show h.get? a=some _ from x)
 | ext φ=>obtain⟨_,⟨_,e⟩,_⟩:=x; exact Heap.lt_size e
theorem Paired.mapP{α β:Type}{F G:α->β->Prop}:∀ {l₁:List α} {l₂:List β},Paired F l₁ l₂->(∀ a b,F a b->G a b)->Paired G l₁ l₂
 | _,_,.nil,_=>.nil
 | _,_,.cons r t,f=>.cons (f _ _ r) (Paired.mapP t f)
theorem ObjOk.stay(x:ObjOk P w H h a o)(k:∀ b u,(b=a\/H b=some (.own a))->h.get? b=some u->h'.get? b=some u)
  (ho:∀ b,H b=some (.own a)->H' b=some (.own a)) (ht:∀ b xs,H b=some (.tup xs)->H' b=some (.tup xs)):ObjOk P w H' h' a o:=by
 induction o with
 | lst xs=>obtain⟨z,its,n,r,e⟩:=x; exact⟨z,its,n,r,k _ _ (.inl rfl) e⟩
 | tup xs=>obtain⟨z,its,r,ob,e,c⟩:=x; exact⟨z,its,r,ob,k _ _ (.inl rfl) e,c⟩
 | dK kvs=>obtain⟨z,y,vs,r,ob,es,ep,e,c⟩:=x; exact⟨z,y,vs,r,ob,es,ep,k _ _ (.inl rfl) e,c⟩
 | dT kvs =>
  obtain⟨z,y,xs,r,ob,es,ep,e,c⟩:=x
  exact⟨z,y,xs,Paired.mapP r fun p q z=>⟨z.1,ht _ _ z.2.1,z.2.2⟩,ob,es,ep,k _ _ (.inl rfl) e,c⟩
 | set S n=>obtain⟨ob,es,ep,t,e,c⟩:=x; exact⟨ob,es,ep,t,k _ _ (.inl rfl) e,c⟩
 | ins C dx fs =>
  obtain⟨d,z,ne,e,mA,⟨od,es,ep,e2,c⟩,r⟩:=x
  exact⟨ho _ d,z,ne,k _ _ (.inl rfl) e,mA,⟨od,es,ep,k _ _ (.inr d) e2,c⟩,r⟩
 | own y=>obtain⟨ob,e⟩:=x; exact⟨ob,k _ _ (.inl rfl) e⟩
 | xd fs=>obtain⟨mA,⟨od,es,ep,e,c⟩,r⟩:=x; exact⟨mA,⟨od,es,ep,k _ _ (.inl rfl) e,c⟩,r⟩
 | rng lo hi=>obtain⟨t,u,v,e⟩:=x; exact⟨t,u,v,k _ _ (.inl rfl) e⟩
 | frz ob u ih=>obtain⟨e,q⟩:=x; exact⟨k _ _ (.inl rfl) e,ih q⟩
 | tbl ps =>
  have e:h.get? a=some { cls:=.none,data:=.fields ps }:=x
  show h'.get? a=some { cls:=.none,data:=.fields ps }
  exact k a _ (.inl rfl) e
 | met f y =>
  have e:h.get? a=some (PySem.W.methodObj (.ref f) (.ref y)):=x
  show h'.get? a=some (PySem.W.methodObj (.ref f) (.ref y))
  exact k a _ (.inl rfl) e
 | ext φ=>obtain⟨p,⟨o,e⟩,st⟩:=x; exact⟨st _ _ p fun o q=>k _ _ (.inl rfl) q,⟨o,k _ _ (.inl rfl) e⟩,st⟩
theorem HOk.lt(x:HOk P w H h)(e:H a=some o):a < h.objs.size:=(x a o e).lt
theorem HOk.fresh(x:HOk P w H h)(e:h.objs.size<=a):H a=none:=by
 cases q:H a with
 | none=>rfl
 | some u=>exact absurd (Nat.lt_of_lt_of_le (x.lt q) e) (Nat.lt_irrefl _)
theorem HOk.kept(x:HOk P w H h)(k:∀ b u,h.get? b=some u->h'.get? b=some u):HOk P w H h':=fun a o e =>
 (x a o e).stay (fun b u _ q=>k b u q) (fun _ q=>q) fun _ _ q=>q
theorem HOk.laid(x:HOk P w H h)(k:∀ b u,h.get? b=some u->h'.get? b=some u)(hp:h.objs.size<=a)(new:ObjOk P w (upd H a o) h' a o):HOk P w (upd H a o) h':=fun b u e=>by
 have hn:=x.fresh hp
 by_cases hb:b=a
 ·subst hb; rw[zAg]at e; cases e; exact new
 ·rw[zAK hb]at e
  exact (x b u e).stay (fun c v _ q=>k c v q) (fun c q=>by rw[zAK (zAV q hn)]; exact q) fun c xs q=>by rw[zAK (zAV q hn)]; exact q
end
def Rd(H:Hp)(a:Addr)(u:HO):Prop:=H a=some u\/∃ o,H a=some (.frz o u)
theorem Rd.ok{P:Program}{w:World}{H:Hp}{h:Heap}{a:Addr}{u:HO}(r:Rd H a u)(x:HOk P w H h):ObjOk P w H h a u:=by
 rcases r with r | ⟨o,r⟩
 ·exact x a u r
 ·obtain⟨_,q⟩:=x a _ r
  exact q
def Mut:Option HO->Prop
 | some (.lst _)=>True
 | some (.dK _)=>True
 | some (.dT _)=>True
 | some (.set _ _)=>True
 | some (.ins _ _ _)=>True
 | some (.ext _)=>True
 | _=>False
section
variable {P:Program}{w:World}{H:Hp}{h h':Heap}{x e:Addr}{o':HO}
theorem HOk.write(ok:HOk P w H h)(mu:Mut (H x))(he:e=x\/H e=some (.own x))(k:∀ b u,b≠e->h.get? b=some u->h'.get? b=some u)(heo:∃ u,h'.get? e=some u)
  (new:ObjOk P w (upd H x o') h' x o'):HOk P w (upd H x o') h':=fun b u q=>by
 have nown:∀ c y,H c=some (.own y)->c≠x:=fun c y r z=>by subst z; rw[r]at mu; exact mu
 have ntup:∀ c xs,H c=some (.tup xs)->c≠x:=fun c xs r z=>by subst z; rw[r]at mu; exact mu
 by_cases hb:b=x
 ·subst hb; rw[zAg]at q; cases q; exact new
 ·rw[zAK hb]at q
  by_cases hbe:b=e
  ·have q':H b=some (.own x):=by
    rcases he with z | z
    ·exact absurd (hbe.trans z) hb
    ·rw[hbe]; exact z
   rw[q]at q'; cases q'
   obtain⟨v,hv⟩:=heo
   exact⟨v,by rw[hbe]; exact hv⟩
  ·refine (ok b u q).stay (fun c v hc r=>k c v ?_ r) (fun c r=>by rw[zAK (nown c b r)]; exact r) fun c xs r=>by rw[zAK (ntup c xs r)]; exact r
   rcases hc with rfl | hc
   ·exact hbe
   ·rintro rfl
    rcases he with z | z
    ·exact nown c b hc z
    ·rw[hc]at z; cases z; exact hb rfl
end
structure Un(fs ex:List Addr)(H H':Hp)(h h':Heap):Prop where
 keep:∀ b o,h.get? b=some o->H b=none->b∉fs->b∉ex->h'.get? b=some o
 slot:∀ b o,h.get? b=some o->H b=none->b∈fs->b∉ex->∃ sl,h'.get? b=some { o with slots:=sl }
 free:∀ b o,h.get? b=some o->H b=none->b∉ex->H' b=none
 there:∀ b o,h.get? b=some o->b∉ex->∃ o',h'.get? b=some o'
 tups:∀ b xs,H b=some (.tup xs)->H' b=some (.tup xs)
 frzs:∀ b o u,H b=some (.frz o u)->H' b=some (.frz o u)
 tbls:∀ b ps,H b=some (.tbl ps)->∃ more,H' b=some (.tbl (ps++more))
section
variable {fs fs' ex ex':List Addr}{H H1 H2:Hp}{h h1 h2 h':Heap}{a x e:Addr}{o:HO}
theorem Un.any(u:Un fs ex H H1 h h1){b:Addr}{ob:Obj}(q:h.get? b=some ob)(n:H b=none)(hx:b∉ex):∃ sl,h1.get? b=some { ob with slots:=sl }:=by
 by_cases hb:b∈fs
 ·exact u.slot b ob q n hb hx
 ·exact⟨ob.slots,u.keep b ob q n hb hx⟩
theorem Un.kept(k:∀ b u,h.get? b=some u->h'.get? b=some u):Un fs ex H H h h' :=
 ⟨fun b ob q _ _ _=>k b ob q,fun b ob q _ _ _=>⟨ob.slots,k b ob q⟩,fun _ _ _ n _=>n,fun b ob q _=>⟨ob,k b ob q⟩,fun _ _ q=>q,fun _ _ _ q=>q,fun _ ps q=>⟨#[],by rw[q]; simp⟩⟩
theorem Un.refl:Un fs ex H H h h:=Un.kept fun _ _ q=>q
theorem Un.laid(k:∀ b u,h.get? b=some u->h'.get? b=some u)(hp:h.objs.size<=a)(hn:H a=none):Un fs ex H (upd H a o) h h' where
 keep:=fun b u q _ _ _=>k b u q
 slot:=fun b u q _ _ _=>⟨u.slots,k b u q⟩
 free:=fun b u q n _=>by rw[zAK (Nat.ne_of_lt (Nat.lt_of_lt_of_le (Heap.lt_size q) hp))]; exact n
 there:=fun b u q _=>⟨u,k b u q⟩
 tups:=fun b xs q=>by rw[zAK (zAV q hn)]; exact q
 frzs:=fun b u xs q=>by rw[zAK (zAV q hn)]; exact q
 tbls:=fun b ps q=>⟨#[],by rw[zAK (zAV q hn),q]; simp⟩
theorem Un.write(mu:Mut (H x))(he:e=x\/H e=some (.own x))(k:∀ b u,b≠e->h.get? b=some u->h'.get? b=some u)(heo:∃ u,h'.get? e=some u):Un fs ex H (upd H x o) h h':=by
 have hx:∀ b,H b=none->b≠x:=fun b n z=>by subst z; rw[n]at mu; exact mu
 have hb:∀ b,H b=none->b≠e:=fun b n z=>by
  subst z
  rcases he with r | r
  ·exact hx b n r
  ·rw[n]at r; cases r
 have hm:∀ b u,H b=some u->¬ Mut (some u)->b≠x:=fun b u q nm z=>by subst z; rw[q]at mu; exact nm mu
 refine⟨fun b u q n _ _=>k b u (hb b n) q,fun b u q n _ _=>⟨u.slots,k b u (hb b n) q⟩,fun b u q n _=>by rw[zAK (hx b n)]; exact n,fun b u q _=>?_,
  fun b xs q=>by rw[zAK (hm b _ q fun z=>z)]; exact q,fun b u xs q=>by rw[zAK (hm b _ q fun z=>z)]; exact q,fun b ps q=>⟨#[],by rw[zAK (hm b _ q fun z=>z),q]; simp⟩⟩
 by_cases hbe:b=e
 ·subst hbe; exact heo
 ·exact⟨u,k b u hbe q⟩
end
def trk(h:Heap)(H:Hp):List Addr:=(List.range h.objs.size).filter fun a=>(H a).isSome
def hidT(h:Heap)(H:Hp):Heap:=PySem.W.hideAll h (trk h H)
theorem zJN(h:Heap)(H:Hp):(hidT h H).objs.size=h.objs.size:=PySem.W.hideAll_size _ _
theorem zKs{h:Heap}{H:Hp}{b:Addr}{o:Obj}(e:h.get? b=some o)(n:H b=none):(hidT h H).get? b=some o :=
 PySem.W.hideAll_get _ e fun hm=>by
  have q:(H b).isSome=true:=(List.mem_filter.mp hm).2
  rw[n]at q; simp at q
theorem zMh{h:Heap}{H:Hp}{b:Addr}{o:Obj}(e:(hidT h H).get? b=some o):h.get? b=some o/\H b=none:=by
 have e':h.get? b=some o:=PySem.W.of_hideAll (trk h H) e
 refine⟨e',?_⟩
 cases q:H b with
 | none=>rfl
 | some x =>
  have hm:b∈trk h H:=List.mem_filter.mpr ⟨List.mem_range.mpr (Heap.lt_size e'),by simp[q]⟩
  have z:(hidT h H).get? b=none:=PySem.W.hideAll_none (trk h H) hm
  rw[z]at e; cases e
def allNews(g h:Heap)(L:Addr):List (Addr×Obj):=(List.range h.objs.size).filterMap fun a=>if a=L\/(g.get? a).isSome=true then none else (h.get? a).map fun o=>(a,o)
def rest(g h:Heap)(L d:Addr):List (Addr×Obj):=(allNews g h L).filter fun p=>decide (p.1≠d)
structure Mod(K:PySem.W.Frag)(mg:Str->Option Value)(base:Heap):Prop where
 kin:K.In base
 glob:base.Ns mainGlobals mg
 blt:∃ mb,base.Ns builtinsNs mb/\∀ x:Str,x≠"__name__"->mb x=bootBuiltins x
 nolimit:base.NoLimit
structure Cx where
 prog:Program
 w:World
 K:PySem.W.Frag
 mg:Str->Option Value
 base:Heap
 A:Around
 N:List Str
 s₀:Shared
 H₀:Hp
 env:Env
 outer:List Env
 stack:List Env
 ex:List Addr
 fn:Str->Bool
 calm:Bool
 pn:List (Addr×Obj)
 xe:Value->Shared->Prop
def frs(l:List Env):List Addr:=l.filterMap (·.frame)
abbrev Cx.fs(X:Cx):List Addr:=frs X.outer
def Vis(sc:Scope)(x:Str):Prop:=sc.names.lookup x=some .local\/sc.names.lookup x=some .cell\/sc.names.lookup x=some .free
def Loc(sc:Scope)(x:Str):Prop:=sc.names.lookup x=some .local\/sc.names.lookup x=some .cell
def Look(env:Env)(h:Heap)(m:Str->Option Value)(x:Str)(u:Value):Prop :=
 (env.kindOf x=some .local/\m x=some u)\/((env.kindOf x=some .cell\/env.kindOf x=some .free)/\∃ c,env.cells.lookup x=some c/\h.IsCell c (some u))
structure Cx.Ok(X:Cx):Prop where
 mod:Mod X.K X.mg X.base
 kind:X.env.scope.kind=.function
 glob:X.env.globals=mainGlobals
 blt:X.env.builtins=builtinsNs
 above:X.s₀.heap.objs.size<=X.env.locals
 inj:∀ x y c,X.env.cells.lookup x=some c->X.env.cells.lookup y=some c->x=y
 has:∀ x,(X.env.kindOf x=some .cell\/X.env.kindOf x=some .free)->∃ c,X.env.cells.lookup x=some c
 cab:∀ x c,X.fn x=true->X.env.cells.lookup x=some c->X.s₀.heap.objs.size<=c
 hd:X.calm=true->X.A.handled=none
 frames:X.A.frames=some X.stack
 stk:X.stack=X.outer\/(X.stack=X.env::X.outer/\X.env.frame=some X.env.locals)
 exf:∀ b∈X.ex,b≠X.env.locals/\∀ x c,X.env.cells.lookup x=some c->c≠b
 bs:∀ b o,X.base.get? b=some o->X.s₀.heap.get? b=some o/\X.H₀ b=none
 bsz:X.base.objs.size<=X.s₀.heap.objs.size
 noex:∀ b o,X.base.get? b=some o->b∉X.ex
 exfs:∀ b∈X.ex,b∉X.fs
 funs:X.s₀.heap.FunFrames X.base X.outer
 frf:∀ b∈X.fs,X.H₀ b=none
structure Inv(X:Cx)(pins:List (Addr×Obj))(σ:List (Option V))(H:Hp)(s:Shared):Prop where
 ok:X.Ok
 os:s.os=X.s₀.os
 bare:AllBare s.gens
 base:Un X.fs X.ex X.H₀ H X.s₀.heap s.heap
 loc:∃ m,s.heap.Ns X.env.locals m/\∀ (i:Nat) (x:Str) (v:V),X.N[i]?=some x->σ[i]?=some (some v)->Vis X.env.scope x->∃ u,RelV v u/\Look X.env s.heap m x u
 cell:∀ x c,X.env.cells.lookup x=some c->∃ v,s.heap.IsCell c v
 free:H X.env.locals=none
 freeC:∀ x c,X.env.cells.lookup x=some c->H c=none
 pin:∀ p∈X.pn++pins,s.heap.get? p.1=some p.2/\H p.1=none/\p.1≠X.env.locals/\p.1∉X.fs/\∀ v,p.2.data≠.cell v
 hok:HOk X.prog X.w H s.heap
 len:σ.length=X.N.length
section
variable {X:Cx}{pins:List (Addr×Obj)}{σ:List (Option V)}{H H':Hp}{s:Shared}{h':Heap}
theorem Cx.Ok.nofr(ok:X.Ok){b:Addr}{o:Obj}(e:X.base.get? b=some o):b∉X.fs:=fun hb=>by
 have:=(ok.funs.mem hb).1
 rw[e]at this; cases this
theorem Inv.bs(I:Inv X pins σ H s):∀ b o,X.base.get? b=some o->s.heap.get? b=some o/\H b=none:=fun b o e =>
 ⟨I.base.keep b o (I.ok.bs b o e).1 (I.ok.bs b o e).2 (I.ok.nofr e) (I.ok.noex b o e),I.base.free b o (I.ok.bs b o e).1 (I.ok.bs b o e).2 (I.ok.noex b o e)⟩
theorem Inv.bk(I:Inv X pins σ H s):∀ b o,X.base.get? b=some o->s.heap.get? b=some o:=fun b o e=>(I.bs b o e).1
theorem Inv.mod(I:Inv X pins σ H s):Mod X.K X.mg X.base:=I.ok.mod
theorem Inv.kIn(I:Inv X pins σ H s):X.K.In s.heap:=I.ok.mod.kin.keeps I.bk
theorem Inv.lt(I:Inv X pins σ H s):X.env.locals < s.heap.objs.size:=let ⟨_,hn,_⟩:=I.loc; hn.lt
theorem Inv.sz(I:Inv X pins σ H s):X.s₀.heap.objs.size<=s.heap.objs.size:=Nat.le_trans I.ok.above (Nat.le_of_lt I.lt)
theorem Inv.nofs(I:Inv X pins σ H s){a:Addr}(h:s.heap.objs.size<=a):a∉X.fs:=fun hb=>by
 obtain⟨_,o,ho,_⟩:=I.ok.funs.mem hb
 exact absurd (Nat.lt_of_lt_of_le (Heap.lt_size ho) (Nat.le_trans I.sz h)) (Nat.lt_irrefl _)
theorem Inv.cne(I:Inv X pins σ H s):∀ x c,X.env.cells.lookup x=some c->c≠X.env.locals:=fun x c e z=>by
 obtain⟨v,o,ho,hd⟩:=I.cell x c e
 obtain⟨m,⟨o',es,ep,ho',hd',_⟩,_⟩:=I.loc
 rw[z,ho']at ho; cases ho; rw[hd']at hd; cases hd
theorem Inv.funs(I:Inv X pins σ H s):s.heap.FunFrames X.base X.outer:=by
 have all:∀ (l:List Env),(∀ b∈frs l,b∈X.fs)->X.s₀.heap.FunFrames X.base l->s.heap.FunFrames X.base l:=by
  intro l
  induction l with
  | nil=>intro _ _; trivial
  | cons env r ih =>
   intro hs hl
   obtain⟨hk,⟨L,o,hf,hn,ho,hd⟩,hr⟩:=hl
   have hL:L∈X.fs:=hs L (by unfold frs; rw[List.filterMap_cons,hf]; exact List.mem_cons_self)
   obtain⟨sl,e⟩:=I.base.slot L o ho (I.ok.frf L hL) hL fun z=>I.ok.exfs L z hL
   exact⟨hk,⟨L,_,hf,hn,e,hd⟩,ih (fun b hb=>hs b (by unfold frs; rw[List.filterMap_cons,hf]; exact List.mem_cons_of_mem _ hb)) hr⟩
 exact all X.outer (fun _ hb=>hb) I.ok.funs
theorem Inv.stack(I:Inv X pins σ H s):s.heap.FunFrames X.base X.stack:=by
 rcases I.ok.stk with e | ⟨e,hf⟩
 ·rw[e]; exact I.funs
 ·rw[e]
  obtain⟨m,hn,_⟩:=I.loc
  refine .cons (by rw[I.ok.kind]; decide) hf hn ?_ I.funs
  exact Heap.get?_none_of_le (Nat.le_trans I.ok.bsz I.ok.above)
theorem Inv.stkSub(I:Inv X pins σ H s):∀ b∈frs X.stack,b∈X.env.locals::X.fs:=fun b hb=>by
 rcases I.ok.stk with e | ⟨e,hf⟩
 ·rw[e]at hb; exact List.mem_cons_of_mem _ hb
 ·rw[e]at hb
  unfold frs at hb
  rw[List.filterMap_cons,hf]at hb
  exact hb
theorem Inv.stkFree(I:Inv X pins σ H s):∀ b∈frs X.stack,H b=none:=fun b hb=>by
 rcases List.mem_cons.mp (I.stkSub b hb) with e | hb
 ·rw[e]; exact I.free
 ·obtain⟨_,o,ho,_⟩:=I.ok.funs.mem hb
  exact I.base.free b o ho (I.ok.frf b hb) fun z=>I.ok.exfs b z hb
theorem Inv.step{g':Array GenState}{t':Nat}{d':Drawn}{ch:List Addr}(I:Inv X pins σ H s)
  (hch:∀ b∈ch,(b∈X.ex\/X.s₀.heap.objs.size<=b)/\b≠X.env.locals/\(∀ x c,X.env.cells.lookup x=some c->c≠b)/\∀ p∈X.pn++pins,p.1≠b)
  (keep:∀ b o,b≠X.env.locals->b∉X.fs->b∉ch->s.heap.get? b=some o->H b=none->h'.get? b=some o)
  (slot:∀ b o,b≠X.env.locals->b∈X.fs->b∉ch->s.heap.get? b=some o->H b=none->∃ sl,h'.get? b=some { o with slots:=sl }) (free:∀ b o,b∉ch->s.heap.get? b=some o->H b=none->H' b=none)
  (there:∀ b o,b∉ch->s.heap.get? b=some o->∃ o',h'.get? b=some o')
  (tups:∀ b xs,H b=some (.tup xs)->H' b=some (.tup xs)) (frzs:∀ b o u,H b=some (.frz o u)->H' b=some (.frz o u)) (tbls:∀ b ps,H b=some (.tbl ps)->∃ more,H' b=some (.tbl (ps++more)))
  (ns:∀ m,s.heap.Ns X.env.locals m->h'.Ns X.env.locals m) (hok:HOk X.prog X.w H' h') (hg:AllBare g') :
  Inv X pins σ H' { s with heap:=h',gens:=g',drawn:=d',toks:=t' }:=by
 have neL:∀ b o,X.s₀.heap.get? b=some o->b≠X.env.locals:=fun b o e=>Nat.ne_of_lt (Nat.lt_of_lt_of_le (Heap.lt_size e) I.ok.above)
 have neC:∀ b o,X.s₀.heap.get? b=some o->b∉X.ex->b∉ch:=fun b o e hx hb=>by
  rcases (hch b hb).1 with z | z
  ·exact hx z
  ·exact absurd (Nat.lt_of_lt_of_le (Heap.lt_size e) z) (Nat.lt_irrefl _)
 have cellK:∀ x c,X.env.cells.lookup x=some c->∀ v,s.heap.IsCell c v->h'.IsCell c v:=fun x c e v ⟨o,ho,hd⟩=>by
  have nch:c∉ch:=fun z=>(hch c z).2.2.1 x c e rfl
  by_cases hc:c∈X.fs
  ·obtain⟨sl,q⟩:=slot c o (I.cne x c e) hc nch ho (I.freeC x c e)
   exact⟨_,q,hd⟩
  ·exact⟨o,keep c o (I.cne x c e) hc nch ho (I.freeC x c e),hd⟩
 refine⟨I.ok,I.os,hg,⟨fun b o e n hb hx=>?_,fun b o e n hb hx=>?_,fun b o e n hx=>?_,fun b o e hx=>?_,fun b xs e=>tups b xs (I.base.tups b xs e),fun b o xs e=>frzs b o xs (I.base.frzs b o xs e),fun b ps e=>?_⟩,?_,fun x c e=>?_,?_,fun x c e=>?_,fun p hp=>?_,hok,I.len⟩
 ·exact keep b o (neL b o e) hb (neC b o e hx) (I.base.keep b o e n hb hx) (I.base.free b o e n hx)
 ·obtain⟨sl,e1⟩:=I.base.slot b o e n hb hx
  obtain⟨sl',e2⟩:=slot b _ (neL b o e) hb (neC b o e hx) e1 (I.base.free b o e n hx)
  exact⟨sl',e2⟩
 ·obtain⟨o',e1⟩:=I.base.there b o e hx
  exact free b o' (neC b o e hx) e1 (I.base.free b o e n hx)
 ·obtain⟨o',e1⟩:=I.base.there b o e hx
  exact there b o' (neC b o e hx) e1
 ·obtain⟨m1,e1⟩:=I.base.tbls b ps e
  obtain⟨m2,e2⟩:=tbls b _ e1
  exact⟨m1++m2,by rw[e2,Array.append_assoc]⟩
 ·obtain⟨m,hn,hl⟩:=I.loc
  refine⟨m,ns m hn,fun i x v e1 e2 e3=>?_⟩
  obtain⟨u,r,l⟩:=hl i x v e1 e2 e3
  refine⟨u,r,?_⟩
  rcases l with l | ⟨k,c,e,z⟩
  ·exact .inl l
  ·exact .inr ⟨k,c,e,cellK x c e _ z⟩
 ·obtain⟨v,z⟩:=I.cell x c e
  exact⟨v,cellK x c e v z⟩
 ·obtain⟨m,⟨o,_,_,ho,_⟩,_⟩:=I.loc
  exact free _ o (fun z=>(hch _ z).2.1 rfl) ho I.free
 ·obtain⟨v,o,ho,hd⟩:=I.cell x c e
  exact free c o (fun z=>(hch c z).2.2.1 x c e rfl) ho (I.freeC x c e)
 ·obtain⟨e,n,ne,nf,d⟩:=I.pin p hp
  have nch:p.1∉ch:=fun z=>(hch p.1 z).2.2.2 p hp rfl
  exact⟨keep p.1 p.2 ne nf nch e n,free p.1 p.2 nch e n,ne,nf,d⟩
theorem Inv.un{t':Nat}(I:Inv X pins σ H s)(u:Un X.fs [] H H' s.heap h')(hok:HOk X.prog X.w H' h'):Inv X pins σ H' { s with heap:=h',toks:=t' }:=by
 obtain⟨m,⟨o,es,ep,ho,r⟩,_⟩:=id I.loc
 obtain⟨sl,hL⟩:=u.any ho I.free (by simp)
 exact I.step (g':=s.gens) (d':=s.drawn) (ch:=[]) (fun _ z=>nomatch z) (fun b o _ hb _ e n=>u.keep b o e n hb (by simp)) (fun b o _ hb _ e n=>u.slot b o e n hb (by simp)) (fun b o _ e n=>u.free b o e n (by simp)) (fun b o _ e=>u.there b o e (by simp)) u.tups u.frzs u.tbls (fun m' hm=>by
  obtain⟨o',es',ep',ho',r'⟩:=hm
  rw[ho]at ho'; cases ho'
  exact⟨_,es',ep',hL,r'⟩) hok I.bare
theorem Inv.call{g':Array GenState}{t':Nat}{d':Drawn}{ch:List Addr}(I:Inv X pins σ H s)(u:Un (frs X.stack) ch H H' s.heap h')(hok:HOk X.prog X.w H' h')(hg:AllBare g')
  (hch:∀ b∈ch,(b∈X.ex\/X.s₀.heap.objs.size<=b)/\b≠X.env.locals/\(∀ x c,X.env.cells.lookup x=some c->c≠b)/\∀ p∈X.pn++pins,p.1≠b) :
  Inv X pins σ H' { s with heap:=h',gens:=g',drawn:=d',toks:=t' }:=by
 obtain⟨m,⟨o,es,ep,ho,r⟩,_⟩:=id I.loc
 obtain⟨sl,hL⟩:=u.any ho I.free fun z=>(hch _ z).2.1 rfl
 exact I.step (ch:=ch) hch (fun b o hL hb hc e n=>u.keep b o e n (fun z=>(List.mem_cons.mp (I.stkSub b z)).elim hL hb) hc) (fun b o _ _ hc e n=>u.any e n hc) (fun b o hc e n=>u.free b o e n hc) (fun b o hc e=>u.there b o e hc) u.tups u.frzs u.tbls (fun m' hm=>by
  obtain⟨o',es',ep',ho',r'⟩:=hm
  rw[ho]at ho'; cases ho'
  exact⟨_,es',ep',hL,r'⟩) hok hg
theorem Inv.turned{t':Nat}{it:Addr}(I:Inv X pins σ H s)(k:∀ b o,b≠it->s.heap.get? b=some o->h'.get? b=some o)(hn:H it=none)(hL:it≠X.env.locals)
  (h1:it∈X.ex\/X.s₀.heap.objs.size<=it) (h2:∀ x c,X.env.cells.lookup x=some c->c≠it) (h3:∀ p∈X.pn++pins,p.1≠it):Inv X pins σ H { s with heap:=h',toks:=t' }:=by
 have nit:∀ b u,H b=some u->b≠it:=fun b u e z=>by rw[z,hn]at e; cases e
 refine I.step (g':=s.gens) (d':=s.drawn) (ch:=[it]) (fun b hb=>?_) (fun b o _ _ hc e _=>k b o (fun z=>hc (by simp[z])) e) (fun b o _ _ hc e _=>⟨o.slots,k b o (fun z=>hc (by simp[z])) e⟩) (fun _ _ _ _ n=>n)
  (fun b o hc e=>⟨o,k b o (fun z=>hc (by simp[z])) e⟩) (fun _ _ e=>e) (fun _ _ _ e=>e) (fun b ps e=>⟨#[],by rw[e]; simp⟩) (fun m hm=>?_) (fun b u e=>?_) I.bare
 ·have e:b=it:=by simpa using hb
  subst e
  exact⟨h1,hL,h2,h3⟩
 ·obtain⟨o,es,ep,ho,r⟩:=hm
  exact⟨o,es,ep,k _ o (Ne.symm hL) ho,r⟩
 ·refine (I.hok b u e).stay (fun c v hc q=>k c v ?_ q) (fun _ q=>q) fun _ _ q=>q
  rcases hc with z | z
  ·rw[z]; exact nit b u e
  ·exact nit c _ z
theorem Inv.tok(I:Inv X pins σ H s)(t:Nat):Inv X pins σ H { s with toks:=t }:=I.un (h':=s.heap) (t':=t) Un.refl I.hok
theorem Inv.kept{t':Nat}(I:Inv X pins σ H s)(k:∀ b u,s.heap.get? b=some u->h'.get? b=some u):Inv X pins σ H { s with heap:=h',toks:=t' }:=I.un (Un.kept k) (I.hok.kept k)
theorem Inv.laid{a:Addr}{o:HO}{t':Nat}(I:Inv X pins σ H s)(k:∀ b u,s.heap.get? b=some u->h'.get? b=some u)(hp:s.heap.objs.size<=a)(new:ObjOk X.prog X.w (upd H a o) h' a o) :
  Inv X pins σ (upd H a o) { s with heap:=h',toks:=t' }:=I.un (Un.laid k hp (I.hok.fresh hp)) (I.hok.laid k hp new)
theorem Inv.write{x e:Addr}{o:HO}{t':Nat}(I:Inv X pins σ H s)(mu:Mut (H x))(he:e=x\/H e=some (.own x))(k:∀ b u,b≠e->s.heap.get? b=some u->h'.get? b=some u)(heo:∃ u,h'.get? e=some u)
  (new:ObjOk X.prog X.w (upd H x o) h' x o):Inv X pins σ (upd H x o) { s with heap:=h',toks:=t' }:=I.un (Un.write mu he k heo) (I.hok.write mu he k heo new)
theorem Inv.pins_of{pins':List (Addr×Obj)}(I:Inv X pins σ H s)(h:∀ p∈pins',s.heap.get? p.1=some p.2/\H p.1=none/\p.1≠X.env.locals/\p.1∉X.fs/\∀ v,p.2.data≠.cell v):Inv X pins' σ H s :=
 ⟨I.ok,I.os,I.bare,I.base,I.loc,I.cell,I.free,I.freeC,fun p hp=>(List.mem_append.mp hp).elim (fun z=>I.pin p (List.mem_append_left _ z)) (h p),I.hok,I.len⟩
theorem zF9{N:List Str}(hN:N.Nodup){i j:Nat}{x:Str}(a:N[i]?=some x)(b:N[j]?=some x):i=j:=by
 obtain⟨h1,e1⟩:=List.getElem?_eq_some_iff.mp a
 obtain⟨h2,e2⟩:=List.getElem?_eq_some_iff.mp b
 exact (List.getElem_inj hN).mp (e1.trans e2.symm)
theorem zKK{M:Model}{A:Around}{E:Value->Shared->Prop}{i:Nat}{x:Str}{v:V}{u:Value}{Q:Unit->Shared->Prop}(I:Inv X pins σ H s)(hN:X.N.Nodup)(hi:X.N[i]?=some x)(hx:Loc X.env.scope x)(r:RelV v u)
  (h:∀ s',Inv X pins (σ.set i (some v)) H s'->(∃ a,Heap.SameBut a s.heap s'.heap/\(a=X.env.locals\/X.env.cells.lookup x=some a))->Q () s') (hf:X.fn x=true\/X.env.scope.names.lookup x=some .local:=by first | exact .inl rfl | exact .inr rfl | assumption):wpAny M A (storeName X.env x u) Q E s:=by
 obtain⟨m,hn,hl⟩:=id I.loc
 have hcls:(X.env.scope.kind == .class || (X.env.scope.kind == .module && X.env.locals != X.env.globals))=false:=by rw[I.ok.kind]; rfl
 have hiσ:i < σ.length:=by rw[I.len]; exact (List.getElem?_eq_some_iff.mp hi).1
 have cne:=I.cne
 have tracked:∀ {a:Addr} {h':Heap},(∃ o,s.heap.get? a=some o/\H a=none)->Heap.SameBut a s.heap h'->HOk X.prog X.w H h':=fun {a h'} ha hs b ob e=>by
  obtain⟨_,_,hfree⟩:=ha
  refine (I.hok b ob e).stay (fun c w' hc q=>(hs.2 c ?_).trans q) (fun _ q=>q) fun _ _ q=>q
  rintro rfl
  rcases hc with rfl | hc
  ·rw[hfree]at e; cases e
  ·rw[hfree]at hc; cases hc
 rcases hx with hk | hk
 ·refine wpAny_storeName_local hk hn (fun h' hn' hs=>?_) hcls
  obtain⟨oL,_,_,hoL,_⟩:=id hn
  refine h _ ⟨I.ok,I.os,I.bare,⟨fun b o e n hb hx=>?_,fun b o e n hb hx=>?_,I.base.free,fun b o e hx=>?_,I.base.tups,I.base.frzs,I.base.tbls⟩,⟨_,hn',fun j y v' e1 e2 e3=>?_⟩,fun y c e=>?_,I.free,I.freeC,fun p hp=>?_,tracked ⟨oL,hoL,I.free⟩ hs,by simpa using I.len⟩ ⟨_,hs,.inl rfl⟩
  ·exact (hs.2 b (Nat.ne_of_lt (Nat.lt_of_lt_of_le (Heap.lt_size e) I.ok.above))).trans (I.base.keep b o e n hb hx)
  ·obtain⟨sl,e1⟩:=I.base.slot b o e n hb hx
   exact⟨sl,(hs.2 b (Nat.ne_of_lt (Nat.lt_of_lt_of_le (Heap.lt_size e) I.ok.above))).trans e1⟩
  ·obtain⟨o',e1⟩:=I.base.there b o e hx
   exact⟨o',(hs.2 b (Nat.ne_of_lt (Nat.lt_of_lt_of_le (Heap.lt_size e) I.ok.above))).trans e1⟩
  ·by_cases hj:j=i
   ·subst hj
    rw[hi]at e1; cases e1
    rw[List.getElem?_set_self hiσ]at e2
    cases e2
    exact⟨u,r,.inl ⟨hk,by simp⟩⟩
   ·rw[List.getElem?_set_ne (Ne.symm hj)]at e2
    obtain⟨u',r',q⟩:=hl j y v' e1 e2 e3
    refine⟨u',r',?_⟩
    rcases q with ⟨k,e⟩ | ⟨k,c,e,z⟩
    ·refine .inl ⟨k,?_⟩
     have:y≠x:=fun e=>hj (zF9 hN e1 (e ▸ hi))
     simp[this,e]
    ·exact .inr ⟨k,c,e,z.sameBut hs (cne y c e)⟩
  ·obtain⟨w',z⟩:=I.cell y c e
   exact⟨w',z.sameBut hs (cne y c e)⟩
  ·obtain⟨e,n,ne,nf,d⟩:=I.pin p hp
   exact⟨(hs.2 p.1 ne).trans e,n,ne,nf,d⟩
 ·have hfn:X.fn x=true:=by
   rcases hf with z | z
   ·exact z
   ·rw[z]at hk; cases hk
  obtain⟨c,hc⟩:=I.ok.has x (.inl hk)
  obtain⟨w',z⟩:=I.cell x c hc
  refine wpAny_storeName_cell I.ok.kind hk hc z (fun h' hc' hs=>?_)
  obtain⟨oc,hoc,hocd⟩:=id z
  refine h { s with heap:=h' } ⟨I.ok,I.os,I.bare,⟨fun b o e n hb hx=>?_,fun b o e n hb hx=>?_,I.base.free,fun b o e hx=>?_,I.base.tups,I.base.frzs,I.base.tbls⟩,⟨m,hn.sameBut hs (Ne.symm (cne x c hc)),fun j y v' e1 e2 e3=>?_⟩,fun y c' e=>?_,I.free,I.freeC,fun p hp=>?_,tracked ⟨oc,hoc,I.freeC x c hc⟩ hs,by simpa using I.len⟩ ⟨c,hs,.inr hc⟩
  ·exact (hs.2 b (Nat.ne_of_lt (Nat.lt_of_lt_of_le (Heap.lt_size e) (I.ok.cab x c hfn hc)))).trans (I.base.keep b o e n hb hx)
  ·obtain⟨sl,e1⟩:=I.base.slot b o e n hb hx
   exact⟨sl,(hs.2 b (Nat.ne_of_lt (Nat.lt_of_lt_of_le (Heap.lt_size e) (I.ok.cab x c hfn hc)))).trans e1⟩
  ·obtain⟨o',e1⟩:=I.base.there b o e hx
   exact⟨o',(hs.2 b (Nat.ne_of_lt (Nat.lt_of_lt_of_le (Heap.lt_size e) (I.ok.cab x c hfn hc)))).trans e1⟩
  ·by_cases hj:j=i
   ·subst hj
    rw[hi]at e1; cases e1
    rw[List.getElem?_set_self hiσ]at e2
    cases e2
    exact⟨u,r,.inr ⟨.inl hk,c,hc,hc'⟩⟩
   ·rw[List.getElem?_set_ne (Ne.symm hj)]at e2
    obtain⟨u',r',q⟩:=hl j y v' e1 e2 e3
    refine⟨u',r',?_⟩
    rcases q with q | ⟨k,c',e,z'⟩
    ·exact .inl q
    ·refine .inr ⟨k,c',e,z'.sameBut hs ?_⟩
     rintro rfl
     exact hj (zF9 hN e1 (I.ok.inj _ _ _ e hc ▸ hi))
  ·by_cases hcc:c'=c
   ·subst hcc; exact⟨_,hc'⟩
   ·obtain⟨w2,z2⟩:=I.cell y c' e
    exact⟨w2,z2.sameBut hs hcc⟩
  ·obtain⟨e,n,ne,nf,d⟩:=I.pin p hp
   refine⟨(hs.2 p.1 ?_).trans e,n,ne,nf,d⟩
   intro q
   rw[q,hoc]at e
   have q':oc=p.2:=Option.some.inj e
   exact d w' (by rw[← q']; exact hocd)
theorem zBS{M:Model}{A:Around}{E:Value->Shared->Prop}{i:Nat}{x:Str}{v:V}{u:Value}{Q:Unit->Shared->Prop}(I:Inv X pins σ H s)(hN:X.N.Nodup)(hi:X.N[i]?=some x)(hx:Loc X.env.scope x)(r:RelV v u)
  (h:∀ s',Inv X pins (σ.set i (some v)) H s'->Q () s') (hf:X.fn x=true\/X.env.scope.names.lookup x=some .local:=by first | exact .inl rfl | exact .inr rfl | assumption):wpAny M A (storeName X.env x u) Q E s :=
 zKK I hN hi hx r (fun s' I' _=>h s' I') hf
theorem Inv.call'{s':Shared}{ch:List Addr}(I:Inv X pins σ H s)(ho:s'.os=s.os)(u:Un (frs X.stack) ch H H' s.heap s'.heap)(hok:HOk X.prog X.w H' s'.heap)(hg:AllBare s'.gens)
  (hch:∀ b∈ch,(b∈X.ex\/X.s₀.heap.objs.size<=b)/\b≠X.env.locals/\(∀ x c,X.env.cells.lookup x=some c->c≠b)/\∀ p∈X.pn++pins,p.1≠b):Inv X pins σ H' s':=by
 obtain⟨h',g',d',t',o'⟩:=s'
 have e:o'=s.os:=ho
 subst e
 exact I.call (g':=g') (t':=t') (d':=d') u hok hg hch
end
abbrev XK:=Value->Option Addr->Hp->Prop
abbrev St:=List (Option V)
abbrev VK:=V->Hp->Prop
abbrev TE:=St->Hp->VK->Prop
abbrev TT:=St->Hp->(Bool->Hp->Prop)->Prop
abbrev TA:=St->Hp->(List V->Hp->Prop)->Prop
structure Ends where
 nx:St->Hp->Prop
 rt:VK
 bk:St->Hp->Prop:=fun _ _=>False
 ct:St->Hp->Prop:=fun _ _=>False
abbrev TS:=Ends->St->Hp->Prop
def EP(X:Cx)(pins:List (Addr×Obj))(σ:St)(Q:VK)(u:Value)(s':Shared):Prop:=∃ v H',Inv X pins σ H' s'/\RelV v u/\Q v H'
def TP(X:Cx)(pins:List (Addr×Obj))(σ:St)(Q:Bool->Hp->Prop)(b:Bool)(s':Shared):Prop:=∃ H',Inv X pins σ H' s'/\Q b H'
def AP(X:Cx)(pins:List (Addr×Obj))(σ:St)(Q:List V->Hp->Prop)(us:List Value)(s':Shared):Prop:=∃ vs H',Inv X pins σ H' s'/\Vals vs us/\Q vs H'
def SP(X:Cx)(pins:List (Addr×Obj))(D:Ends)(f:Flow)(s':Shared):Prop :=
 match f with
 | .next=>∃ σ' H',Inv X pins σ' H' s'/\D.nx σ' H'
 | .brk=>∃ σ' H',Inv X pins σ' H' s'/\D.bk σ' H'
 | .cont=>∃ σ' H',Inv X pins σ' H' s'/\D.ct σ' H'
 | .ret u=>∃ v σ' H',Inv X pins σ' H' s'/\RelV v u/\D.rt v H'
def PE(X:Cx)(e:Expr)(t:TE):Prop :=
 ∀ (pins:List (Addr×Obj)) (s:Shared) (σ:St) (H:Hp) (Q:VK),Inv X pins σ H s->t σ H Q->wpAny (model X.prog X.w) X.A (eval e X.env) (EP X pins σ Q) X.xe s
def PT(X:Cx)(e:Expr)(t:TT):Prop :=
 ∀ (pins:List (Addr×Obj)) (s:Shared) (σ:St) (H:Hp) (Q:Bool->Hp->Prop),Inv X pins σ H s->t σ H Q->wpAny (model X.prog X.w) X.A (isTrue e X.env (eval e X.env)) (TP X pins σ Q) X.xe s
def PW(X:Cx)(e:Expr)(t:TT):Prop :=
 ∀ (whole:Sem Value) (pins:List (Addr×Obj)) (s:Shared) (σ:St) (H:Hp) (Q:Bool->Hp->Prop),Inv X pins σ H s->t σ H Q->wpAny (model X.prog X.w) X.A (isTrue e X.env whole) (TP X pins σ Q) X.xe s
theorem PW.pt{X:Cx}{e:Expr}{t:TT}(h:PW X e t):PT X e t:=h _
def PA(X:Cx)(es:List Expr)(t:TA):Prop :=
 ∀ (pos:Pos) (pins:List (Addr×Obj)) (s:Shared) (σ:St) (H:Hp) (Q:List V->Hp->Prop),Inv X pins σ H s->t σ H Q->wpAny (model X.prog X.w) X.A (spliced (backTo pos (starEach es X.env))) (AP X pins σ Q) X.xe s
def PS(X:Cx)(st:Stmt)(t:TS):Prop :=
 ∀ (pins:List (Addr×Obj)) (s:Shared) (σ:St) (H:Hp) (D:Ends),Inv X pins σ H s->t D σ H->wpAny (model X.prog X.w) X.A (exec st X.env) (SP X pins D) X.xe s
def PSs(X:Cx)(st:List Stmt)(t:TS):Prop :=
 ∀ (pins:List (Addr×Obj)) (s:Shared) (σ:St) (H:Hp) (D:Ends),Inv X pins σ H s->t D σ H->wpAny (model X.prog X.w) X.A (execs st X.env) (SP X pins D) X.xe s
theorem thn{α:Type}{t:Sem α}{Q Q':α->Shared->Prop}{M:Model}{A:Around}{E:Value->Shared->Prop}{s:Shared}(h:wpAny M A t Q E s)(hQ:∀ a s,Q a s->Q' a s):wpAny M A t Q' E s:=wpAny_mono h hQ fun _ _ x=>x
section
variable {X:Cx}
theorem bin{a b:Expr}{ta tb:TE}(ha:PE X a ta)(hb:PE X b tb){pins:List (Addr×Obj)}{s:Shared}{σ:St}{H:Hp}{R:V->V->Hp->Prop}(I:Inv X pins σ H s)(h:ta σ H fun x H1=>tb σ H1 fun y H2=>R x y H2)
  {α:Type} {Q:α->Shared->Prop} {f:Value->Value->Sem α}
  (hf:∀ v u s2 x y H2,Inv X pins σ H2 s2->RelV x v->RelV y u->R x y H2->wpAny (model X.prog X.w) X.A (f v u) Q X.xe s2) :
  wpAny (model X.prog X.w) X.A (eval a X.env) (fun v s₁=>wpAny (model X.prog X.w) X.A (eval b X.env) (fun u s₂=>wpAny (model X.prog X.w) X.A (f v u) Q X.xe s₂) X.xe s₁) X.xe s:=by
 refine thn (ha pins s σ H _ I h) fun v s1 ⟨x,H1,I1,r1,q1⟩=>?_
 refine thn (hb pins s1 σ H1 _ I1 q1) fun u s2 ⟨y,H2,I2,r2,q2⟩=>?_
 exact hf v u s2 x y H2 I2 r1 r2 q2
def tVar(i:Nat):TE:=fun σ H Q=>∃ v,σ[i]?=some (some v)/\Q v H
def tC(v:V):TE:=fun _ H Q=>Q v H
theorem zFZ{i:Nat}{x:Str}{pos:Pos}(hN:X.N[i]?=some x)(hv:Vis X.env.scope x)(hd:(x == ("__debug__":Str))=false:=by decide)(hcd:(x == ("__classdict__":Str))=false:=by decide):PE X (.Name x pos) (tVar i):=by
 intro pins s σ H Q I h
 obtain⟨v,e,h⟩:=h
 obtain⟨m,hn,hl⟩:=I.loc
 obtain⟨u,r,l⟩:=hl i x v hN e hv
 have fin:EP X pins σ Q u s:=⟨v,H,I,r,h⟩
 rcases l with ⟨hk,hm⟩ | ⟨hk,c,hc,hcell⟩
 ·exact wpAny_Name (wpAny_loadName_local I.ok.kind hk hn hm fin) hd
 ·rcases hk with hk | hk
  ·exact wpAny_Name (wpAny_loadName_cell I.ok.kind hk hc hcell fin) hd
  ·exact wpAny_Name (wpAny_loadName_free I.ok.kind hk hc hcell fin hcd) hd
theorem zNi{i j pos}:PE X (.Constant (.int i) j pos) (tC (.int i)):=fun _ _ _ H _ I h=>wpAny_Constant_int ⟨.int i,H,I.tok _,⟨_,rfl⟩,h⟩
theorem zPW{b j pos}:PE X (.Constant (.bool b) j pos) (tC (.bl b)):=fun _ _ _ H _ I h=>Constant_bool ⟨.bl b,H,I,rfl,h⟩
theorem zNe{j pos}:PE X (.Constant .none j pos) (tC .non):=fun _ _ _ H _ I h=>Constant_none ⟨.non,H,I,rfl,h⟩
theorem zJv{x j pos}:PE X (.Constant (.str x) j pos) (tC (.str x)):=fun _ _ _ H _ I h=>Calls.Constant_str ⟨.str x,H,I.tok _,⟨_,rfl⟩,h⟩
def Gl(X:Cx)(x:Str):Prop:=X.env.kindOf x=some .globalImplicit
theorem zHK{E:Value->Shared->Prop}{pins:List (Addr×Obj)}{s:Shared}{σ:St}{H:Hp}{x:Str}{u:Value}{pos:Pos}{Q:Value->Shared->Prop}(I:Inv X pins σ H s)(hg:Gl X x)(hm:X.mg x=some u)(h:Q u s)
  (hd:(x == ("__debug__":Str))=false:=by decide):wpAny (model X.prog X.w) X.A (eval (.Name x pos) X.env) Q E s :=
 Calls.Name_function_global I.ok.kind hg (Calls.loadGlobal_global (by rw[I.ok.glob]; exact I.mod.glob.keeps I.bk) hm h) hd
theorem zBE{E:Value->Shared->Prop}{pins:List (Addr×Obj)}{s:Shared}{σ:St}{H:Hp}{x:Str}{u:Value}{pos:Pos}{Q:Value->Shared->Prop}(I:Inv X pins σ H s)(hg:Gl X x)(hm:X.mg x=none)(hv:bootBuiltins x=some u)(h:Q u s)
  (hn:x≠"__name__":=by decide) (hd:(x == ("__debug__":Str))=false:=by decide):wpAny (model X.prog X.w) X.A (eval (.Name x pos) X.env) Q E s:=by
 obtain⟨mb,h1,h2⟩:=I.mod.blt
 exact Calls.Name_function_global I.ok.kind hg (Calls.loadGlobal_builtin (by rw[I.ok.glob]; exact I.mod.glob.keeps I.bk) hm (by rw[I.ok.blt]; exact h1.keeps I.bk) ((h2 x hn).trans hv) h) hd
theorem zHC{x:Str}{v:V}{u:Value}{pos:Pos}(hg:Gl X x)(hm:X.mg x=some u)(r:RelV v u)(hd:(x == ("__debug__":Str))=false:=by decide):PE X (.Name x pos) (tC v) :=
 fun _ _ _ H _ I h=>zHK I hg hm ⟨v,H,I,r,h⟩ hd
theorem zLz{x:Str}{v:V}{u:Value}{pos:Pos}(hg:Gl X x)(hm:X.mg x=none)(hv:bootBuiltins x=some u)(r:RelV v u)(hn:x≠"__name__":=by decide)(hd:(x == ("__debug__":Str))=false:=by decide):PE X (.Name x pos) (tC v) :=
 fun _ _ _ H _ I h=>zBE I hg hm hv ⟨v,H,I,r,h⟩ hn hd
variable {a b:Expr}{ta tb:TE}{pos:Pos}
def PC(X:Cx)(op:CmpOp)(a b:Expr)(t:TE):Prop :=
 ∀ (pins:List (Addr×Obj)) (s:Shared) (σ:St) (H:Hp) (Q:VK),Inv X pins σ H s->t σ H Q ->
  wpAny (model X.prog X.w) X.A (eval a X.env) (fun v s₁=>wpAny (model X.prog X.w) X.A (eval b X.env) (fun u s₂=>wpAny (model X.prog X.w) X.A (compareOp op v u) (EP X pins σ Q) X.xe s₂) X.xe s₁) X.xe s
variable {tA tB':TT}{rest:List Expr}
def tAnd(t u:TT):TT:=fun σ H Q=>t σ H fun c H1=>if c=true then u σ H1 Q else Q false H1
def tOr(t u:TT):TT:=fun σ H Q=>t σ H fun c H1=>if c=true then Q true H1 else u σ H1 Q
def tNot(t:TT):TT:=fun σ H Q=>t σ H fun c H1=>Q (!c) H1
theorem zMX(ha:PT X a tA):PW X (.BoolOp .And [a] pos) tA:=by
 intro wh pins s σ H Q I h
 refine isTrue_and (thn (ha pins s σ H Q I h) fun c s1 e=>?_)
 cases c with
 | true=>exact isTrue_and_nil e
 | false=>exact e
theorem zNl(ha:PT X a tA):PW X (.BoolOp .Or [a] pos) tA:=by
 intro wh pins s σ H Q I h
 refine isTrue_or (thn (ha pins s σ H Q I h) fun c s1 e=>?_)
 cases c with
 | false=>exact isTrue_or_nil e
 | true=>exact e
theorem zOW(ha:PT X a tA)(hb:PW X (.BoolOp .And (b::rest) pos) tB'):PW X (.BoolOp .And (a::b::rest) pos) (tAnd tA tB'):=by
 intro wh pins s σ H Q I h
 refine isTrue_and (thn (ha pins s σ H _ I h) fun c s1 ⟨H1,I1,q1⟩=>?_)
 cases c with
 | true=>exact hb wh pins s1 σ H1 Q I1 q1
 | false=>exact⟨H1,I1,q1⟩
theorem zOu(ha:PT X a tA)(hb:PW X (.BoolOp .Or (b::rest) pos) tB'):PW X (.BoolOp .Or (a::b::rest) pos) (tOr tA tB'):=by
 intro wh pins s σ H Q I h
 refine isTrue_or (thn (ha pins s σ H _ I h) fun c s1 ⟨H1,I1,q1⟩=>?_)
 cases c with
 | true=>exact⟨H1,I1,q1⟩
 | false=>exact hb wh pins s1 σ H1 Q I1 q1
theorem zN0(ha:PT X a tA):PT X (.UnaryOp .Not a pos) (tNot tA):=by
 intro pins s σ H Q I h
 exact isTrue_not (ha pins s σ H (fun c H1=>Q (!c) H1) I h)
def tAndV(ta tb:TE):TE:=fun σ H Q=>ta σ H fun x H1=>∃ c,x=.bl c/\if c=true then tb σ H1 Q else Q (.bl false) H1
def tOrV(ta tb:TE):TE:=fun σ H Q=>ta σ H fun x H1=>∃ c,x=.bl c/\if c=true then Q (.bl true) H1 else tb σ H1 Q
def tNotV(ta:TE):TE:=fun σ H Q=>ta σ H fun x H1=>∃ c,x=.bl c/\Q (.bl (!c)) H1
theorem zOV{op}{t:TE}(h:PE X a t):PE X (.BoolOp op [a] pos) t:=fun pins s σ H Q I hw=>BoolOp_one (h pins s σ H Q I hw)
theorem zNn(ha:PE X a ta)(hb:PE X (.BoolOp .And (b::rest) pos) tb):PE X (.BoolOp .And (a::b::rest) pos) (tAndV ta tb):=by
 intro pins s σ H Q I h
 refine BoolOp_and (thn (ha pins s σ H _ I h) fun v s1 ⟨x,H1,I1,r1,q1⟩=>?_)
 obtain⟨c,rfl,q1⟩:=q1
 cases r1
 refine wpAny_truthy_bool ?_
 cases c with
 | true=>exact hb pins s1 σ H1 Q I1 q1
 | false=>exact⟨.bl false,H1,I1,rfl,q1⟩
theorem zQG(ha:PE X a ta)(hb:PE X (.BoolOp .Or (b::rest) pos) tb):PE X (.BoolOp .Or (a::b::rest) pos) (tOrV ta tb):=by
 intro pins s σ H Q I h
 refine BoolOp_or (thn (ha pins s σ H _ I h) fun v s1 ⟨x,H1,I1,r1,q1⟩=>?_)
 obtain⟨c,rfl,q1⟩:=q1
 cases r1
 refine wpAny_truthy_bool ?_
 cases c with
 | false=>exact hb pins s1 σ H1 Q I1 q1
 | true=>exact⟨.bl true,H1,I1,rfl,q1⟩
theorem zOl(ha:PE X a ta):PE X (.UnaryOp .Not a pos) (tNotV ta):=by
 intro pins s σ H Q I h
 refine UnaryOp_ (thn (ha pins s σ H _ I h) fun v s1 ⟨x,H1,I1,r1,q1⟩=>?_)
 obtain⟨c,rfl,q1⟩:=q1
 cases r1
 exact not_of (wpAny_truthy_bool ⟨.bl (!c),H1,I1,rfl,q1⟩)
def tIf(t:TT)(ta tb:TE):TE:=fun σ H Q=>t σ H fun c H1=>if c=true then ta σ H1 Q else tb σ H1 Q
theorem zKv{c:Expr}(hc:PT X c tA)(ha:PE X a ta)(hb:PE X b tb):PE X (.IfExp c a b pos) (tIf tA ta tb):=by
 intro pins s σ H Q I h
 refine wpAny_IfExp (thn (hc pins s σ H _ I h) fun d s1 ⟨H1,I1,q1⟩=>?_)
 cases d with
 | true=>exact ha pins s1 σ H1 Q I1 q1
 | false=>exact hb pins s1 σ H1 Q I1 q1
end
def SqL(K:PySem.W.Frag)(H:Hp)(a:Addr)(xs:List V):Prop :=
 Rd H a (.lst xs) \/
  ∃ (o:Obj) (its:Array Value) (n:Nat),K.lookup a=some o/\o.cls=.type "list"/\o.dict=none/\o.data=.seq its n/\its.size<=sizeLine/\Vals xs its.toList
def SqT(K:PySem.W.Frag)(H:Hp)(a:Addr)(xs:List V):Prop :=
 Rd H a (.tup xs) \/
  ∃ (o:Obj) (its:Array Value) (n:Nat),K.lookup a=some o/\o.cls=.type "tuple"/\o.data=.seq its n/\its.size<=sizeLine/\Vals xs its.toList
def absV:Value->Option V
 | .none=>some .non
 | .bool b=>some (.bl b)
 | .int i _=>some (.int i)
 | .str x _=>some (.str x)
 | .bytes b _=>some (.byt b)
 | .float b _=>some (.flt b)
 | .ref a=>some (.ref a)
 | .type n=>some (.ty n)
 | _=>none
theorem RelV.abs{x:V}{u:Value}(r:RelV x u):absV u=some x:=by
 cases x with
 | non=>cases r; rfl
 | bl _=>cases r; rfl
 | int _=>obtain⟨t,rfl⟩:=r; rfl
 | str _=>obtain⟨t,rfl⟩:=r; rfl
 | byt _=>obtain⟨t,rfl⟩:=r; rfl
 | flt _=>obtain⟨t,rfl⟩:=r; rfl
 | ref _=>cases r; rfl
 | ty _=>cases r; rfl
theorem RelV.inj{x y:V}{u:Value}(r:RelV x u)(q:RelV y u):x=y:=Option.some.inj (r.abs.symm.trans q.abs)
theorem Vals.inj:∀ {xs ys:List V} {us:List Value},Vals xs us->Vals ys us->xs=ys
 | _,_,_,.nil,.nil=>rfl
 | _,_,_,.cons r t,.cons r' t'=>by rw[r.inj r',Vals.inj t t']
section
variable {X:Cx}{pins:List (Addr×Obj)}{σ:St}{H:Hp}{s:Shared}{a:Addr}{xs ys:List V}
theorem SqL.of{K:PySem.W.Frag}(h:H a=some (.lst xs)):SqL K H a xs:=.inl (.inl h)
theorem SqT.of{K:PySem.W.Frag}(h:H a=some (.tup xs)):SqT K H a xs:=.inl (.inl h)
theorem Inv.list(I:Inv X pins σ H s)(h:SqL X.K H a xs):∃ its:List Value,Vals xs its/\PlainL s.heap a its.toArray/\xs.length<=sizeLine:=by
 rcases h with h | ⟨o,its,n,hk,hc,hd,hs,hz,r⟩
 ·obtain⟨z,its,n,r,e⟩:=h.ok I.hok
  exact⟨its,r,⟨_,n,e,rfl,rfl,rfl⟩,z⟩
 ·refine⟨its.toList,r,⟨o,n,I.kIn a o hk,hc,hd,by simpa using hs⟩,?_⟩
  have e:=r.length
  simp only[Array.length_toList]at e
  omega
theorem Inv.tuple(I:Inv X pins σ H s)(h:SqT X.K H a xs):∃ its:List Value,Vals xs its/\IsTup s.heap a its.toArray/\xs.length<=sizeLine:=by
 rcases h with h | ⟨o,its,n,hk,hc,hs,hz,r⟩
 ·obtain⟨z,its,r,p⟩:=h.ok I.hok
  exact⟨its,r,p.tup,z⟩
 ·refine⟨its.toList,r,⟨o,I.kIn a o hk,hc,n,by simpa using hs⟩,?_⟩
  have e:=r.length
  simp only[Array.length_toList]at e
  omega
theorem Inv.list_inj(I:Inv X pins σ H s)(h:SqL X.K H a xs)(h':SqL X.K H a ys):xs=ys:=by
 obtain⟨its,r,⟨o,n,e,_,_,d⟩,_⟩:=I.list h
 obtain⟨its',r',⟨o',n',e',_,_,d'⟩,_⟩:=I.list h'
 rw[e]at e'; cases e'
 rw[d]at d'
 injection d' with d1 _
 have:its=its':=by simpa using congrArg Array.toList d1
 subst this
 exact r.inj r'
theorem Inv.tuple_inj(I:Inv X pins σ H s)(h:SqT X.K H a xs)(h':SqT X.K H a ys):xs=ys:=by
 obtain⟨its,r,⟨o,e,_,n,d⟩,_⟩:=I.tuple h
 obtain⟨its',r',⟨o',e',_,n',d'⟩,_⟩:=I.tuple h'
 rw[e]at e'; cases e'
 rw[d]at d'
 injection d' with d1 _
 have:its=its':=by simpa using congrArg Array.toList d1
 subst this
 exact r.inj r'
end
abbrev Cx.wish(X:Cx)(E:Value->Shared->Prop):Cx:={ X with xe:=E }
abbrev Cx.nox(X:Cx):Cx:=X.wish fun _ _=>False
theorem Cx.Ok.wish{X:Cx}(ok:X.Ok)(E:Value->Shared->Prop):(X.wish E).Ok :=
 ⟨ok.mod,ok.kind,ok.glob,ok.blt,ok.above,ok.inj,ok.has,ok.cab,ok.hd,ok.frames,ok.stk,ok.exf,ok.bs,ok.bsz,ok.noex,ok.exfs,ok.funs,ok.frf⟩
theorem Cx.Ok.unwish{X:Cx}{E:Value->Shared->Prop}(ok:(X.wish E).Ok):X.Ok :=
 ⟨ok.mod,ok.kind,ok.glob,ok.blt,ok.above,ok.inj,ok.has,ok.cab,ok.hd,ok.frames,ok.stk,ok.exf,ok.bs,ok.bsz,ok.noex,ok.exfs,ok.funs,ok.frf⟩
section
variable {X:Cx}{pins:List (Addr×Obj)}{σ:St}{H:Hp}{s:Shared}{E:Value->Shared->Prop}
theorem Inv.wish(I:Inv X pins σ H s)(E:Value->Shared->Prop):Inv (X.wish E) pins σ H s:=⟨I.ok.wish E,I.os,I.bare,I.base,I.loc,I.cell,I.free,I.freeC,I.pin,I.hok,I.len⟩
theorem Inv.unwish(I:Inv (X.wish E) pins σ H s):Inv X pins σ H s:=⟨I.ok.unwish,I.os,I.bare,I.base,I.loc,I.cell,I.free,I.freeC,I.pin,I.hok,I.len⟩
theorem SP.unwish{D:Ends}{f:Flow}{s':Shared}(h:SP (X.wish E) pins D f s'):SP X pins D f s':=by
 cases f with
 | next=>obtain⟨σ',H',I,q⟩:=h; exact⟨σ',H',I.unwish,q⟩
 | brk=>obtain⟨σ',H',I,q⟩:=h; exact⟨σ',H',I.unwish,q⟩
 | cont=>obtain⟨σ',H',I,q⟩:=h; exact⟨σ',H',I.unwish,q⟩
 | ret u=>obtain⟨v,σ',H',I,r,q⟩:=h; exact⟨v,σ',H',I.unwish,r,q⟩
theorem PSs.nox{st:List Stmt}{t:TS}(h:PSs X.nox st t):PSs X st t:=fun pins s σ H D I hw =>
 wpAny_mono (h pins s σ H D (I.wish _) hw) (fun _ _ q=>q.unwish) fun _ _ z=>False.elim z
end
section
variable {X:Cx}{st:Stmt}{rest:List Stmt}{t u:TS}{e:Expr}{te:TE}{pos:Pos}
def tNext:TS:=fun D σ H=>D.nx σ H
def tSeq(t u:TS):TS:=fun D σ H=>t { D with nx:=u D } σ H
theorem zMr:PSs X [] tNext:=fun _ _ σ H _ I h=>wpAny_execs_nil ⟨σ,H,I,h⟩
theorem zKV(h1:PS X st t)(h2:PSs X rest u):PSs X (st::rest) (tSeq t u):=by
 intro pins s σ H D I h
 refine wpAny_execs_cons (thn (h1 pins s σ H { D with nx:=u D } I h) fun f s1 q=>?_)
 cases f with
 | next =>
  obtain⟨σ',H',I',q⟩:=q
  exact h2 pins s1 σ' H' D I' q
 | ret v=>exact q
 | brk=>exact q
 | cont=>exact q
theorem zMm(h1:PS X st t):PSs X [st] t:=by
 intro pins s σ H D I h
 refine wpAny_execs_cons (thn (h1 pins s σ H D I h) fun f s1 q=>?_)
 cases f with
 | next=>exact wpAny_execs_nil q
 | ret v=>exact q
 | brk=>exact q
 | cont=>exact q
theorem Inv.quiet{pins:List (Addr×Obj)}{σ:St}{H:Hp}{s:Shared}(I:Inv X pins σ H s):interactive X.env=false:=by simp[interactive,I.ok.kind]
def tDrop(te:TE):TS:=fun D σ H=>te σ H fun _ H1=>D.nx σ H1
theorem zL6(he:PE X e te)(hs:swapsWith e none pos.line X.env=pure false:=by rfl):PS X (.Expr e pos) (tDrop te):=by
 intro pins s σ H D I h
 exact wpAny_Expr_any (thn (he pins s σ H _ I h) fun v s1 ⟨x,H1,I1,r1,q1⟩=>⟨σ,H1,I1,q1⟩) I.quiet hs
def tRet(te:TE):TS:=fun D σ H=>te σ H D.rt
theorem zOe(he:PE X e te):PS X (.Return (some e) pos) (tRet te):=by
 intro pins s σ H D I h
 exact wpAny_Return_some (thn (he pins s σ H _ I h) fun v s1 ⟨x,H1,I1,r1,q1⟩=>⟨x,σ,H1,I1,r1,q1⟩)
def tIfS(c:TT)(t u:TS):TS:=fun D σ H=>c σ H fun b H1=>if b=true then t D σ H1 else u D σ H1
theorem zQM{c:Expr}{a b:List Stmt}{tc:TT}(hc:PT X c tc)(ha:PSs X a t)(hb:PSs X b u):PS X (.If c a b pos) (tIfS tc t u):=by
 intro pins s σ H D I h
 refine wpAny_If (thn (hc pins s σ H _ I h) fun d s1 ⟨H1,I1,q1⟩=>?_)
 cases d with
 | true=>exact ha pins s1 σ H1 D I1 q1
 | false=>exact hb pins s1 σ H1 D I1 q1
def tNever:TS:=fun _ _ _=>False
theorem zKq:PS X st tNever:=fun _ _ _ _ _ _ h=>h.elim
end
abbrev TG:=V->St->Hp->(St->Hp->Prop)->Prop
abbrev TGs:=List V->St->Hp->(St->Hp->Prop)->Prop
def PG(X:Cx)(target:Expr)(t:TG):Prop :=
 ∀ (pins:List (Addr×Obj)) (s:Shared) (σ:St) (H:Hp) (v:V) (u:Value) (Q:St->Hp->Prop),Inv X pins σ H s->RelV v u->t v σ H Q ->
  wpAny (model X.prog X.w) X.A (assign target X.env u) (fun _ s'=>∃ σ' H',Inv X pins σ' H' s'/\Q σ' H') X.xe s
def PGs(X:Cx)(ts:List Expr)(t:TGs):Prop :=
 ∀ (pins:List (Addr×Obj)) (s:Shared) (σ:St) (H:Hp) (vs:List V) (us:List Value) (Q:St->Hp->Prop),Inv X pins σ H s->Vals vs us->t vs σ H Q ->
  wpAny (model X.prog X.w) X.A (assignInOrder ((assignEach ts X.env).map (·.2)) us) (fun _ s'=>∃ σ' H',Inv X pins σ' H' s'/\Q σ' H') X.xe s
abbrev TSet:=V->V->V->Hp->(Hp->Prop)->Prop
def PSet(X:Cx)(t:TSet):Prop :=
 ∀ (pins:List (Addr×Obj)) (s:Shared) (σ:St) (H:Hp) (o i v:V) (ov iv u:Value) (Q:Hp->Prop),Inv X pins σ H s->RelV o ov->RelV i iv->RelV v u->t o i v H Q ->
  wpAny (model X.prog X.w) X.A (setItem ov iv u) (fun _ s'=>∃ H',Inv X pins σ H' s'/\Q H') X.xe s
section
variable {X:Cx}{pos:Pos}
def gName(i:Nat):TG:=fun v σ H Q=>Q (σ.set i (some v)) H
theorem zG1{i:Nat}{x:Str}(hN:X.N.Nodup)(hi:X.N[i]?=some x)(hx:Loc X.env.scope x)(hf:X.fn x=true\/X.env.scope.names.lookup x=some .local:=by first | exact .inl rfl | exact .inr rfl | assumption):PG X (.Name x pos) (gName i):=by
 intro pins s σ H v u Q I r h
 exact wpAny_assign_Name (zBS I hN hi hx r (fun s' I'=>⟨_,H,I',h⟩) hf)
def gNil:TGs:=fun vs σ H Q=>vs=[]/\Q σ H
def gCons(t:TG)(u:TGs):TGs:=fun vs σ H Q=>∃ v r,vs=v::r/\t v σ H fun σ' H'=>u r σ' H' Q
theorem zM8:PGs X [] gNil:=by
 intro pins s σ H vs us Q I r h
 obtain⟨e,h⟩:=h
 subst e
 cases r
 exact assignInOrder_nil ⟨σ,H,I,h⟩
theorem zKf{e:Expr}{es:List Expr}{t:TG}{u:TGs}(h1:PG X e t)(h2:PGs X es u)
  (hs:(assignEach (e::es) X.env).map (·.2)=assign e X.env::(assignEach es X.env).map (·.2):=by rfl):PGs X (e::es) (gCons t u):=by
 intro pins s σ H vs us Q I r h
 obtain⟨v,vr,e1,h⟩:=h
 subst e1
 cases r with
 | cons r rr =>
  rw[hs]
  refine assignInOrder_cons (thn (h1 pins s σ H _ _ _ I r h) fun _ s1 ⟨σ1,H1,I1,q1⟩=>?_)
  exact h2 pins s1 σ1 H1 _ _ Q I1 rr q1
def gTup(K:PySem.W.Frag)(n:Nat)(t:TGs):TG:=fun v σ H Q=>∃ a xs,v=.ref a/\SqT K H a xs/\xs.length=n/\t xs σ H Q
theorem zNx{es:List Expr}{k:Nat}{t:TGs}{n:Nat}(hc:X.calm=true)(h:PGs X es t)
  (hn:(assignEach es X.env).length=n:=by rfl) (hst:(assignEach es X.env).findIdx? (·.1)=none:=by rfl):PG X (.Tuple es k pos) (gTup X.K n t):=by
 intro pins s σ H v u Q I r hw
 obtain⟨a,xs,e1,hq,hl,hw⟩:=hw
 subst e1
 cases r
 obtain⟨its,rv,ht,hz⟩:=I.tuple hq
 refine assign_Tuple_tuple (I.ok.hd hc) ht (by simp[hn,← hl,rv.length]) hst fun h' hx=>?_
 have I1:Inv X pins σ H { s with heap:=h' }:=I.kept (t':=s.toks) fun b o e=>hx b o (Nat.ne_of_lt (Heap.lt_size e)) e
 exact h pins _ σ H xs _ Q I1 (by simpa using rv) hw
def gSub(to ti:TE)(t:TSet):TG:=fun v σ H Q=>to σ H fun o H1=>ti σ H1 fun i H2=>t o i v H2 fun H3=>Q σ H3
theorem zOm{o i:Expr}{to ti:TE}{t:TSet}(ho:PE X o to)(hi:PE X i ti)(hs:PSet X t)
  (ha:∀ v,assign (.Subscript o i pos) X.env v=(do
   let ov ← holding [v] (eval o X.env)
   let iv ← holding [v,ov] (eval i X.env)
   standAt pos
   holding [v,ov,iv] (setItem ov iv v)
   release [v,ov,iv] []):=by intro _; rfl):PG X (.Subscript o i pos) (gSub to ti t):=by
 intro pins s σ H v u Q I r h
 rw[ha]
 refine wpAny_bind (wpAny_holding (thn (ho pins s σ H _ I h) fun ov s1 ⟨x,H1,I1,r1,q1⟩=>?_))
 refine wpAny_bind (wpAny_holding (thn (hi pins s1 σ H1 _ I1 q1) fun iv s2 ⟨y,H2,I2,r2,q2⟩=>?_))
 refine wpAny_bind (wpAny_standAt (wpAny_bind (wpAny_holding (thn (hs pins s2 σ H2 x y v ov iv u _ I2 r1 r2 r q2) fun _ s3 ⟨H3,I3,q3⟩=>?_))))
 exact wpAny_release ⟨σ,H3,I3,q3⟩
def tAsg(te:TE)(g:TG):TS:=fun D σ H=>te σ H fun x H1=>g x σ H1 D.nx
theorem zJX{tg e:Expr}{te:TE}{g:TG}(he:PE X e te)(hg:PG X tg g)(hs:swapsWithSole [tg] e pos.line X.env=pure false:=by rfl)(hw:swappedStores [tg] e X.env=pure none:=by rfl)
  (h1:(assignEach [tg] X.env).map (·.2)=[assign tg X.env]:=by rfl):PS X (.Assign [tg] e pos) (tAsg te g):=by
 intro pins s σ H D I h
 refine wpAny_Assign_stores (thn (he pins s σ H _ I h) fun v s1 ⟨x,H1,I1,r1,q1⟩=>?_) hs hw
 rw[h1]
 exact thn (hg pins s1 σ H1 x v _ I1 r1 q1) fun _ s2 q=>q
theorem zOB{i:Nat}{x:Str}{e:Expr}{te:TE}{pos':Pos}(hN:X.N.Nodup)(hi:X.N[i]?=some x)(hx:Loc X.env.scope x)(he:PE X e te)(hs:swapsWith e (some (.Name x pos')) pos.line X.env=pure false:=by rfl)(hf:X.fn x=true\/X.env.scope.names.lookup x=some .local:=by first | exact .inl rfl | exact .inr rfl | assumption) :
  PS X (.Assign [.Name x pos'] e pos) (tAsg te (gName i)):=by
 intro pins s σ H D I h
 refine wpAny_Assign_Name (thn (he pins s σ H _ I h) fun v s1 ⟨y,H1,I1,r1,q1⟩=>?_) hs
 exact zBS I1 hN hi hx r1 (fun s2 I2=>⟨_,H1,I2,q1⟩) hf
def tPar(i j:Nat)(ta:TA):TS:=fun D σ H=>ta σ H fun vs H1=>∃ v w,vs=[v,w]/\D.nx ((σ.set i (some v)).set j (some w)) H1
theorem zN5{i j:Nat}{x y:Str}{a b:Expr}{ta:TA}{px py pt:Pos}{kt k2 pt2}(hc:X.calm=true)(hN:X.N.Nodup)(hi:X.N[i]?=some x)(hj:X.N[j]?=some y)(hij:i≠j)
  (hx:X.env.scope.names.lookup x=some .local) (hy:X.env.scope.names.lookup y=some .local) (ha:PA X [a,b] ta)
  (hw:swappedStores [.Tuple [.Name x px,.Name y py] kt pt] (.Tuple [a,b] k2 pt2) X.env=pure (some [x,y]))
  (hs:swapsWithSole [.Tuple [.Name x px,.Name y py] kt pt] (.Tuple [a,b] k2 pt2) pos.line X.env=pure false:=by rfl) :
  PS X (.Assign [.Tuple [.Name x px,.Name y py] kt pt] (.Tuple [a,b] k2 pt2) pos) (tPar i j ta):=by
 intro pins s σ H D I h
 rw[exec_Assign_arm]
 refine wpAny_bind (wpAny_standAt ?_)
 rw[hs]
 refine wpAny_bind (wpAny_pure ?_)
 rw[if_neg (by decide)]
 refine wpAny_bind (Tuple_ (thn (ha _ pins s σ H _ I h) fun us s1 ⟨vs,H1,I1,r1,q1⟩=>?_))
 obtain⟨v,w,e1,q1⟩:=q1
 subst e1
 obtain⟨u1,u2,rfl,rv,rw'⟩:∃ u1 u2,us=[u1,u2]/\RelV v u1/\RelV w u2:=by
  cases r1 with
  | cons p q =>
   cases q with
   | cons p' q' =>
    cases q'
    exact⟨_,_,rfl,p,p'⟩
 refine wpAny_newObj_type ?_ (by show 2<=sizeLine; decide)
 have I2:Inv X pins σ H1 { s1 with heap:=s1.heap.push { cls:=.type "tuple",data:=.seq [u1,u2].toArray } }:=I1.kept (t':=s1.toks) fun b o e=>Heap.get?_push_of_some _ e
 rw[hw]
 refine wpAny_bind (wpAny_pure ?_)
 show wpAny (model X.prog X.w) X.A (do rule "assign.swapped-stores"; let items ← unpackItems (.ref s1.heap.objs.size) 2 none; assignInOrder [fun v=>bindName X.env y v,fun v=>bindName X.env x v] items.reverse; pure Flow.next) _ _ _
 refine wpAny_bind (wpAny_rule (wpAny_bind (unpackItems_tuple (items:=#[u1,u2]) (I.ok.hd hc) (IsTup.new s1.heap _) fun h' hx'=>?_)))
 have I3:=I2.kept (h':=h') (t':=s1.toks) fun b o e=>hx' b o (Nat.ne_of_lt (Heap.lt_size e)) e
 show wpAny _ _ (assignInOrder [fun v=>bindName X.env y v,fun v=>bindName X.env x v] [u2,u1] >>= fun _=>pure Flow.next) _ _ _
 refine wpAny_bind (assignInOrder_cons (wpAny_bindName (zBS I3 hN hj (.inl hy) rw' (fun s2 I4=>?_) (.inr hy))))
 refine assignInOrder_cons (wpAny_bindName (zBS I4 hN hi (.inl hx) rv (fun s3 I5=>assignInOrder_nil (wpAny_pure ?_)) (.inr hx)))
 rw[List.set_comm _ _ (Ne.symm hij)]at I5
 exact⟨_,H1,I5,q1⟩
end
section
variable {X:Cx}{pos:Pos}
def tWhile(c:TT)(tb:TS):TS:=fun D σ H=>∃ W:Nat->St->Hp->Prop,(∃ m,W m σ H)/\∀ m σ H,W m σ H ->
 c σ H fun b H1=>if b=true then ∃ N:St->Hp->Prop,(∀ σ' H',N σ' H'->∃ m',m' < m/\W m' σ' H')/\tb { D with nx:=N,ct:=N,bk:=D.nx } σ H1 else D.nx σ H1
theorem zKb{c:Expr}{body:List Stmt}{tc:TT}{tb:TS}(hp:PassesOwn (model X.prog X.w) X.A X.env X.xe)(hc:PT X c tc)(hb:PSs X body tb):PS X (.While c body [] pos) (tWhile tc tb):=by
 intro pins s σ H D I h
 obtain⟨W,⟨m0,w0⟩,turn⟩:=h
 refine wpAny_While (codeAny_whileLoop (fun n s'=>∃ σ' H',Inv X pins σ' H' s'/\W n σ' H') ?_ m0 ⟨σ,H,I,w0⟩)
 rintro n s1 ⟨σ1,H1,I1,w1⟩
 refine wpAny_passesOwn hp (thn (hc pins s1 σ1 H1 _ I1 (turn n σ1 H1 w1)) fun b s2 ⟨H2,I2,q2⟩=>?_)
 cases b with
 | true =>
  obtain⟨N,hN,q2⟩:=q2
  rw[if_pos rfl]
  refine wpAny_passesOwn hp (thn (hb pins s2 σ1 H2 _ I2 q2) fun f s3 q3=>?_)
  cases f with
  | next =>
   obtain⟨σ3,H3,I3,n3⟩:=q3
   obtain⟨m',hm,w3⟩:=hN σ3 H3 n3
   exact⟨m',hm,σ3,H3,I3,w3⟩
  | cont =>
   obtain⟨σ3,H3,I3,n3⟩:=q3
   obtain⟨m',hm,w3⟩:=hN σ3 H3 n3
   exact⟨m',hm,σ3,H3,I3,w3⟩
  | brk=>exact q3
  | ret v=>exact q3
 | false =>
  rw[if_neg Bool.false_ne_true]
  exact wpAny_execs_nil ⟨σ1,H2,I2,q2⟩
end
structure It where
 go:Nat->Hp->Prop
 yld:Nat->Hp->V->Hp->Prop
 stop:Nat->Hp->Prop
def FpOk(X:Cx)(pins:List (Addr×Obj))(H:Hp)(b:Addr):Prop :=
 H b=none/\b≠X.env.locals/\b∉X.fs/\(b∈X.ex\/X.s₀.heap.objs.size<=b)/\(∀ x c,X.env.cells.lookup x=some c->c≠b)/\∀ p∈X.pn++pins,p.1≠b
theorem Inv.fpOk{X:Cx}{pins:List (Addr×Obj)}{σ:St}{H H':Hp}{s:Shared}{b:Addr}(I:Inv X pins σ H s)(hb:s.heap.objs.size<=b)(hn:H' b=none):FpOk X pins H' b:=by
 refine⟨hn,Nat.ne_of_gt (Nat.lt_of_lt_of_le I.lt hb),I.nofs hb,.inr (Nat.le_trans I.sz hb),fun x c e z=>?_,fun p hp z=>?_⟩
 ·obtain⟨v,q⟩:=I.cell x c e
  exact absurd (Nat.lt_of_lt_of_le q.lt (by rw[z]; exact hb)) (Nat.lt_irrefl _)
 ·exact absurd (Nat.lt_of_lt_of_le (Heap.lt_size (I.pin p hp).1) (by rw[z]; exact hb)) (Nat.lt_irrefl _)
structure Turn(P:Program)(w:World)(K:PySem.W.Frag)(tg:Expr)(J:It)(fp:List Addr)(it:Addr)(tn:Nat->Heap->Prop):Prop where
 mem:it∈fp
 obj:∀ i h,tn i h->∀ b∈fp,∃ o,h.get? b=some o/\∀ v,o.data≠.cell v
 keep:∀ i h h',tn i h->(∀ b∈fp,∀ o,h.get? b=some o->h'.get? b=some o)->tn i h'
 item:∀ (X:Cx),X.prog=P->X.w=w->X.K=K->X.calm=true->∀ (i:Nat) (pins:List (Addr×Obj)) (s:Shared) (σ:St) (H:Hp) (E:Value->Shared->Prop),Inv X pins σ H s->(∀ b∈fp,FpOk X pins H b)->tn i s.heap->J.go i H ->
  wpAny (model P w) X.A (pyNext (.ref it)) (fun r s1=>∃ u,r=some u /\
   wpAny (model P w) X.A (letOwnedTupleGo tg (.ref it) u) (fun _ s2=>∃ x H',Inv X pins σ H' s2/\RelV x u/\J.yld i H x H'/\tn (i+1) s2.heap/\∀ b∈fp,H' b=none) E s1) E s
 done:∀ (X:Cx),X.prog=P->X.w=w->X.K=K->X.calm=true->∀ (i:Nat) (pins:List (Addr×Obj)) (s:Shared) (σ:St) (H:Hp) (E:Value->Shared->Prop),Inv X pins σ H s->(∀ b∈fp,FpOk X pins H b)->tn i s.heap->J.stop i H ->
  wpAny (model P w) X.A (pyNext (.ref it)) (fun r s1=>r=none/\Inv X pins σ H s1) E s
 self:∀ (A:Around) (i:Nat) (s:Shared) (Q:Value->Shared->Prop) (E:Value->Shared->Prop),tn i s.heap->Q (.ref it) s->wpAny (model P w) A (pyIter (.ref it)) Q E s
abbrev TI:=St->Hp->(It->Hp->Prop)->Prop
def PIE(X:Cx)(pins:List (Addr×Obj))(σ:St)(tg:Expr)(R:It->Hp->Prop)(itv:Value)(s2:Shared):Prop :=
 ∃ (it:Addr) (fp:List Addr) (tn:Nat->Heap->Prop) (J:It) (H':Hp),itv=.ref it/\Inv X pins σ H' s2/\Turn X.prog X.w X.K tg J fp it tn/\tn 0 s2.heap/\(∀ b∈fp,FpOk X pins H' b)/\R J H'
def PI(X:Cx)(tg iter:Expr)(wi:TI):Prop :=
 ∀ (pins:List (Addr×Obj)) (s:Shared) (σ:St) (H:Hp) (R:It->Hp->Prop),Inv X pins σ H s->wi σ H R ->
  wpAny (model X.prog X.w) X.A (eval iter X.env) (fun v s1=>wpAny (model X.prog X.w) X.A (pyIter v) (PIE X pins σ tg R) X.xe s1) X.xe s
theorem zFU{M:Model}{A:Around}{E:Value->Shared->Prop}{s:Shared}{tg:Expr}{it:Addr}{u:Value}{o:Obj}{n:String}{vs:Array Value}{Q:Unit->Shared->Prop}(ho:s.heap.get? it=some o)(hc:o.cls=.type n)(hd:o.data=.fields vs)
  (hn:["enumerate","zip","dict_itemiterator","dict_reverseitemiterator","odict_iterator","itertools.zip_longest","itertools.pairwise"].contains n=false) (hQ:Q () s):wpAny M A (letOwnedTupleGo tg (.ref it) u) Q E s:=by
 unfold letOwnedTupleGo
 cases tg <;> first
  | exact wpAny_pure hQ
  | (cases u <;> first
    | exact wpAny_pure hQ
    | (
      refine wpAny_bind (wpAny_load ho ?_)
      rw[hc,hd]
      show wpAny M A (if (["enumerate","zip","dict_itemiterator","dict_reverseitemiterator","odict_iterator","itertools.zip_longest","itertools.pairwise"].contains n && vs[0]? == some (rawInt _))=true then _ else _) Q E s
      rw[if_neg (by intro h; rw[hn,Bool.false_and]at h; cases h)]
      exact wpAny_pure hQ))
def Itl(K:PySem.W.Frag)(a:Addr):It :=
 ⟨fun i H=>∃ xs x,SqL K H a xs/\xs[i]?=some x,fun i H x H'=>H'=H/\∀ xs,SqL K H a xs->xs[i]?=some x,fun i H=>∃ xs,SqL K H a xs/\xs.length<=i⟩
def Itt(K:PySem.W.Frag)(a:Addr):It :=
 ⟨fun i H=>∃ xs x,SqT K H a xs/\xs[i]?=some x,fun i H x H'=>H'=H/\∀ xs,SqT K H a xs->xs[i]?=some x,fun i H=>∃ xs,SqT K H a xs/\xs.length<=i⟩
def Itr(lo:Int)(n:Nat):It:=⟨fun i _=>i < n,fun i H x H'=>H'=H/\x=.int (lo+i),fun i _=>n<=i⟩
theorem zKL{P:Program}{w:World}{K:PySem.W.Frag}{tg:Expr}(a it:Addr):Turn P w K tg (Itl K a) [it] it (fun i h=>h.IsListIter it a i) where
 mem:=by simp
 obj:=fun i h st b hb=>by
  have e:b=it:=by simpa using hb
  subst e
  obtain⟨o,e,c,d⟩:=st
  exact⟨o,e,fun v z=>by rw[d]at z; cases z⟩
 keep:=fun i h h' st k=>st.at fun o e=>k it (by simp) o e
 item:=by
  intro X hP hw hK hc i pins s σ H E I hf st hg
  subst hP hw hK
  obtain⟨xs,x,hq,hx⟩:=hg
  obtain⟨its,rv,p,hz⟩:=I.list hq
  obtain⟨u,hu,ru⟩:=rv.get hx
  obtain⟨f0,f1,f2,f3,f4,f5⟩:=hf it (by simp)
  refine wpAny_pyNext_list_item st p.isList (x:=u) (by simpa using hu) fun h' st' sb=>?_
  have I1:Inv X pins σ H { s with heap:=h' }:=I.turned (t':=s.toks) (fun b o hb e=>(sb.2 b hb).trans e) f0 f1 f3 f4 f5
  obtain⟨o,e,c,d⟩:=id st'
  exact⟨u,rfl,zFU (s:={ s with heap:=h' }) e c d (by decide) ⟨x,H,I1,ru,⟨rfl,fun ys hy=>by rw[I.list_inj hy hq]; exact hx⟩,st',fun b hb=>(hf b hb).1⟩⟩
 done:=by
  intro X hP hw hK hc i pins s σ H E I hf st hg
  subst hP hw hK
  obtain⟨xs,hq,hx⟩:=hg
  obtain⟨its,rv,p,hz⟩:=I.list hq
  obtain⟨f0,f1,f2,f3,f4,f5⟩:=hf it (by simp)
  have hl:=rv.length
  exact wpAny_pyNext_list_end (I.ok.hd hc) st p.isList (by simp; omega) fun h' eb=>⟨rfl,I.turned (t':=s.toks) (fun b o hb e=>eb b o hb e) f0 f1 f3 f4 f5⟩
 self:=fun _ _ _ _ _ st h=>wpAny_pyIter_listiter st h
theorem zHX{P:Program}{w:World}{K:PySem.W.Frag}{tg:Expr}(a it:Addr):Turn P w K tg (Itt K a) [it] it (fun i h=>h.IsTupleIter it a i) where
 mem:=by simp
 obj:=fun i h st b hb=>by
  have e:b=it:=by simpa using hb
  subst e
  obtain⟨o,e,c,d⟩:=st
  exact⟨o,e,fun v z=>by rw[d]at z; cases z⟩
 keep:=fun i h h' st k=>st.at fun o e=>k it (by simp) o e
 item:=by
  intro X hP hw hK hc i pins s σ H E I hf st hg
  subst hP hw hK
  obtain⟨xs,x,hq,hx⟩:=hg
  obtain⟨its,rv,p,hz⟩:=I.tuple hq
  obtain⟨u,hu,ru⟩:=rv.get hx
  obtain⟨f0,f1,f2,f3,f4,f5⟩:=hf it (by simp)
  refine wpAny_pyNext_tuple_item st (show s.heap.IsTuple a its.toArray from p) (x:=u) (by simpa using hu) fun h' st' sb=>?_
  have I1:Inv X pins σ H { s with heap:=h' }:=I.turned (t':=s.toks) (fun b o hb e=>(sb.2 b hb).trans e) f0 f1 f3 f4 f5
  obtain⟨o,e,c,d⟩:=id st'
  exact⟨u,rfl,zFU (s:={ s with heap:=h' }) e c d (by decide) ⟨x,H,I1,ru,⟨rfl,fun ys hy=>by rw[I.tuple_inj hy hq]; exact hx⟩,st',fun b hb=>(hf b hb).1⟩⟩
 done:=by
  intro X hP hw hK hc i pins s σ H E I hf st hg
  subst hP hw hK
  obtain⟨xs,hq,hx⟩:=hg
  obtain⟨its,rv,p,hz⟩:=I.tuple hq
  obtain⟨f0,f1,f2,f3,f4,f5⟩:=hf it (by simp)
  have hl:=rv.length
  exact wpAny_pyNext_tuple_end (I.ok.hd hc) st (show s.heap.IsTuple a its.toArray from p) (by simp; omega) fun h' eb=>⟨rfl,I.turned (t':=s.toks) (fun b o hb e=>eb b o hb e) f0 f1 f3 f4 f5⟩
 self:=fun _ _ _ _ _ st h=>wpAny_pyIter_tupleiter st h
theorem zHh{P:Program}{w:World}{K:PySem.W.Frag}{tg:Expr}(it:Addr)(lo:Int)(n:Nat):Turn P w K tg (Itr lo n) [it] it (fun i h=>IsRangeIter h it (lo+(i:Nat) * 1) ((n:Int) - (i:Nat)) 1) where
 mem:=by simp
 obj:=fun i h st b hb=>by
  have e:b=it:=by simpa using hb
  subst e
  exact⟨_,st,fun v z=>by
   have z':Data.fields _=Data.cell v:=z
   cases z'⟩
 keep:=fun i h h' st k=>k it (by simp) _ st
 item:=by
  intro X hP hw hK hc i pins s σ H E I hf st hg
  subst hP hw hK
  obtain⟨f0,f1,f2,f3,f4,f5⟩:=hf it (by simp)
  have W:=Walks.range (prog:=X.prog) (w:=X.w) (I.ok.hd hc) it lo 1 n
  refine W.item i s _ _ hg st fun v h' tk hv st' kk=>?_
  obtain⟨t,rfl⟩:=hv
  have I1:Inv X pins σ H { s with heap:=h',toks:=tk }:=I.turned (fun b o hb e=>kk b o (by simpa using hb) e) f0 f1 f3 f4 f5
  refine⟨_,rfl,zFU (s:={ s with heap:=h',toks:=tk }) (n:="range_iterator") st' rfl rfl (by decide) ⟨.int (lo+i),H,I1,⟨t,?_⟩,⟨rfl,rfl⟩,st',fun b hb=>(hf b hb).1⟩⟩
  rw[Int.mul_one]
 done:=by
  intro X hP hw hK hc i pins s σ H E I hf st hg
  subst hP hw hK
  obtain⟨f0,f1,f2,f3,f4,f5⟩:=hf it (by simp)
  exact wpAny_pyNext_range_end (I.ok.hd hc) st (by have:n<=i:=hg; omega) fun h' eb=>⟨rfl,I.turned (t':=s.toks) (fun b o hb e=>eb b o hb e) f0 f1 f3 f4 f5⟩
 self:=fun _ _ _ _ _ st h=>wpAny_pyIter_rangeiter st h
section
variable {X:Cx}{tg:Expr}
theorem zFr{pins:List (Addr×Obj)}{σ:St}{H:Hp}{s:Shared}{R:It->Hp->Prop}{E:Value->Shared->Prop}{lo hi:Int}{t u v:Tok}{tk:Nat}(I:Inv X pins σ H s)(h1:-(2 ^ 62)<=lo)(h2:lo < 2 ^ 62)(h3:-(2 ^ 62)<=hi)(h4:hi < 2 ^ 62)
  (q:R (Itr lo (hi - lo).toNat) H):wpAny (model X.prog X.w) X.A (pyIter (.ref s.heap.objs.size)) (PIE X pins σ tg R) E { s with heap:=s.heap.push { cls:=.type "range",data:=.fields #[.int lo t,.int hi u,.int 1 v] },toks:=tk }:=by
 refine wpAny_pyIter_range (IsRange.new ..) (small_one h1 h2 h3 h4) ?_
 have I1:Inv X pins σ H { s with heap:=s.heap.push { cls:=.type "range",data:=.fields #[.int lo t,.int hi u,.int 1 v] },toks:=tk }:=I.kept fun b o e=>Heap.get?_push_of_some _ e
 refine⟨(s.heap.push { cls:=.type "range",data:=.fields #[.int lo t,.int hi u,.int 1 v] }).objs.size,[(s.heap.push { cls:=.type "range",data:=.fields #[.int lo t,.int hi u,.int 1 v] }).objs.size],_,_,H,rfl,
  I1.kept (t':=tk) fun b o e=>Heap.get?_push_of_some _ e,zHh _ lo (hi - lo).toNat,?_,fun b hb=>?_,q⟩
 ·have e1:lo+((0:Nat):Int) * 1=lo:=by simp
  have e2:(((hi - lo).toNat:Nat):Int) - ((0:Nat):Int)=Builtin.Range.rangeSize lo hi 1:=by rw[rangeSize_one]; split <;> omega
  show IsRangeIter _ _ (lo+((0:Nat):Int) * 1) ((((hi - lo).toNat:Nat):Int) - ((0:Nat):Int)) 1
  rw[e1,e2]
  exact Heap.get?_push_size _ rfl
 ·have e:b=(s.heap.push { cls:=.type "range",data:=.fields #[.int lo t,.int hi u,.int 1 v] }).objs.size:=by simpa using hb
  subst e
  exact I1.fpOk (Nat.le_refl _) (I1.hok.fresh (Nat.le_refl _))
def iRng1(ta:TA):TI:=fun σ H R=>ta σ H fun vs H1=>∃ j:Int,vs=[.int j]/\-(2 ^ 62)<=j/\j < 2 ^ 62/\R (Itr 0 j.toNat) H1
def iRng2(ta:TA):TI:=fun σ H R=>ta σ H fun vs H1=>∃ i j:Int,vs=[.int i,.int j]/\(-(2 ^ 62)<=i/\i < 2 ^ 62/\-(2 ^ 62)<=j/\j < 2 ^ 62)/\R (Itr i (j - i).toNat) H1
theorem zIx{a:Expr}{ta:TA}{p pos:Pos}(hg:Gl X "range")(hm:X.mg "range"=none)(ha:PA X [a] ta)(hs:starEach [a] X.env=[(false,eval a X.env)]:=by rfl):PI X tg (.Call (.Name "range" p) [a] [] pos) (iRng1 ta):=by
 intro pins s σ H R I h
 refine Call_ (zBE I hg hm boot_range (PyProof.Rows.callWith_type1 (thn (ha pos pins s σ H _ I h) fun us s1 ⟨vs,H1,I1,r1,q1⟩=>?_) hs rfl))
 obtain⟨j,e,q1,q2,q⟩:=q1
 subst e
 cases r1 with
 | cons r rr =>
  cases rr
  obtain⟨t,rfl⟩:=r
  exact call_range_1 (zFr I1 (by omega) (by omega) q1 q2 (by simpa using q))
theorem zJQ{a b:Expr}{ta:TA}{p pos:Pos}(hg:Gl X "range")(hm:X.mg "range"=none)(ha:PA X [a,b] ta)(hs:starEach [a,b] X.env=[(false,eval a X.env),(false,eval b X.env)]:=by rfl)(hs2:starEach [b] X.env=[(false,eval b X.env)]:=by rfl) :
  PI X tg (.Call (.Name "range" p) [a,b] [] pos) (iRng2 ta):=by
 intro pins s σ H R I h
 refine Call_ (zBE I hg hm boot_range (PyProof.Rows.callWith_type1 (thn (ha pos pins s σ H _ I h) fun us s1 ⟨vs,H1,I1,r1,q1⟩=>?_) (by rw[hs,hs2]) (by rw[hs2]; rfl)))
 obtain⟨i,j,e,⟨q1,q2,q3,q4⟩,q⟩:=q1
 subst e
 cases r1 with
 | cons r rr =>
  cases rr with
  | cons r' rr =>
   cases rr
   obtain⟨t,rfl⟩:=r
   obtain⟨t',rfl⟩:=r'
   exact call_range_2 (zFr I1 q1 q2 q3 q4 q)
def tFor(wi:TI)(g:TG)(tb:TS):TS:=fun D σ H=>wi σ H fun J H1=>∃ W:Nat->Nat->St->Hp->Prop,(∃ m,W 0 m σ H1)/\∀ i m σ H,W i m σ H ->
 (J.stop i H/\D.nx σ H)\/(J.go i H/\∃ N:St->Hp->Prop,(∀ σ' H',N σ' H'->∃ m',m' < m/\W (i+1) m' σ' H')/\∀ x H',J.yld i H x H'->g x σ H' fun σ2 H2=>tb { D with nx:=N,ct:=N,bk:=D.nx } σ2 H2)
def pinsAt(fp:List Addr)(h:Heap):List (Addr×Obj):=fp.filterMap fun b=>(h.get? b).map fun o=>(b,o)
theorem zCp{fp:List Addr}{h:Heap}{b:Addr}{o:Obj}(hb:b∈fp)(e:h.get? b=some o):(b,o)∈pinsAt fp h:=List.mem_filterMap.mpr ⟨b,hb,by rw[e]; rfl⟩
theorem zKF{fp:List Addr}{h:Heap}{p:Addr×Obj}(hp:p∈pinsAt fp h):p.1∈fp/\h.get? p.1=some p.2:=by
 obtain⟨b,hb,e⟩:=List.mem_filterMap.mp hp
 cases q:h.get? b with
 | none=>rw[q]at e; cases e
 | some o =>
  rw[q]at e
  have e':(b,o)=p:=Option.some.inj e
  subst e'
  exact⟨hb,q⟩
theorem Inv.pinned{pins:List (Addr×Obj)}{σ:St}{H:Hp}{s:Shared}{fp:List Addr}(I:Inv X pins σ H s)(hf:∀ b∈fp,FpOk X pins H b)(ho:∀ b∈fp,∃ o,s.heap.get? b=some o/\∀ v,o.data≠.cell v):Inv X (pins++pinsAt fp s.heap) σ H s :=
 I.pins_of fun p hp=>(List.mem_append.mp hp).elim (fun z=>I.pin p (List.mem_append_right _ z)) fun z=>by
  obtain⟨hb,e⟩:=zKF z
  obtain⟨f0,f1,f2,_⟩:=hf p.1 hb
  obtain⟨o,e',d⟩:=ho p.1 hb
  rw[e]at e'; cases e'
  exact⟨e,f0,f1,f2,d⟩
theorem Inv.unpinned{pins pl:List (Addr×Obj)}{σ:St}{H:Hp}{s:Shared}(I:Inv X (pins++pl) σ H s):Inv X pins σ H s:=I.pins_of fun p hp=>I.pin p (List.mem_append_right _ (List.mem_append_left _ hp))
theorem zNc{iter:Expr}{body:List Stmt}{wi:TI}{g:TG}{tb:TS}{pos:Pos}(hp:PassesOwn (model X.prog X.w) X.A X.env X.xe)(hc:X.calm=true)(hi:PI X tg iter wi)(hg:PG X tg g)(hb:PSs X body tb)
  (hs:∀ x,foldedSetIterable iter X.env x=pure x:=by intro _; rfl):PS X (.For tg iter body [] pos) (tFor wi g tb):=by
 intro pins s σ H D I h
 refine wpAny_For (thn (hi pins s σ H _ I h) fun v s1 h1=>thn h1 fun itv s2 h2=>?_) hs
 obtain⟨it,fp,tn,J,H2,e,I2,T,st2,f2,W,⟨m0,w0⟩,turn⟩:=h2
 subst e
 have stat:∀ {H':Hp},(∀ b∈fp,H' b=none)->∀ b∈fp,FpOk X pins H' b:=fun hn b hb=>⟨hn b hb,(f2 b hb).2⟩
 refine codeAny_forLoop_any (fun n s'=>∃ i σ' H',Inv X pins σ' H' s'/\tn i s'.heap/\(∀ b∈fp,H' b=none)/\W i n σ' H') ?_ m0 ⟨0,σ,H2,I2,st2,fun b hb=>(f2 b hb).1,w0⟩
 rintro n s3 ⟨i,σ3,H3,I3,st3,fr3,w3⟩
 rcases turn i n σ3 H3 w3 with ⟨stop,qn⟩ | ⟨go,N,hN,step⟩
 ·refine wpAny_passesOwn hp (thn (T.done X rfl rfl rfl hc i pins s3 σ3 H3 X.xe I3 (stat fr3) st3 stop) fun r s4 ⟨hr,I4⟩=>?_)
  subst hr
  exact wpAny_execs_nil ⟨σ3,H3,I4,qn⟩
 ·refine wpAny_passesOwn hp (thn (T.item X rfl rfl rfl hc i pins s3 σ3 H3 X.xe I3 (stat fr3) st3 go) fun r s4 ⟨u,hr,h4⟩=>?_)
  subst hr
  refine wpAny_passesOwn hp (thn h4 fun _ s5 ⟨x,H5,I5,r5,y5,st5,fr5⟩=>?_)
  have I5':=I5.pinned (stat fr5) (T.obj _ _ st5)
  refine wpAny_passesOwn hp (thn (hg _ s5 σ3 H5 x u _ I5' r5 (step x H5 y5)) fun _ s6 ⟨σ6,H6,I6,q6⟩=>?_)
  refine wpAny_passesOwn hp (thn (hb _ s6 σ6 H6 _ I6 q6) fun f s7 q7=>?_)
  have again:∀ {σ7:St} {H7:Hp},Inv X (pins++pinsAt fp s5.heap) σ7 H7 s7->N σ7 H7->∃ m,m < n/\∃ i σ' H',Inv X pins σ' H' s7/\tn i s7.heap/\(∀ b∈fp,H' b=none)/\W i m σ' H':=fun {σ7 H7} I7 n7=>by
   obtain⟨m',hm,w7⟩:=hN σ7 H7 n7
   refine⟨m',hm,i+1,σ7,H7,I7.unpinned,T.keep _ _ _ st5 fun b hb o e=>(I7.pin (b,o) (List.mem_append_right _ (List.mem_append_right _ (zCp hb e)))).1,fun b hb=>?_,w7⟩
   obtain⟨o,e,d⟩:=T.obj _ _ st5 b hb
   exact (I7.pin (b,o) (List.mem_append_right _ (List.mem_append_right _ (zCp hb e)))).2.1
  cases f with
  | next=>obtain⟨σ7,H7,I7,n7⟩:=q7; exact again I7 n7
  | cont=>obtain⟨σ7,H7,I7,n7⟩:=q7; exact again I7 n7
  | brk=>obtain⟨σ7,H7,I7,q7⟩:=q7; exact⟨σ7,H7,I7.unpinned,q7⟩
  | ret v=>obtain⟨x7,σ7,H7,I7,r7,q7⟩:=q7; exact⟨x7,σ7,H7,I7.unpinned,r7,q7⟩
end
abbrev R2:=V->V->Hp->VK->Prop
def OpR(X:Cx)(f:Value->Value->Sem Value)(r:R2):Prop :=
 ∀ (pins:List (Addr×Obj)) (s:Shared) (σ:St) (H:Hp) (x y:V) (v u:Value) (Q:VK),Inv X pins σ H s->RelV x v->RelV y u->r x y H Q ->
  wpAny (model X.prog X.w) X.A (f v u) (EP X pins σ Q) X.xe s
def UnR(X:Cx)(f:Value->Sem Value)(r:V->Hp->VK->Prop):Prop :=
 ∀ (pins:List (Addr×Obj)) (s:Shared) (σ:St) (H:Hp) (x:V) (v:Value) (Q:VK),Inv X pins σ H s->RelV x v->r x H Q ->
  wpAny (model X.prog X.w) X.A (f v) (EP X pins σ Q) X.xe s
def CallR(X:Cx)(f:Value)(r:List V->Hp->VK->Prop):Prop :=
 ∀ (pins:List (Addr×Obj)) (s:Shared) (σ:St) (H:Hp) (xs:List V) (us:List Value) (Q:VK),Inv X pins σ H s->Vals xs us->r xs H Q ->
  wpAny (model X.prog X.w) X.A (call f us) (EP X pins σ Q) X.xe s
def TruR(X:Cx)(r:V->Hp->(Bool->Hp->Prop)->Prop):Prop :=
 ∀ (pins:List (Addr×Obj)) (s:Shared) (σ:St) (H:Hp) (x:V) (v:Value) (Q:Bool->Hp->Prop),Inv X pins σ H s->RelV x v->r x H Q ->
  wpAny (model X.prog X.w) X.A (truthy v) (TP X pins σ Q) X.xe s
def tOp(r:R2)(ta tb:TE):TE:=fun σ H Q=>ta σ H fun x H1=>tb σ H1 fun y H2=>r x y H2 Q
def tUn(r:V->Hp->VK->Prop)(ta:TE):TE:=fun σ H Q=>ta σ H fun x H1=>r x H1 Q
def rI(C:Int->Int->Prop)(g:Int->Int->V):R2:=fun x y H Q=>∃ i j,x=.int i/\y=.int j/\C i j/\Q (g i j) H
def rI0(g:Int->Int->V):R2:=fun x y H Q=>∃ i j,x=.int i/\y=.int j/\Q (g i j) H
def rU(g:Int->V):V->Hp->VK->Prop:=fun x H Q=>∃ i,x=.int i/\Q (g i) H
section
variable {X:Cx}{a b c:Expr}{ta tb tc:TE}{pos:Pos}
theorem binT(ha:PE X a ta)(hb:PE X b tb){pins:List (Addr×Obj)}{s:Shared}{σ:St}{H:Hp}{R:V->V->Hp->Prop}(I:Inv X pins σ H s)
  (h:ta σ H fun x H1=>tb σ H1 fun y H2=>R x y H2) {Q:Value->Shared->Prop} {f:Value->Value->Sem Value}
  (hf:∀ v u s2 x y H2,Inv X pins σ H2 s2->RelV x v->RelV y u->R x y H2->wpAny (model X.prog X.w) X.A (f v u) Q X.xe s2) :
  wpAny (model X.prog X.w) X.A (eval a X.env) (fun v s₁=>wpAny (model X.prog X.w) X.A (eval b X.env) (fun u s₂=>wpAny (model X.prog X.w) X.A (f v u) Q X.xe s₂) X.xe s₁) X.xe s:=by
 refine thn (ha pins s σ H _ I h) fun v s1 ⟨x,H1,I1,r1,q1⟩=>?_
 refine thn (hb pins s1 σ H1 _ I1 q1) fun u s2 ⟨y,H2,I2,r2,q2⟩=>?_
 exact hf v u s2 x y H2 I2 r1 r2 q2
theorem zO5{op:Operator}{r:R2}(ho:OpR X (binaryOp op) r)(ha:PE X a ta)(hb:PE X b tb):PE X (.BinOp a op b pos) (tOp r ta tb):=by
 intro pins s σ H Q I h
 exact wpAny_BinOp (binT ha hb I h fun v u s2 x y H2 I2 rx ry q=>ho pins s2 σ H2 x y v u Q I2 rx ry q)
theorem zQE{op:UnaryOp}{r:V->Hp->VK->Prop}(ho:UnR X (unaryOp op) r)(ha:PE X a ta):PE X (.UnaryOp op a pos) (tUn r ta):=by
 intro pins s σ H Q I h
 exact UnaryOp_ (thn (ha pins s σ H _ I h) fun v s1 ⟨x,H1,I1,r1,q1⟩=>ho pins s1 σ H1 x v Q I1 r1 q1)
theorem opI{f:Value->Value->Sem Value}{C:Int->Int->Prop}{g:Int->Int->Int}
  (rule:∀ (i j:Int) (t u:Tok) (s:Shared) (Q:Value->Shared->Prop) (E:Value->Shared->Prop),C i j->Q (.int (g i j) s.toks) { s with toks:=s.toks+1 }->wpAny (model X.prog X.w) X.A (f (.int i t) (.int j u)) Q E s) :
  OpR X f (rI C fun i j=>.int (g i j)):=by
 intro pins s σ H x y v u Q I rx ry h
 obtain⟨i,j,rfl,rfl,hc,q⟩:=h
 obtain⟨t,rfl⟩:=rx
 obtain⟨t',rfl⟩:=ry
 exact rule i j t t' s _ _ hc ⟨.int (g i j),H,I.tok _,⟨_,rfl⟩,q⟩
theorem opI0{f:Value->Value->Sem Value}{g:Int->Int->Int}
  (rule:∀ (i j:Int) (t u:Tok) (s:Shared) (Q:Value->Shared->Prop) (E:Value->Shared->Prop),Q (.int (g i j) s.toks) { s with toks:=s.toks+1 }->wpAny (model X.prog X.w) X.A (f (.int i t) (.int j u)) Q E s) :
  OpR X f (rI0 fun i j=>.int (g i j)):=by
 intro pins s σ H x y v u Q I rx ry h
 obtain⟨i,j,rfl,rfl,q⟩:=h
 obtain⟨t,rfl⟩:=rx
 obtain⟨t',rfl⟩:=ry
 exact rule i j t t' s _ _ ⟨.int (g i j),H,I.tok _,⟨_,rfl⟩,q⟩
theorem opB0{f:Value->Value->Sem Value}{g:Int->Int->Bool}
  (rule:∀ (i j:Int) (t u:Tok) (s:Shared) (Q:Value->Shared->Prop) (E:Value->Shared->Prop),Q (.bool (g i j)) s->wpAny (model X.prog X.w) X.A (f (.int i t) (.int j u)) Q E s) :
  OpR X f (rI0 fun i j=>.bl (g i j)):=by
 intro pins s σ H x y v u Q I rx ry h
 obtain⟨i,j,rfl,rfl,q⟩:=h
 obtain⟨t,rfl⟩:=rx
 obtain⟨t',rfl⟩:=ry
 exact rule i j t t' s _ _ ⟨.bl (g i j),H,I,rfl,q⟩
def CDiv(i j:Int):Prop:=0 < j/\j < 1073741824
def CPow(i j:Int):Prop:=0<=j/\j<=1000000/\i.natAbs < 2 ^ 64
def CMul(i j:Int):Prop:=(-(2 ^ 64) < i/\i < 2 ^ 64)\/(-(2 ^ 64) < j/\j < 2 ^ 64)
theorem CMul.ok{i j:Int}(h:CMul i j):IntMulOk i j:=by
 rcases h with ⟨h1,h2⟩ | ⟨h1,h2⟩
 ·exact .of_left (intBits_le_64 h1 h2)
 ·exact .of_right (intBits_le_64 h1 h2)
theorem zOI:OpR X (binaryOp .Add) (rI0 fun i j=>.int (i+j)):=opI0 fun _ _ _ _ _ _ _ q=>add_int q
theorem zOo:OpR X (binaryOp .Sub) (rI0 fun i j=>.int (i - j)):=opI0 fun _ _ _ _ _ _ _ q=>sub_int q
theorem zOT:OpR X (binaryOp .Mult) (rI CMul fun i j=>.int (i * j)):=opI fun _ _ _ _ _ _ _ hc q=>mul_int q hc.ok
theorem zMS:OpR X (binaryOp .FloorDiv) (rI CDiv fun i j=>.int (i / j)):=opI fun i j _ _ _ _ _ hc q=>by
 have h1:(0:Int) < j:=hc.1
 have h2:j < 1073741824:=hc.2
 exact floordiv_int (by omega) (by rw[Int.fdiv_eq_ediv_of_nonneg i (by omega)]; exact q) (.inl (PyProof.noPylong_small (by omega)))
theorem zOG:OpR X (binaryOp .Mod) (rI (fun _ j=>0 < j) fun i j=>.int (i % j)):=opI fun i j _ _ _ _ _ hc q=>by
 have h1:(0:Int) < j:=hc
 exact mod_int' (by omega) (by rw[Int.fmod_eq_emod_of_nonneg i (by omega)]; exact q)
theorem zOA:OpR X (binaryOp .Pow) (rI CPow fun i j=>.int (i ^ j.toNat)):=opI fun _ _ _ _ _ _ _ hc q=>pow_int_small hc.1 hc.2.1 hc.2.2 q
theorem unI{f:Value->Sem Value}{g:Int->Int}
  (rule:∀ (i:Int) (t:Tok) (s:Shared) (Q:Value->Shared->Prop) (E:Value->Shared->Prop),Q (.int (g i) s.toks) { s with toks:=s.toks+1 }->wpAny (model X.prog X.w) X.A (f (.int i t)) Q E s) :
  UnR X f (rU fun i=>.int (g i)):=by
 intro pins s σ H x v Q I rx h
 obtain⟨i,rfl,q⟩:=h
 obtain⟨t,rfl⟩:=rx
 exact rule i t s _ _ ⟨.int (g i),H,I.tok _,⟨_,rfl⟩,q⟩
theorem zNw:UnR X (unaryOp .USub) (rU fun i=>.int (-i)):=unI fun _ _ _ _ _ q=>neg_int q
end
def scal:V->V->Bool
 | .non,.non=>true | .non,.int _=>true | .int _,.non=>true | .non,.bl _=>true | .bl _,.non=>true | .non,.str _=>true | .str _,.non=>true
 | .int _,.int _=>true | .bl _,.bl _=>true | .str _,.str _=>true | .byt _,.byt _=>true
 | .int _,.str _=>true | .str _,.int _=>true | .bl _,.str _=>true | .str _,.bl _=>true
 | _,_=>false
def rEq:R2:=fun x y H Q=>scal x y=true/\Q (.bl (decide (x=y))) H
def rNe:R2:=fun x y H Q=>scal x y=true/\Q (.bl (!decide (x=y))) H
theorem zHD{i j:Int}:decide (V.int i=V.int j)=(i == j):=by
 rw[Bool.eq_iff_iff]
 simp
theorem zJu{i j:Bool}:decide (V.bl i=V.bl j)=(i == j):=by
 rw[Bool.eq_iff_iff]
 simp
theorem zG9{i j:Str}:decide (V.str i=V.str j)=(i == j):=by
 rw[Bool.eq_iff_iff]
 simp
theorem zGx{i j:Array UInt8}:decide (V.byt i=V.byt j)=(i.toList == j.toList):=by
 rw[Bool.eq_iff_iff]
 cases i
 cases j
 simp
section
variable {X:Cx}{a b c:Expr}{ta tb tc:TE}{pos:Pos}
theorem zAW{pins:List (Addr×Obj)}{σ:St}{H:Hp}{s:Shared}{Q:VK}{k k':Bool}(I:Inv X pins σ H s)(q:Q (.bl k) H)(e:k=k'):EP X pins σ Q (.bool k') s:=by
 subst e
 exact⟨.bl k,H,I,rfl,q⟩
theorem zPO:OpR X (compareOp .Eq) rEq:=by
 intro pins s σ H x y v u Q I rx ry h
 obtain⟨hs,q⟩:=h
 cases x with
 | non =>
  cases rx
  cases y with
  | non=>cases ry; exact PySem.EqNone.eq_none_none (zAW I q (by simp))
  | bl j=>cases ry; exact PySem.EqNone.eq_none_bool (zAW I q (by simp))
  | int j=>obtain⟨t',rfl⟩:=ry; exact PySem.EqNone.eq_none_int (zAW I q (by simp))
  | str j=>obtain⟨t',rfl⟩:=ry; exact PySem.EqNone.eq_none_str (zAW I q (by simp))
  | _=>exact absurd (show false=true from hs) Bool.false_ne_true
 | bl i =>
  cases rx
  cases y with
  | non=>cases ry; exact PySem.EqNone.eq_bool_none (zAW I q (by simp))
  | bl j=>cases ry; exact eq_bool (zAW I q zJu)
  | str j=>obtain⟨t',rfl⟩:=ry; exact PySem.EqMixed.eq_bool_str (zAW I q (by simp))
  | _=>exact absurd (show false=true from hs) Bool.false_ne_true
 | int i =>
  obtain⟨t,rfl⟩:=rx
  cases y with
  | non=>cases ry; exact PySem.EqNone.eq_int_none (zAW I q (by simp))
  | int j=>obtain⟨t',rfl⟩:=ry; exact eq_int (zAW I q zHD)
  | str j=>obtain⟨t',rfl⟩:=ry; exact PySem.EqMixed.eq_int_str (zAW I q (by simp))
  | _=>exact absurd (show false=true from hs) Bool.false_ne_true
 | str i =>
  obtain⟨t,rfl⟩:=rx
  cases y with
  | non=>cases ry; exact PySem.EqNone.eq_str_none (zAW I q (by simp))
  | bl j=>cases ry; exact PySem.EqMixed.eq_str_bool (zAW I q (by simp))
  | int j=>obtain⟨t',rfl⟩:=ry; exact PySem.EqMixed.eq_str_int (zAW I q (by simp))
  | str j=>obtain⟨t',rfl⟩:=ry; exact eq_str (zAW I q zG9)
  | _=>exact absurd (show false=true from hs) Bool.false_ne_true
 | byt i =>
  obtain⟨t,rfl⟩:=rx
  cases y with
  | byt j=>obtain⟨t',rfl⟩:=ry; exact PySem.W.eq_bytes (zAW I q zGx)
  | _=>exact absurd (show false=true from hs) Bool.false_ne_true
 | _=>cases y <;> exact absurd (show false=true from hs) Bool.false_ne_true
theorem zPM:OpR X (compareOp .NotEq) rNe:=by
 intro pins s σ H x y v u Q I rx ry h
 obtain⟨hs,q⟩:=h
 cases x with
 | non =>
  cases rx
  cases y with
  | non=>cases ry; exact PySem.EqNone.ne_none_none (zAW I q (by simp))
  | bl j=>cases ry; exact PySem.EqNone.ne_none_bool (zAW I q (by simp))
  | int j=>obtain⟨t',rfl⟩:=ry; exact PySem.EqNone.ne_none_int (zAW I q (by simp))
  | str j=>obtain⟨t',rfl⟩:=ry; exact PySem.EqNone.ne_none_str (zAW I q (by simp))
  | _=>exact absurd (show false=true from hs) Bool.false_ne_true
 | bl i =>
  cases rx
  cases y with
  | non=>cases ry; exact PySem.EqNone.ne_bool_none (zAW I q (by simp))
  | bl j=>cases ry; exact ne_bool (zAW I q (congrArg not zJu))
  | str j=>obtain⟨t',rfl⟩:=ry; exact PySem.EqMixed.ne_bool_str (zAW I q (by simp))
  | _=>exact absurd (show false=true from hs) Bool.false_ne_true
 | int i =>
  obtain⟨t,rfl⟩:=rx
  cases y with
  | non=>cases ry; exact PySem.EqNone.ne_int_none (zAW I q (by simp))
  | int j=>obtain⟨t',rfl⟩:=ry; exact ne_int (zAW I q (congrArg not zHD))
  | str j=>obtain⟨t',rfl⟩:=ry; exact PySem.EqMixed.ne_int_str (zAW I q (by simp))
  | _=>exact absurd (show false=true from hs) Bool.false_ne_true
 | str i =>
  obtain⟨t,rfl⟩:=rx
  cases y with
  | non=>cases ry; exact PySem.EqNone.ne_str_none (zAW I q (by simp))
  | bl j=>cases ry; exact PySem.EqMixed.ne_str_bool (zAW I q (by simp))
  | int j=>obtain⟨t',rfl⟩:=ry; exact PySem.EqMixed.ne_str_int (zAW I q (by simp))
  | str j=>obtain⟨t',rfl⟩:=ry; exact ne_str (zAW I q (congrArg not zG9))
  | _=>exact absurd (show false=true from hs) Bool.false_ne_true
 | byt i =>
  obtain⟨t,rfl⟩:=rx
  cases y with
  | byt j=>obtain⟨t',rfl⟩:=ry; exact PySem.W.ne_bytes (zAW I q (congrArg not zGx))
  | _=>exact absurd (show false=true from hs) Bool.false_ne_true
 | _=>cases y <;> exact absurd (show false=true from hs) Bool.false_ne_true
theorem zPw:OpR X (compareOp .Lt) (rI0 fun i j=>.bl (decide (i < j))):=opB0 fun _ _ _ _ _ _ _ q=>lt_int q
theorem zPg:OpR X (compareOp .Gt) (rI0 fun i j=>.bl (decide (j < i))):=opB0 fun _ _ _ _ _ _ _ q=>gt_int q
theorem zQA:OpR X (compareOp .GtE) (rI0 fun i j=>.bl (decide (j<=i))):=opB0 fun _ _ _ _ _ _ _ q=>ge_int q
theorem zOZ:OpR X (compareOp .Is) (fun x y H Q=>y=.non/\Q (.bl (decide (x=.non))) H):=by
 intro pins s σ H x y v u Q I rx ry h
 obtain⟨rfl,q⟩:=h
 cases ry
 refine is_none_gen (zAW I q ?_)
 cases x <;> first
  | (cases rx; rfl)
  | (obtain⟨t,rfl⟩:=rx; rfl)
theorem OpR.or{f:Value->Value->Sem Value}{r r':R2}(h:OpR X f r)(h':OpR X f r'):OpR X f (fun x y H Q=>r x y H Q\/r' x y H Q):=by
 intro pins s σ H x y v u Q I rx ry q
 rcases q with q | q
 ·exact h pins s σ H x y v u Q I rx ry q
 ·exact h' pins s σ H x y v u Q I rx ry q
theorem nomark(b:Expr){op:CmpOp}(h:op≠.In:=by decide)(h2:op≠.NotIn:=by decide):behindInMarks op b=false:=by
 have e1:(op == CmpOp.In)=false:=by cases op <;> first | rfl | exact absurd rfl h
 have e2:(op == CmpOp.NotIn)=false:=by cases op <;> first | rfl | exact absurd rfl h2
 cases b <;> simp[behindInMarks,e1,e2]
theorem zMs{op:CmpOp}{r:R2}(ho:OpR X (compareOp op) r)(ha:PE X a ta)(hb:PE X b tb)(hm:behindInMarks op b=false):PE X (.Compare a [op] [b] pos) (tOp r ta tb):=by
 intro pins s σ H Q I h
 exact wpAny_Compare1 (binT ha hb I h fun v u s2 x y H2 I2 rx ry q=>ho pins s2 σ H2 x y v u Q I2 rx ry q) hm
def tTest(t:TE):TT:=fun σ H Q=>t σ H fun x H'=>∃ k,x=.bl k/\Q k H'
theorem zNM{op:CmpOp}{r:R2}(ho:OpR X (compareOp op) r)(ha:PE X a ta)(hb:PE X b tb)(hm:behindInMarks op b=false):PT X (.Compare a [op] [b] pos) (tTest (tOp r ta tb)):=by
 intro pins s σ H Q I h
 refine wpAny_isTrue_Compare1 (thn (ha pins s σ H _ I h) fun v s1 ⟨x,H1,I1,r1,q1⟩=>thn (hb pins s1 σ H1 _ I1 q1) fun u s2 ⟨y,H2,I2,r2,q2⟩ =>
  thn (ho pins s2 σ H2 x y v u _ I2 r1 r2 q2) fun c s3 ⟨z,H3,I3,r3,k,e,q3⟩=>?_) hm
 subst e
 cases r3
 exact wpAny_truthy_bool ⟨H3,I3,q3⟩
def TruV(K:PySem.W.Frag)(x:V)(H:Hp)(k:Bool):Prop :=
 match x with
 | .non=>k=false
 | .bl b=>k=b
 | .int i=>k=(i != 0)
 | .str y=>y.length<=sizeLine/\k=((y.length:Int) != 0)
 | .byt y=>y.size<=sizeLine/\k=((y.size:Int) != 0)
 | .ref p=>(∃ xs,SqL K H p xs/\k=!xs.isEmpty)\/(∃ xs,SqT K H p xs/\k=!xs.isEmpty)\/∃ kvs,H p=some (.dK kvs)/\k=!kvs.isEmpty
 | _=>False
theorem zHn{κ:Type}{kvs:List (κ×V)}{vs:List (κ×Value)}(r:KV kvs vs):(!vs.isEmpty)=!kvs.isEmpty:=by
 cases r <;> rfl
theorem zDj{xs:List V}{its:List Value}(r:Vals xs its):(!its.toArray.isEmpty)=!xs.isEmpty:=by
 cases r <;> simp
theorem line63:(sizeLine:Nat) < 2 ^ 63:=by rw[sizeLine_eq]; decide
theorem zN8:TruR X (fun x H Q=>∃ k,TruV X.K x H k/\Q k H):=by
 intro pins s σ H x v Q I rx h
 obtain⟨k,e,q⟩:=h
 have hl:=line63
 have hs:sizeLine=16777216:=sizeLine_eq
 cases x with
 | non =>
  cases rx
  have e':k=false:=e
  subst e'
  exact truthy_none ⟨H,I,q⟩
 | bl b =>
  cases rx
  have e':k=b:=e
  subst e'
  exact wpAny_truthy_bool ⟨H,I,q⟩
 | int i =>
  obtain⟨t,rfl⟩:=rx
  have e':k=(i != 0):=e
  subst e'
  exact PySem.P.truthy_int ⟨H,I,q⟩
 | str y =>
  obtain⟨t,rfl⟩:=rx
  obtain⟨hy,e'⟩:y.length<=sizeLine/\k=((y.length:Int) != 0):=e
  subst e'
  exact PySem.P.truthy_str (by omega) ⟨H,I.tok _,q⟩
 | byt y =>
  obtain⟨t,rfl⟩:=rx
  obtain⟨hy,e'⟩:y.size<=sizeLine/\k=((y.size:Int) != 0):=e
  subst e'
  exact PySem.W.truthy_bytes (by omega) ⟨H,I.tok _,q⟩
 | ref p =>
  cases rx
  have e':(∃ xs,SqL X.K H p xs/\k=!xs.isEmpty)\/(∃ xs,SqT X.K H p xs/\k=!xs.isEmpty)\/∃ kvs,H p=some (.dK kvs)/\k=!kvs.isEmpty:=e
  rcases e' with ⟨xs,hx,e'⟩ | ⟨xs,hx,e'⟩ | ⟨kvs,hx,e'⟩
  ·subst e'
   obtain⟨its,r,pl,hz⟩:=I.list hx
   have hlen:=r.length
   exact wpAny_truthy_list pl.isList (by simp only[List.size_toArray]; omega) ⟨H,I.tok _,by rw[zDj r]; exact q⟩
  ·subst e'
   obtain⟨its,r,pl,hz⟩:=I.tuple hx
   have hlen:=r.length
   exact truthy_tuple pl (by simp only[List.size_toArray]; omega) ⟨H,I.tok _,by rw[zDj r]; exact q⟩
  ·subst e'
   obtain⟨hz,hS,vs,r,m⟩:kvs.length<=sizeLine/\(p == sysModules)=false/\∃ vs,KV kvs vs/\s.heap.DictOf (mixKind X.prog X.w) p vs:=I.hok p _ hx
   have hlen:kvs.length=vs.length:=Paired.length r
   exact wpAny_truthy_dict hS m (by omega) ⟨H,I.tok _,by rw[zHn r]; exact q⟩
 | _=>exact (show False from e).elim
theorem zLd(ha:PE X a ta)(he:∀ whole,isTrue a X.env whole=(do let v ← whole; standAt a.pos; holding [v] (truthy v))) :
  PT X a (fun σ H Q=>ta σ H fun x H'=>∃ k,TruV X.K x H' k/\Q k H'):=by
 intro pins s σ H Q I h
 exact isTrue_plain (thn (ha pins s σ H _ I h) fun v s1 ⟨x,H1,I1,r1,q1⟩=>zN8 pins s1 σ H1 x v Q I1 r1 q1) (he _)
theorem zIV:OpR X (binaryOp .Add) (fun x y H Q=>∃ i j,x=.str i/\y=.str j/\i.length+j.length<=sizeLine/\Q (.str (i++j)) H):=by
 intro pins s σ H x y v u Q I rx ry h
 obtain⟨i,j,rfl,rfl,hz,q⟩:=h
 obtain⟨t,rfl⟩:=rx
 obtain⟨t',rfl⟩:=ry
 exact add_str (fun t' tk=>⟨.str (i++j),H,I.tok _,⟨_,rfl⟩,q⟩) hz
theorem vals1{x:V}{us:List Value}(r:Vals [x] us):∃ u,us=[u]/\RelV x u:=by
 cases r with
 | cons r1 r2=>cases r2; exact⟨_,rfl,r1⟩
theorem vals2{x y:V}{us:List Value}(r:Vals [x,y] us):∃ u w',us=[u,w']/\RelV x u/\RelV y w':=by
 cases r with
 | cons r1 r2 =>
  cases r2 with
  | cons r3 r4=>cases r4; exact⟨_,_,rfl,r1,r3⟩
theorem zKB(hc:X.calm=true):CallR X (.builtin "max") (fun xs H Q=>∃ i j,xs=[.int i,.int j]/\Q (.int (if j > i then j else i)) H):=by
 intro pins s σ H xs us Q I r h
 obtain⟨i,j,rfl,q⟩:=h
 obtain⟨u,w',rfl,⟨t,rfl⟩,⟨t',rfl⟩⟩:=vals2 r
 refine max_two_ints (I.ok.hd hc) fun h' tk k=>⟨_,H,I.kept k,?_,q⟩
 by_cases hj:j > i
 ·rw[if_pos hj,if_pos hj]; exact⟨_,rfl⟩
 ·rw[if_neg hj,if_neg hj]; exact⟨_,rfl⟩
theorem zJ9:CallR X (.type "int") (fun xs H Q=>(∃ i,xs=[.int i]/\Q (.int i) H)\/∃ k,xs=[.bl k]/\Q (.int (if k then 1 else 0)) H):=by
 intro pins s σ H xs us Q I r h
 rcases h with ⟨i,rfl,q⟩ | ⟨k,rfl,q⟩
 ·obtain⟨u,rfl,t,rfl⟩:=vals1 r
  exact call_int_int ⟨.int i,H,I,⟨_,rfl⟩,q⟩
 ·obtain⟨u,rfl,r1⟩:=vals1 r
  cases r1
  exact call_int_bool ⟨.int (if k then 1 else 0),H,I.tok _,⟨_,rfl⟩,q⟩
end
theorem RelO.some_of{v:V}{o:Option Value}(r:RelO (some v) o):∃ u,o=some u/\RelV v u:=by
 cases o with
 | none=>exact (show False from r).elim
 | some u=>exact⟨u,rfl,r⟩
structure Room(k:Nat)(A:Around):Prop where
 hd:A.handled=none
 dp:A.depth+3 * k+5 < recursionLimit
 un:A.units+16 * k+200 < cLine
 gd:A.guards=some []
theorem Room.mono{j k:Nat}{A:Around}(r:Room k A)(h:j<=k):Room j A:=⟨r.hd,by have:=r.dp; omega,by have:=r.un; omega,r.gd⟩
theorem Room.deeper{k:Nat}{A:Around}(r:Room (k+1) A)(env:Env):Room k (A.deeper env) :=
 ⟨r.hd,by have:=r.dp; show A.depth+1+3 * k+5 < _; omega,by have:=r.un; show A.units+3+16 * k+200 < _; omega,r.gd⟩
theorem Room.depth{k:Nat}{A:Around}(r:Room k A):A.depth < recursionLimit:=by have:=r.dp; omega
def tNil:TA:=fun _ H Q=>Q [] H
def tCons(ta:TE)(tr:TA):TA:=fun σ H Q=>ta σ H fun x H1=>tr σ H1 fun xs H2=>Q (x::xs) H2
section
variable {X:Cx}{e:Expr}{es:List Expr}{te:TE}{t:TA}{pos:Pos}
theorem zGL:PA X [] tNil:=fun _ _ _ _ H Q I h=>Calls.spliced_nil ⟨[],H,I,.nil,h⟩
theorem zEI(ha:PE X e te)(hr:PA X es t)(hs:starEach (e::es) X.env=(false,eval e X.env)::starEach es X.env:=by rfl):PA X (e::es) (tCons te t):=by
 intro pos pins s σ H Q I h
 rw[hs]
 show wpAny _ _ (spliced ((false,eval e X.env)::backTo pos (starEach es X.env))) _ _ s
 refine Calls.spliced_cons (thn (ha pins s σ H _ I h) fun u s1 ⟨x,H1,I1,r1,q1⟩=>?_)
 exact thn (hr pos pins s1 σ H1 _ I1 q1) fun us s2 ⟨xs,H2,I2,r2,q2⟩=>⟨x::xs,H2,I2,.cons r1 r2,q2⟩
def tTup(t:TA):TE:=fun σ H Q=>t σ H fun xs H1=>xs.length<=sizeLine/\∀ p,H1 p=none->Q (.ref p) (upd H1 p (.tup xs))
def tLst(t:TA):TE:=fun σ H Q=>t σ H fun xs H1=>xs.length<=sizeLine/\∀ p,H1 p=none->Q (.ref p) (upd H1 p (.lst xs))
theorem zON{x1}(h:PA X es t):PE X (.Tuple es x1 pos) (tTup t):=by
 intro pins s σ H Q I hq
 refine wpAny_Tuple_spliced (thn (h pos pins s σ H _ I hq) fun us s1 ⟨xs,H1,I1,r,z,q⟩=>⟨by rw[← r.length]; exact z,?_⟩)
 have hf:H1 s1.heap.objs.size=none:=I1.hok.fresh (Nat.le_refl _)
 refine⟨.ref s1.heap.objs.size,upd H1 s1.heap.objs.size (.tup xs),I1.laid (t':=s1.toks) (fun b u e=>Heap.get?_push_of_some _ e) (Nat.le_refl _) ?_,rfl,q _ hf⟩
 exact⟨z,us,r,⟨_,Heap.get?_push_size _ rfl,rfl,⟨_,rfl⟩,rfl⟩⟩
theorem zOi(h:PA X es t):PE X (.List es pos) (tLst t):=by
 intro pins s σ H Q I hq
 refine wpAny_List_spliced (thn (h pos pins s σ H _ I hq) fun us s1 ⟨xs,H1,I1,r,z,q⟩=>⟨by rw[← r.length]; exact z,?_⟩)
 have hf:H1 s1.heap.objs.size=none:=I1.hok.fresh (Nat.le_refl _)
 refine⟨.ref s1.heap.objs.size,upd H1 s1.heap.objs.size (.lst xs),I1.laid (t':=s1.toks) (fun b u e=>Heap.get?_push_of_some _ e) (Nat.le_refl _) ?_,rfl,q _ hf⟩
 exact⟨z,us,0,r,Heap.get?_push_size _ rfl⟩
end
abbrev Sp:=List V->Hp->VK->XK->Prop
abbrev CXT:=List Env->Hp->Shared->XK->Value->Shared->Prop
structure Env0(P:Program)(w:World)(K:PySem.W.Frag)(mg:Str->Option Value)(base:Heap)(A:Around)(outer:List Env)(s:Shared)(H:Hp):Prop where
 frames:A.frames=some outer
 mod:Mod K mg base
 bs:∀ b o,base.get? b=some o->s.heap.get? b=some o/\H b=none
 bsz:base.objs.size<=s.heap.objs.size
 funs:s.heap.FunFrames base outer
 frf:∀ b∈frs outer,H b=none
 hok:HOk P w H s.heap
 bare:AllBare s.gens
def CE(outer:List Env)(P:Program)(w:World)(H:Hp)(s:Shared)(Q:VK)(u:Value)(s':Shared):Prop :=
 ∃ v H',s'.os=s.os/\AllBare s'.gens/\Un (frs outer) [] H H' s.heap s'.heap/\HOk P w H' s'.heap/\RelV v u/\Q v H'
def CR(CX:CXT)(outer:List Env)(P:Program)(w:World)(H:Hp)(s:Shared)(Q:VK)(E:XK)(r:Result)(s':Shared):Prop :=
 match r with
 | .ok (.ret u)=>CE outer P w H s Q u s'
 | .ok _=>False
 | .error e=>CX outer H s E e s'
structure FnOk(P:Program)(w:World)(K:PySem.W.Frag)(mg:Str->Option Value)(base:Heap)(CX:CXT)(k:Nat)(f:Addr)(fd:FuncData)(ps:List Str)(sp:Sp):Prop where
 len:∀ vs H Q E,sp vs H Q E->vs.length=ps.length
 run:∀ (A:Around) (outer:List Env) (s:Shared) (H:Hp) (args:Args) (us:List Value) (vs:List V) (Q:VK) (E:XK),Room k A->Env0 P w K mg base A outer s H->BindsTo s fd args (ps.zip us)->Vals vs us->sp vs H Q E ->
  codeAny (model P w) A (.call (.ref f) args) (CR CX outer P w H s Q E) s
theorem FnOk.mono{P:Program}{w:World}{K:PySem.W.Frag}{mg:Str->Option Value}{base:Heap}{CX:CXT}{j k:Nat}{f:Addr}{fd:FuncData}{ps:List Str}{sp:Sp}(F:FnOk P w K mg base CX j f fd ps sp)(h:j<=k) :
  FnOk P w K mg base CX k f fd ps sp:=⟨F.len,fun A outer s H args us vs Q E hr=>F.run A outer s H args us vs Q E (hr.mono h)⟩
section
variable {X:Cx}{pins:List (Addr×Obj)}{σ:St}{H:Hp}{s s':Shared}
theorem Inv.env0(I:Inv X pins σ H s):Env0 X.prog X.w X.K X.mg X.base X.A X.stack s H :=
 ⟨I.ok.frames,I.ok.mod,I.bs,Nat.le_trans I.ok.bsz I.sz,I.stack,I.stkFree,I.hok,I.bare⟩
theorem Inv.after{Q:VK}{u:Value}(I:Inv X pins σ H s)(h:CE X.stack X.prog X.w H s Q u s'):EP X pins σ Q u s':=by
 obtain⟨v,H',os,bare,un,hok,r,q⟩:=h
 obtain⟨hh,g,d,t,os'⟩:=s'
 obtain rfl:os'=s.os:=os
 exact⟨v,H',I.call (h':=hh) (g':=g) (d':=d) (t':=t) (ch:=[]) un hok bare (fun b z=>absurd z (by simp)),r,q⟩
end
def tCall(sp:Sp)(dvs:List V)(E:XK)(t:TA):TE:=fun σ H Q=>t σ H fun vs H1=>sp (vs++dvs) H1 Q E
def Binds(K:PySem.W.Frag)(fd:FuncData)(ps:List Str)(ds:List Value):Prop :=
 ∀ (s:Shared) (us:List Value),K.In s.heap->(us++ds).length=ps.length->BindsTo s fd ⟨us,[]⟩ (ps.zip (us++ds))
theorem Binds.all{K:PySem.W.Frag}{fd:FuncData}{ps:List Str}(h:∀ us:List Value,us.length=ps.length->bindArgs fd ⟨us,[]⟩=pure (ps.zip us)):Binds K fd ps []:=fun s us _ hl=>by
 rw[List.append_nil]at hl ⊢
 exact .of_eq (h us hl)
def Passes(CX:CXT)(X:Cx)(E:XK):Prop:=∀ (pins:List (Addr×Obj)) (σ:St) (H:Hp) (s:Shared) (e:Value) (s':Shared),Inv X pins σ H s->CX X.stack H s E e s'->X.xe e s'
section
variable {X:Cx}{CX:CXT}{k:Nat}{f C:Addr}{fd:FuncData}{ps:List Str}{sp:Sp}{dvs:List V}{ds:List Value}{E:XK}{x m:Str}{p pos apos:Pos}{e o:Expr}{es:List Expr}{ta:TE}{t:TA}
theorem zJp{pins:List (Addr×Obj)}{σ:St}{H:Hp}{s:Shared}{Q:VK}{us:List Value}{vs:List V}(F:FnOk X.prog X.w X.K X.mg X.base CX k f fd ps sp)(hr:Room k X.A)(hb:Binds X.K fd ps ds)(hd:Vals dvs ds)(hx:Passes CX X E)
  (I:Inv X pins σ H s) (r:Vals vs us) (h:sp (vs++dvs) H Q E):wpAny (model X.prog X.w) X.A (call (.ref f) us) (EP X pins σ Q) X.xe s:=by
 have r2:Vals (vs++dvs) (us++ds):=r.append hd
 have hl:(us++ds).length=ps.length:=by rw[← r2.length]; exact F.len _ _ _ _ h
 refine wpAny_call (codeAny_mono (F.run X.A X.stack s H ⟨us,[]⟩ (us++ds) (vs++dvs) Q E hr I.env0 (hb s us I.kIn hl) r2 h) fun r s' hq=>?_)
 cases r with
 | error e=>exact hx pins σ H s e s' I hq
 | ok fl =>
  cases fl with
  | ret u=>exact I.after hq
  | next=>exact False.elim hq
  | brk=>exact False.elim hq
  | cont=>exact False.elim hq
theorem zHM(F:FnOk X.prog X.w X.K X.mg X.base CX k f fd ps sp)(hr:Room k X.A)(hg:Gl X x)(hm:X.mg x=some (.ref f))(hk:PySem.W.keepIn X.K (.ref f)=true)(hb:Binds X.K fd ps ds)(hd:Vals dvs ds)(hx:Passes CX X E)
  (ha:PA X (e::es) t) (hdb:(x == ("__debug__":Str))=false:=by decide) (he:starEach (e::es) X.env=(false,eval e X.env)::starEach es X.env:=by rfl) (hpl:(backTo pos (starEach es X.env)).any (·.1)=false:=by rfl) :
  PE X (.Call (.Name x p) (e::es) [] pos) (tCall sp dvs E t):=by
 intro pins s σ H Q I h
 refine wpAny_Call_Name_kw (zHK I hg hm ?_ hdb)
 refine PySem.W.callWith_K (h₀:=X.base) I.ok.mod.kin hk (thn (ha pos pins s σ H _ I h) fun us s1 ⟨vs,H1,I1,r,q⟩=>⟨I1.kIn,?_⟩) he hpl
 exact zJp F hr hb hd hx I1 r q
end
structure FnScope(N P:List Str)(sc:Scope):Prop where
 kind:sc.kind=.function
 co:sc.isCoroutine=false
 gen:sc.isGenerator=false
 nd:N.Nodup
 pre:N.take P.length=P
 par:∀ x∈P,sc.names.lookup x=some .local\/sc.names.lookup x=some .cell
 nofree:∀ y∈sc.names,y.2≠.free
theorem zEx{kindOf:Str->Option NameKind}{x:Str}:∀ {binds:List (Str×Value)} {m:Str->Option Value},(∀ v,(x,v)∉binds)->bindL kindOf binds m x=m x
 | [],_,_=>rfl
 | (n,v)::r,m,h=>by
  unfold bindL
  rw[zEx fun w hw=>h w (List.mem_cons_of_mem _ hw)]
  split
  ·have:x≠n:=by rintro rfl; exact h v List.mem_cons_self
   simp[this]
  ·rfl
theorem zEu{kindOf:Str->Option NameKind}{x:Str}:∀ {binds:List (Str×Value)} {m:Str->Option Value},(∀ v,(x,v)∉binds)->bindC kindOf binds m x=m x
 | [],_,_=>rfl
 | (n,v)::r,m,h=>by
  unfold bindC
  rw[zEu fun w hw=>h w (List.mem_cons_of_mem _ hw)]
  split
  ·rfl
  ·have:x≠n:=by rintro rfl; exact h v List.mem_cons_self
   simp[this]
theorem zE3{kindOf:Str->Option NameKind}{x:Str}{v:Value}:∀ {P:List Str} {vs:List Value} {i:Nat} {m:Str->Option Value},P.Nodup->P[i]?=some x->vs[i]?=some v->kindOf x=some .local ->
  bindL kindOf (P.zip vs) m x=some v
 | [],_,_,_,_,h,_,_=>by simp at h
 | _::_,[],_,_,_,_,h,_=>by simp at h
 | p::P,w::vs,0,m,nd,h1,h2,hk=>by
  simp at h1 h2; subst h1; subst h2
  show bindL kindOf ((p,w)::P.zip vs) m p=_
  unfold bindL
  rw[zEx fun v hv=>(List.nodup_cons.mp nd).1 (List.of_mem_zip hv).1,if_pos hk]
  simp
 | p::P,w::vs,i+1,m,nd,h1,h2,hk=>by
  show bindL kindOf ((p,w)::P.zip vs) m x=_
  unfold bindL
  exact zE3 (i:=i) (List.nodup_cons.mp nd).2 (by simpa using h1) (by simpa using h2) hk
theorem zEz{kindOf:Str->Option NameKind}{x:Str}{v:Value}:∀ {P:List Str} {vs:List Value} {i:Nat} {m:Str->Option Value},P.Nodup->P[i]?=some x->vs[i]?=some v->kindOf x≠some .local ->
  bindC kindOf (P.zip vs) m x=some v
 | [],_,_,_,_,h,_,_=>by simp at h
 | _::_,[],_,_,_,_,h,_=>by simp at h
 | p::P,w::vs,0,m,nd,h1,h2,hk=>by
  simp at h1 h2; subst h1; subst h2
  show bindC kindOf ((p,w)::P.zip vs) m p=_
  unfold bindC
  rw[zEu fun v hv=>(List.nodup_cons.mp nd).1 (List.of_mem_zip hv).1,if_neg hk]
  simp
 | p::P,w::vs,i+1,m,nd,h1,h2,hk=>by
  show bindC kindOf ((p,w)::P.zip vs) m x=_
  unfold bindC
  exact zEz (i:=i) (List.nodup_cons.mp nd).2 (by simpa using h1) (by simpa using h2) hk
def start(N:List Str)(vs:List V):St:=vs.map some++List.replicate (N.length - vs.length) none
def cxOf(CX:CXT)(P:Program)(w:World)(K:PySem.W.Frag)(mg:Str->Option Value)(base:Heap)(N:List Str)(qual:Str)(scope:Scope)(f:Addr)(cd:Value)(A:Around)(outer:List Env)(s:Shared)(H:Hp)(E:XK):Cx where
 prog:=P
 w:=w
 K:=K
 mg:=mg
 base:=base
 A:=A.deeper (envOfC qual scope s.heap.objs.size f cd)
 N:=N
 s₀:=s
 H₀:=H
 env:=envOfC qual scope s.heap.objs.size f cd
 outer:=outer
 stack:=envOfC qual scope s.heap.objs.size f cd::outer
 ex:=[]
 calm:=true
 fn:=fun _=>true
 pn:=[]
 xe:=fun e s'=>wpAny (model P w) (A.deeper (envOfC qual scope s.heap.objs.size f cd)) (leaving (envOfC qual scope s.heap.objs.size f cd) e) (fun _ s''=>CX outer H s E e s'') (fun e' s''=>CX outer H s E e' s'') s'
theorem zFo{sc:Scope}{n:Nat}{x:Str}(h:sc.names.lookup x=some .cell):∃ c,(cellsFrom n sc.names []).lookup x=some c:=by
 have q:=PySem.W.cellsFrom_some sc.names n [] (.inl h)
 exact Option.isSome_iff_exists.mp q
theorem zJZ{CX:CXT}{P:Program}{w:World}{K:PySem.W.Frag}{mg:Str->Option Value}{base:Heap}{N ps:List Str}{qual:Str}{scope:Scope}{f:Addr}{cd:Value}{A:Around}{outer:List Env}{s s1:Shared}{H:Hp}{E:XK}{us:List Value}{vs:List V}
  (S:FnScope N ps scope) (hd:A.handled=none) (e0:Env0 P w K mg base A outer s H) (hl:vs.length=ps.length) (r:Vals vs us)
  (x:InCallC s s.heap.objs.size (bindL (envOfC qual scope s.heap.objs.size f cd).kindOf (ps.zip us) fun _=>none) (cellsFrom (s.heap.objs.size+1) scope.names []) (bindC (envOfC qual scope s.heap.objs.size f cd).kindOf (ps.zip us) fun _=>none) s1) :
  Inv (cxOf CX P w K mg base N qual scope f cd A outer s H E) [] (start N vs) H s1:=by
 have hpl:ps.length<=N.length:=by have:=congrArg List.length S.pre; rw[List.length_take]at this; omega
 obtain⟨h1,tk,rfl,hk⟩:=x.done
 have noA:∀ b:Addr,b∉(cxOf CX P w K mg base N qual scope f cd A outer s H E).ex:=fun b z=>absurd (show b∈([]:List Addr) from z) (by simp)
 refine⟨⟨e0.mod,S.kind,rfl,rfl,Nat.le_refl _,fun y z c h1 h2=>?_,fun y hy=>?_,fun y c _ h=>?_,fun _=>hd,Around.frames_deeper e0.frames,.inr ⟨rfl,rfl⟩,fun b z=>absurd z (noA b),e0.bs,e0.bsz,fun b _ _=>noA b,fun b z=>absurd z (noA b),e0.funs,e0.frf⟩,
  rfl,e0.bare,Un.kept hk,⟨_,x.toInCall.ns,fun i y v h1 h2 h3=>?_⟩,fun y c h=>⟨_,x.cell y c h⟩,e0.hok.fresh (Nat.le_refl _),fun y c h=>?_,fun p hp=>absurd (show p∈([]:List (Addr×Obj)) from hp) (by simp),e0.hok.kept hk,?_⟩
 ·exact name_of_addr x.apart (PySem.mem_of_lookup h1) (PySem.mem_of_lookup h2)
 ·have hy:scope.names.lookup y=some .cell\/scope.names.lookup y=some .free:=hy
  rcases hy with hy | hy
  ·exact zFo hy
  ·exact absurd rfl (S.nofree _ (PySem.mem_of_lookup hy))
 ·exact Nat.le_of_lt (x.above y c (PySem.mem_of_lookup h))
 ·have hi:i < vs.length:=by
   unfold start at h2
   by_cases hi:i < vs.length
   ·exact hi
   ·rw[List.getElem?_append_right (by simpa using hi)]at h2
    rw[List.getElem?_replicate]at h2
    split at h2 <;> cases h2
  have ha:vs[i]?=some v:=by
   unfold start at h2
   rw[List.getElem?_append_left (by simpa using hi),List.getElem?_map]at h2
   cases e:vs[i]? with
   | none=>rw[e]at h2; cases h2
   | some a=>rw[e]at h2; cases h2; rfl
  obtain⟨u,hu,rv⟩:=r.get ha
  have hp:ps[i]?=some y:=by
   rw[← S.pre,List.getElem?_take_of_lt (by omega)]; exact h1
  have ndP:ps.Nodup:=by rw[← S.pre]; exact S.nd.sublist (List.take_sublist _ _)
  refine⟨u,rv,?_⟩
  rcases S.par y (List.mem_of_getElem? hp) with k | k
  ·exact .inl ⟨k,zE3 ndP hp hu k⟩
  ·obtain⟨c,e⟩:=zFo (n:=s.heap.objs.size+1) k
   refine .inr ⟨.inl k,c,e,?_⟩
   have q:=x.cell y c e
   rw[zEz ndP hp hu (by show scope.names.lookup y≠_; rw[k]; decide)]at q
   exact q
 ·exact e0.hok.fresh (Nat.le_of_lt (x.above y c (PySem.mem_of_lookup h)))
 ·unfold start
  show _=N.length
  rw[List.length_append,List.length_map,List.length_replicate]
  omega
theorem zLo{CX:CXT}{P:Program}{w:World}{K:PySem.W.Frag}{mg:Str->Option Value}{base:Heap}{k:Nat}{f:Addr}{name qual:Str}{params:Arguments}{body:List Stmt}{scope:Scope}{dV kV doc pm cdv ct oc:Value}{an od:Option Addr}
  {osl:Array (Option Value)} {N ps:List Str} {sp:Sp} (lk:K.lookup f=some ⟨oc,od,.func (PySem.W.fnOf name qual params body scope dV kV doc pm an cdv ct),osl⟩) (hcd:PySem.W.codeIn K cdv qual=true) (S:FnScope N ps scope)
  (len:∀ vs H Q E,sp vs H Q E->vs.length=ps.length)
  (hbody:∀ (A:Around) (outer:List Env) (s:Shared) (H:Hp) (vs:List V) (Q:VK) (E:XK),Room k (A.deeper (envOfC qual scope s.heap.objs.size f cdv))->sp vs H Q E ->
   ∃ t,PSs (cxOf CX P w K mg base N qual scope f cdv A outer s H E) body t/\t { nx:=fun _ H'=>Q .non H',rt:=Q } (start N vs) H) :
  FnOk P w K mg base CX (k+1) f (PySem.W.fnOf name qual params body scope dV kV doc pm an cdv ct) ps sp:=by
 refine⟨len,fun A outer s H args us vs Q E hr e0 hb r hsp=>?_⟩
 have hl:=len _ _ _ _ hsp
 have KX:K.In s.heap:=e0.mod.kin.keeps fun b o e=>(e0.bs b o e).1
 have lim:s.heap.NoLimit:=e0.mod.nolimit.keeps fun b o e=>(e0.bs b o e).1
 have hkind:∀ y∈ps.zip us,scope.names.lookup y.1=some .local\/(scope.names.lookup y.1=some .cell/\((cellsFrom (s.heap.objs.size+1) scope.names []).lookup y.1).isSome=true):=fun ⟨n,v⟩ hy=>by
  rcases S.par n (List.of_mem_zip hy).1 with q | q
  ·exact .inl q
  ·exact .inr ⟨q,PySem.W.cellsFrom_some _ _ _ (.inl q)⟩
 refine codeAny_call_function hr.depth (KX _ _ lk) rfl S.co S.gen rfl (PySem.W.codeRec_of KX hcd) (hb _ _ _ _ ?_)
 refine wpAny_newFunctionEnv_cells S.kind hkind fun env he s1 x=>?_
 subst he
 refine⟨lim.keeps x.toInCall.keep,codeAny_func ?_⟩
 obtain⟨t,ht,hq⟩:=hbody A outer s H vs Q E (hr.deeper _) hsp
 have I:Inv (cxOf CX P w K mg base N qual scope f cdv A outer s H E) [] (start N vs) H s1:=zJZ S hr.hd e0 hl r x
 refine wpAny_mono (ht [] s1 (start N vs) H _ I hq) (fun fl s' hs=>?_) fun e s' hs=>hs
 have fin:∀ {σ':St} {H':Hp} {v:V} {u:Value},Inv (cxOf CX P w K mg base N qual scope f cdv A outer s H E) [] σ' H' s'->RelV v u->Q v H'->CE outer P w H s Q u s' :=
  fun {σ' H' v u} J rv q=>⟨v,H',J.os,J.bare,J.base,J.hok,rv,q⟩
 cases fl with
 | ret u =>
  obtain⟨v,σ',H',J,rv,q⟩:=hs
  exact fin J rv q
 | next =>
  obtain⟨σ',H',J,q⟩:=hs
  exact fin (v:=V.non) (u:=Value.none) J rfl q
 | brk =>
  obtain⟨_,_,_,q⟩:=hs
  exact False.elim q
 | cont =>
  obtain⟨_,_,_,q⟩:=hs
  exact False.elim q
section
variable {X:Cx}{x:Str}{p pos:Pos}{e:Expr}{es:List Expr}{t:TA}{id T:String}{r:List V->Hp->VK->Prop}
def tCB(r:List V->Hp->VK->Prop)(t:TA):TE:=fun σ H Q=>t σ H fun vs H1=>r vs H1 Q
theorem zK8(hc:CallR X (.builtin id) r)(hg:Gl X x)(hm:X.mg x=none)(hv:bootBuiltins x=some (.builtin id))(ha:PA X (e::es) t)(hn:x≠"__name__":=by decide)(hdb:(x == ("__debug__":Str))=false:=by decide)
  (he:starEach (e::es) X.env=(false,eval e X.env)::starEach es X.env:=by rfl) (hpl:(backTo pos (starEach es X.env)).any (·.1)=false:=by rfl):PE X (.Call (.Name x p) (e::es) [] pos) (tCB r t):=by
 intro pins s σ H Q I h
 refine wpAny_Call_Name_kw (zBE I hg hm hv ?_ hn hdb)
 exact PyProof.Rows.callWith_builtin1 (thn (ha pos pins s σ H _ I h) fun us s1 ⟨vs,H1,I1,r1,q1⟩=>hc pins s1 σ H1 vs us Q I1 r1 q1) he hpl
theorem zBw(hc:CallR X (.type T) r)(hg:Gl X x)(hm:X.mg x=none)(hv:bootBuiltins x=some (.type T))(ha:PA X (e::es) t)(hn:x≠"__name__":=by decide)(hdb:(x == ("__debug__":Str))=false:=by decide)
  (he:starEach (e::es) X.env=(false,eval e X.env)::starEach es X.env:=by rfl) (hpl:(backTo pos (starEach es X.env)).any (·.1)=false:=by rfl):PE X (.Call (.Name x p) (e::es) [] pos) (tCB r t):=by
 intro pins s σ H Q I h
 refine wpAny_Call_Name_kw (zBE I hg hm hv ?_ hn hdb)
 exact PyProof.Rows.callWith_type1 (thn (ha pos pins s σ H _ I h) fun us s1 ⟨vs,H1,I1,r1,q1⟩=>hc pins s1 σ H1 vs us Q I1 r1 q1) he hpl
end
end L2
namespace HT
open PySem PyProof.Rows
section
open PySem.SeqAt
open PySem.AutoSeq1 (wpAny_loadPart')
open PySem.MeetsSeq PySem.MeetsSeq2 PySem.MeetsSeq3
end
section
variable {prog:Program}{w:World}{A:Around}{E:Value->Shared->Prop}{s:Shared}
theorem cat_tup{t b:Addr}{vs ws:List Value}{Q:Value->Shared->Prop}(ht:IsTup s.heap t vs.toArray)(hb:IsTup s.heap b ws.toArray)(hv:vs≠[])
  (h1:ws=[]->Q (.ref t) s) (h2:ws≠[]->Q (.ref s.heap.objs.size) { s with heap:=s.heap.push { cls:=.type "tuple",data:=.seq (vs++ws).toArray } })
  (hsz:vs.length+ws.length<=sizeLine):wpAny (model prog w) A (binaryOp .Add (.ref t) (.ref b)) Q E s:=by
 obtain⟨⟨cls,dd,data,sl⟩,ho,hc,n,hd⟩:=id ht
 obtain⟨⟨cls2,dd2,data2,sl2⟩,ho2,hc2,n2,hd2⟩:=id hb
 simp only at hc hd hc2 hd2
 subst hc hd hc2 hd2
 have e:vs.toArray++ws.toArray=(vs++ws).toArray:=by simp
 by_cases hw:ws=[]
 ·exact concat_meets ⟨_,ho,rfl⟩ ⟨_,ho2,rfl⟩ noFill_tuple_add seq_tuple_add PySem.F.slot_tuple_add PySem.F.entry_tuple_add (PySem.F.args_tuple_add_2 _ _)
   (tuple_addW1 t b vs.toArray ws.toArray n n2 dd dd2 sl sl2 (by simpa using hv) (by simp[hw])) ⟨ho,ho2,h1 hw⟩
 ·refine concat_meets ⟨_,ho,rfl⟩ ⟨_,ho2,rfl⟩ noFill_tuple_add seq_tuple_add PySem.F.slot_tuple_add PySem.F.entry_tuple_add (PySem.F.args_tuple_add_2 _ _)
   (tuple_addW2 t b vs.toArray ws.toArray n n2 dd dd2 sl sl2 (by simpa using hv) (by simpa using hw) (by rw[List.size_toArray,List.size_toArray]; exact hsz)) ⟨ho,ho2,?_⟩
  rw[e]
  exact h2 hw
def sIx(n d:Nat):Option Int->Nat
 | none=>d
 | some v=>if v < 0 then (v+(n:Int)).toNat else min v.toNat n
theorem sIx_none(n d:Nat):sIx n d none=d:=rfl
theorem sIx_nat(n d k:Nat):sIx n d (some (k:Int))=min k n:=by
 show (if (k:Int) < 0 then ((k:Int)+(n:Int)).toNat else min (k:Int).toNat n)=min k n
 rw[if_neg (by omega),Int.toNat_natCast]
theorem zOf(n d:Nat)(hd:d<=n)(o:Option Int):sIx n d o<=n:=by
 cases o with
 | none=>exact hd
 | some v =>
  show (if v < 0 then (v+(n:Int)).toNat else min v.toNat n)<=n
  by_cases hv:v < 0
  ·rw[if_pos hv]; omega
  ·rw[if_neg hv]; exact Nat.min_le_right _ _
theorem zG6(v:Int)(n d:Nat):(if v < 0 then max (v+(n:Int)) 0 else min v (n:Int))=((sIx n d (some v):Nat):Int):=by
 show (if v < 0 then max (v+(n:Int)) 0 else min v (n:Int))=(((if v < 0 then (v+(n:Int)).toNat else min v.toNat n):Nat):Int)
 by_cases hv:v < 0
 ·simp only[if_pos hv]; omega
 ·simp only[if_neg hv]; omega
theorem zIu(lo hi:Option Int)(n:Nat):Builtin.Slice.sliceAdjust lo hi 1 (n:Int)=(((sIx n 0 lo:Nat):Int),((sIx n n hi:Nat):Int)):=by
 have h1:¬ ((1:Int) < 0):=by omega
 unfold Builtin.Slice.sliceAdjust
 simp only[h1,if_false]
 refine Prod.ext ?_ ?_
 ·cases lo with
  | none=>rfl
  | some v=>exact zG6 v n 0
 ·cases hi with
  | none=>rfl
  | some v=>exact zG6 v n n
theorem zIP(i j:Nat):Builtin.Slice.slicePlaces (i:Int) (j:Int) 1=j - i:=by
 unfold Builtin.Slice.slicePlaces
 have h1:(1:Int) > 0:=by omega
 simp only[h1,if_true,Int.ediv_one]
 split <;> omega
theorem zDq{v:Value}{o:Option Int}{Q:Option Int->Shared->Prop}(p:IsPart v o)(h:Q o s):wpAny (model prog w) A (Builtin.Slice.slicePartIndex v) Q E s:=by
 cases p with
 | none=>exact slicePart_none h
 | int i t=>exact slicePart_int h
theorem sliceApplied_gen{sl:Addr}{vl vu:Value}{lo hi:Option Int}{n:Nat}{Q:Int×Int×Nat->Shared->Prop}(hs:s.heap.IsSliceOf sl vl vu .none)(pl:IsPart vl lo)(pu:IsPart vu hi)
  (h:Q (((sIx n 0 lo:Nat):Int),1,sIx n n hi - sIx n 0 lo) s):wpAny (model prog w) A (Builtin.Slice.sliceApplied (.ref sl) (pure (n:Int))) Q E s:=by
 obtain⟨os,hos,hcs,hds⟩:=id hs
 unfold Builtin.Slice.sliceApplied Builtin.Slice.sliceFields
 refine wpAny_bind (wpAny_bind (wpAny_field hos hds (x:=vl) rfl (wpAny_bind (wpAny_field hos hds (x:=vu) rfl (wpAny_bind (wpAny_field hos hds (x:=.none) rfl (wpAny_pure ?_)))))))
 refine wpAny_bind (slicePart_none ?_)
 show wpAny _ _ (if ((1:Int) == 0)=true then _ else _) _ _ s
 rw[if_neg (by decide)]
 refine wpAny_bind (zDq pl (wpAny_bind (zDq pu (wpAny_bind (wpAny_pure ?_)))))
 show wpAny _ _ (match Builtin.Slice.sliceAdjust lo hi 1 (n:Int) with | (lo,hi)=>pure (lo,(1:Int),Builtin.Slice.slicePlaces lo hi 1)) _ _ s
 rw[zIu lo hi n]
 show wpAny _ _ (pure (((sIx n 0 lo:Nat):Int),(1:Int),Builtin.Slice.slicePlaces ((sIx n 0 lo:Nat):Int) ((sIx n n hi:Nat):Int) 1)) _ _ s
 rw[zIP]
 exact wpAny_pure h
theorem zLV(xs:Array Value)(i k:Nat):((List.range k).filterMap fun (m:Nat)=>xs[((i:Int)+(m:Int) * 1).toNat]?).toArray=((xs.toList.drop i).take k).toArray:=by
 have e:(fun (m:Nat)=>xs[((i:Int)+(m:Int) * 1).toNat]?)=fun m=>xs[i+m]?:=by
  funext m
  have:((i:Int)+(m:Int) * 1).toNat=i+m:=by omega
  rw[this]
 rw[e]
 have:=pick_run xs i k
 rw[List.filterMap_map]at this
 have e2:((fun x=>xs[x]?) ∘ fun x=>i+x)=fun m=>xs[i+m]?:=rfl
 rw[e2]at this
 rw[this]
theorem qY{t sl:Addr}{items:Array Value}{vl vu:Value}{lo hi:Option Int}{Q:Value->Shared->Prop}(ht:IsTup s.heap t items)(hs:s.heap.IsSliceOf sl vl vu .none)(pl:IsPart vl lo)(pu:IsPart vu hi)
  (hw:¬ (sIx items.size 0 lo=0/\sIx items.size items.size hi=items.size))
  (h:Q (.ref s.heap.objs.size) { s with heap:=s.heap.push { cls:=.type "tuple",data:=.seq ((items.toList.drop (sIx items.size 0 lo)).take (sIx items.size items.size hi - sIx items.size 0 lo)).toArray } })
  (hsz:items.size<=sizeLine):wpAny (model prog w) A (getItem (.ref t) (.ref sl)) Q E s:=by
 have htake:sizeOk (.seq ((items.toList.drop (sIx items.size 0 lo)).take (sIx items.size items.size hi - sIx items.size 0 lo)).toArray):=by
  show ((items.toList.drop (sIx items.size 0 lo)).take (sIx items.size items.size hi - sIx items.size 0 lo)).toArray.size<=sizeLine
  rw[List.size_toArray,List.length_take,List.length_drop,Array.length_toList]
  omega
 have hj:sIx items.size items.size hi<=items.size:=zOf _ _ (Nat.le_refl _) hi
 obtain⟨os,hos,hcs,hds⟩:=id hs
 have hTs:s.TypeIs (.ref sl) "slice":=⟨os,hos,hcs⟩
 unfold getItem
 try with_reducible refine wpAny_holding ?_
 first | refine wpAny_bind (wpAny_pure ?_) | skip
 refine wpAny_bind (wpAny_sequenceKey ht.typeIs (by decide) ?_)
 refine wpAny_bind (wpAny_callSpecial?_slot (name:=Str.ofString "__getitem__") ht.typeIs PyProof.Rows.slot_tuple_getitem
  (wpAny_call_entry PyProof.Rows.slot_tuple_getitem ht.typeIs entry_tuple_getitem ?_ (args_tuple_getitem _ _)))
 show wpAny _ _ (Builtin.Tuple.tupleItemsOf (.ref t) >>= _) _ _ s
 refine wpAny_bind (tupleItemsOf_ ht ?_)
 refine wpAny_bind (wpAny_typeOf hTs ?_)
 rw[if_pos (by decide)]
 refine wpAny_bind (sliceApplied_gen hs pl pu ?_)
 have hno:¬ ((((sIx items.size 0 lo:Nat):Int) == 0 && (1:Int) == 1 && (sIx items.size items.size hi - sIx items.size 0 lo) == items.size)=true):=by
  intro q
  rw[Bool.and_eq_true,Bool.and_eq_true]at q
  have q1:((sIx items.size 0 lo:Nat):Int)=0:=eq_of_beq q.1.1
  have q2:sIx items.size items.size hi - sIx items.size 0 lo=items.size:=eq_of_beq q.2
  exact hw ⟨by omega,by omega⟩
 show wpAny _ _ (if (((sIx items.size 0 lo:Nat):Int) == 0 && (1:Int) == 1 && (sIx items.size items.size hi - sIx items.size 0 lo) == items.size)=true then _ else _) _ _ s
 rw[if_neg hno,zLV]
 first
  | exact wpAny_bind (m:=Builtin.Tuple.tupleExact _) (wpAny_newObj_type (wpAny_pure ⟨_,rfl,wpAny_pure h⟩) htake)
  | exact wpAny_bind (m:=Builtin.Tuple.tupleExact _) (wpAny_newObj_type (wpAny_bind (wpAny_pure (wpAny_pure ⟨_,rfl,wpAny_pure h⟩))) htake)
  | exact wpAny_bind (wpAny_bind (m:=Builtin.Tuple.tupleExact _) (wpAny_newObj_type (wpAny_pure (wpAny_pure ⟨_,rfl,wpAny_pure h⟩)) htake))
  | exact wpAny_bind (wpAny_bind (m:=Builtin.Tuple.tupleExact _) (wpAny_newObj_type (wpAny_pure ⟨_,rfl,wpAny_pure h⟩) htake))
end
end HT
namespace L2
open PySem PySem.Spec PyProof.Rows
abbrev TO:=St->Hp->(Option Int->Hp->Prop)->Prop
def PO(X:Cx)(e:Option Expr)(t:TO):Prop :=
 ∀ (pins:List (Addr×Obj)) (s:Shared) (σ:St) (H:Hp) (Q:Option Int->Hp->Prop),Inv X pins σ H s->t σ H Q ->
  wpAny (model X.prog X.w) X.A (evalPart e X.env) (fun u s'=>∃ o H',Inv X pins σ H' s'/\IsPart u o/\Q o H') X.xe s
def tNoPart:TO:=fun _ H Q=>Q none H
def tPart(t:TE):TO:=fun σ H Q=>t σ H fun x H1=>∃ i,x=.int i/\Q (some i) H1
theorem zHo{ns:List Int}:∀ {us:List Value},Vals (ns.map V.int) us->IntsAre us ns:=by
 induction ns with
 | nil=>intro us r; rw[List.map_nil]at r; cases r; exact .nil
 | cons n ns ih =>
  intro us r
  rw[List.map_cons]at r
  cases r with
  | cons r1 r2 =>
   obtain⟨t,e⟩:=r1
   subst e
   exact .cons n t (ih r2)
section
variable {X:Cx}{e:Expr}{te:TE}{lo hi:Option Expr}{tl th:TO}{pos p2:Pos}
theorem zMp:PO X none tNoPart:=by
 intro pins s σ H Q I h
 rw[evalPart_none]
 exact wpAny_pure ⟨none,H,I,.none,h⟩
theorem zNR(h:PE X e te):PO X (some e) (tPart te):=by
 intro pins s σ H Q I hw
 rw[evalPart_some]
 refine thn (h pins s σ H _ I hw) fun u s1 ⟨x,H1,I1,r1,q1⟩=>?_
 obtain⟨i,rfl,q⟩:=q1
 obtain⟨t,rfl⟩:=r1
 exact⟨some i,H1,I1,.int i t,q⟩
def SlR(X:Cx)(r:V->Option Int->Option Int->Hp->VK->Prop):Prop :=
 ∀ (pins:List (Addr×Obj)) (s:Shared) (σ:St) (H:Hp) (x:V) (v vl vu:Value) (lo hi:Option Int) (sl:Addr) (Q:VK),Inv X pins σ H s->RelV x v->s.heap.IsSliceOf sl vl vu .none->IsPart vl lo->IsPart vu hi->r x lo hi H Q ->
  ∃ T id,typeLookup (.type T) "__getitem__"=pure (some (.builtin id))/\s.TypeIs v T/\wpAny (model X.prog X.w) X.A (getItem v (.ref sl)) (EP X pins σ Q) X.xe s
theorem SlR.or{r r':V->Option Int->Option Int->Hp->VK->Prop}(h:SlR X r)(h':SlR X r'):SlR X (fun x lo hi H Q=>r x lo hi H Q\/r' x lo hi H Q):=by
 intro pins s σ H x v vl vu lo hi sl Q I rx hs pl pu q
 rcases q with q | q
 ·exact h pins s σ H x v vl vu lo hi sl Q I rx hs pl pu q
 ·exact h' pins s σ H x v vl vu lo hi sl Q I rx hs pl pu q
def tSl(r:V->Option Int->Option Int->Hp->VK->Prop)(te:TE)(tl th:TO):TE:=fun σ H Q=>te σ H fun x H1=>tl σ H1 fun l H2=>th σ H2 fun u H3=>r x l u H3 Q
theorem zKt{r:V->Option Int->Option Int->Hp->VK->Prop}(hr:SlR X r)(he:PE X e te)(hl:PO X lo tl)(hu:PO X hi th):PE X (.Subscript e (.Slice lo hi none p2) pos) (tSl r te tl th):=by
 intro pins s σ H Q I h
 refine Subscript_ (thn (he pins s σ H _ I h) fun v s1 ⟨x,H1,I1,r1,q1⟩=>?_)
 refine wpAny_Slice (thn (hl pins s1 σ H1 _ I1 q1) fun vl s2 ⟨l,H2,I2,pl,q2⟩=>thn (hu pins s2 σ H2 _ I2 q2) fun vu s3 ⟨u,H3,I3,pu,q3⟩=>?_)
 rw[evalPart_none]
 refine wpAny_pure ?_
 have I4:Inv X pins σ H3 { s3 with heap:=s3.heap.push { cls:=.type "slice",data:=.fields #[vl,vu,.none] } }:=I3.kept (t':=s3.toks) fun b ob q=>Heap.get?_push_of_some _ q
 obtain⟨T,id,hT,ht,hg⟩:=hr pins { s3 with heap:=s3.heap.push { cls:=.type "slice",data:=.fields #[vl,vu,.none] } } σ H3 x v vl vu l u s3.heap.objs.size Q I4 r1 (Heap.IsSliceOf.new ..) pl pu q3
 show wpAny (model X.prog X.w) X.A (subscriptTail e (.Slice lo hi none p2) v (.ref s3.heap.objs.size)) (EP X pins σ Q) X.xe { s3 with heap:=s3.heap.push { cls:=.type "slice",data:=.fields #[vl,vu,.none] } }
 exact tail_any (ops:=[.ref s3.heap.objs.size,v]) ht hT hg (by with_unfolding_all rfl)
def cutV(xs:List V)(lo hi:Option Int):List V:=(xs.drop (HT.sIx xs.length 0 lo)).take (HT.sIx xs.length xs.length hi - HT.sIx xs.length 0 lo)
theorem zDP(xs:List V)(lo hi:Option Int):(cutV xs lo hi).length<=xs.length:=by
 unfold cutV
 rw[List.length_take,List.length_drop]
 omega
end
def ixN(n:Nat)(i:Int):Option Nat:=if 0<=i then (if i < n then some i.toNat else none) else if -(n:Int)<=i then some (i+n).toNat else none
def atI{α:Type}(xs:List α)(i:Int):Option α:=(ixN xs.length i).bind fun j=>xs[j]?
theorem zEd{n:Nat}{i:Int}{j:Nat}(h:ixN n i=some j):seqIndex? i n=some j/\j < n/\-(n:Int)<=i/\i < n:=by
 unfold ixN at h
 by_cases h0:0<=i
 ·rw[if_pos h0]at h
  by_cases h1:i < n
  ·rw[if_pos h1]at h
   have e:i.toNat=j:=Option.some.inj h
   exact⟨by rw[seqIndex_of h0 h1,e],by omega,by omega,h1⟩
  ·rw[if_neg h1]at h; cases h
 ·rw[if_neg h0]at h
  by_cases h1:-(n:Int)<=i
  ·rw[if_pos h1]at h
   have e:(i+n).toNat=j:=Option.some.inj h
   exact⟨by rw[seqIndex_neg (by omega) h1,e],by omega,h1,by omega⟩
  ·rw[if_neg h1]at h; cases h
theorem zEa{α:Type}{xs:List α}{i:Int}{v:α}(h:atI xs i=some v):∃ j,seqIndex? i xs.length=some j/\xs[j]?=some v/\j < xs.length/\-(xs.length:Int)<=i/\i < xs.length:=by
 unfold atI at h
 cases e:ixN xs.length i with
 | none=>rw[e]at h; cases h
 | some j =>
  rw[e]at h
  obtain⟨h1,h2,h3,h4⟩:=zEd e
  exact⟨j,h1,h,h2,h3,h4⟩
def PlainIx(b:Expr):Prop:=∀ o i,subscripted b false o i=operate [o,i] (getItem o i)
def IxR(X:Cx)(r:R2):Prop :=
 ∀ (value slice:Expr) (pins:List (Addr×Obj)) (s:Shared) (σ:St) (H:Hp) (x y:V) (v u:Value) (Q:VK),Inv X pins σ H s->RelV x v->RelV y u->r x y H Q ->
  subscripted slice false v u=operate [v,u] (getItem v u)->wpAny (model X.prog X.w) X.A (subscriptTail value slice v u) (EP X pins σ Q) X.xe s
def MtR(X:Cx)(id:String)(r:V->List V->Hp->VK->Prop):Prop :=
 ∀ (pins:List (Addr×Obj)) (s:Shared) (σ:St) (H:Hp) (x:V) (xs:List V) (v:Value) (us:List Value) (Q:VK),Inv X pins σ H s->RelV x v->Vals xs us->r x xs H Q ->
  wpAny (model X.prog X.w) X.A (call (.builtin id) (v::us)) (EP X pins σ Q) X.xe s
section
variable {X:Cx}{a b:Expr}{ta tb:TE}{pos:Pos}
theorem IxR.or{r r':R2}(h:IxR X r)(h':IxR X r'):IxR X (fun x y H Q=>r x y H Q\/r' x y H Q):=by
 intro value slice pins s σ H x y v u Q I rx ry q hs
 rcases q with q | q
 ·exact h value slice pins s σ H x y v u Q I rx ry q hs
 ·exact h' value slice pins s σ H x y v u Q I rx ry q hs
theorem zP8{r:R2}(hr:IxR X r)(ha:PE X a ta)(hb:PE X b tb)(hs:PlainIx b):PE X (.Subscript a b pos) (tOp r ta tb):=by
 intro pins s σ H Q I h
 exact Subscript_ (binT ha hb I h fun v u s2 x y H2 I2 rx ry q=>hr a b pins s2 σ H2 x y v u Q I2 rx ry q (hs _ _))
def rIxL(K:PySem.W.Frag):R2:=fun x y H Q=>∃ p xs i v,x=.ref p/\y=.int i/\SqL K H p xs/\atI xs i=some v/\Q v H
def rIxT(K:PySem.W.Frag):R2:=fun x y H Q=>∃ p xs i v,x=.ref p/\y=.int i/\SqT K H p xs/\atI xs i=some v/\Q v H
def rIxS:R2:=fun x y H Q=>∃ z i c,x=.str z/\y=.int i/\z.length<=sizeLine/\atI z.cps.toList i=some c/\Q (.str ⟨#[c]⟩) H
theorem zNH:IxR X (rIxL X.K):=by
 intro value slice pins s σ H x y v u Q I rx ry h hs
 obtain⟨p,xs,i,z,rfl,rfl,hq,he,q⟩:=h
 cases rx
 obtain⟨t,rfl⟩:=ry
 obtain⟨its,r,pl,hz⟩:=I.list hq
 obtain⟨j,h1,h2,h3,h4,h5⟩:=zEa he
 obtain⟨w,ew,rw'⟩:=r.get h2
 have hl:=r.length
 have hn:=line63
 have fin:EP X pins σ Q w s:=⟨z,H,I,rw',q⟩
 by_cases h0:0<=i
 ·have hj:i.toNat=j:=by
   rw[seqIndex_of h0 h5]at h1
   exact Option.some.inj h1
  exact item_listR pl.isList h0 (by omega) (by rw[hj]; simpa using ew) fin hs
 ·have hj:(i+(its.toArray.size:Int)).toNat=j:=by
   rw[seqIndex_neg (by omega) h4]at h1
   rw[List.size_toArray,← hl]
   exact Option.some.inj h1
  exact subscriptTail_builtinR (x:=w) pl.isList.typeIs slot_list_getitem.lookup
   (wpAny_getItem_list_neg (Q:=fun r s'=>r=w/\EP X pins σ Q r s') pl.isList (by omega) (by rw[List.size_toArray] <;> omega) (by omega) (by rw[hj]; simpa using ew) ⟨rfl,fin⟩) hs
theorem zOk:IxR X (rIxT X.K):=by
 intro value slice pins s σ H x y v u Q I rx ry h hs
 obtain⟨p,xs,i,z,rfl,rfl,hq,he,q⟩:=h
 cases rx
 obtain⟨t,rfl⟩:=ry
 obtain⟨its,r,pl,hz⟩:=I.tuple hq
 obtain⟨j,h1,h2,h3,h4,h5⟩:=zEa he
 obtain⟨w,ew,rw'⟩:=r.get h2
 have hl:=r.length
 have hn:=line63
 have fin:EP X pins σ Q w s:=⟨z,H,I,rw',q⟩
 exact subscriptTail_builtinR (x:=w) pl.typeIs slot_tuple_getitem.lookup
  (getItem_tuple (j:=j) (Q:=fun r s'=>r=w/\EP X pins σ Q r s') pl (by omega) (by omega) (by rw[List.size_toArray,← hl]; exact h1) (by simpa using ew) ⟨rfl,fin⟩) hs
theorem zNd:IxR X rIxS:=by
 intro value slice pins s σ H x y v u Q I rx ry h hs
 obtain⟨z,i,c,rfl,rfl,hz,he,q⟩:=h
 obtain⟨t,rfl⟩:=rx
 obtain⟨t',rfl⟩:=ry
 obtain⟨j,h1,h2,h3,h4,h5⟩:=zEa he
 have hl:z.cps.toList.length=z.length:=by simp[Str.length]
 rw[hl]at h1 h4 h5
 have hn:=line63
 exact tail_any (typeIs_str s z t) slot_str_getitem.lookup (getItem_str (c:=c) (by
  have e1:decide (i < -(2 ^ 63:Int))=false:=decide_eq_false (by omega)
  have e2:decide (i ≥ 2 ^ 63)=false:=decide_eq_false (by omega)
  rw[e1,e2,Bool.or_false]) (by rw[h1]; simpa using h2) ⟨.str ⟨#[c]⟩,H,I.tok _,⟨_,rfl⟩,q⟩) hs
def rIx(K:PySem.W.Frag):R2:=fun x y H Q=>rIxL K x y H Q\/rIxT K x y H Q\/rIxS x y H Q
theorem zNq:IxR X (rIx X.K):=zNH.or (zOk.or zNd)
theorem zIB(its:List Value)(n j:Nat)(u:Value):Obj.mapSeq (·.setIfInBounds j u) { cls:=.type "list",data:=.seq its.toArray n }={ cls:=.type "list",data:=.seq (its.set j u).toArray n }:=by
 simp[Obj.mapSeq]
theorem Inv.lst{pins:List (Addr×Obj)}{σ:St}{H:Hp}{s:Shared}{p:Addr}{xs:List V}(I:Inv X pins σ H s)(h:H p=some (.lst xs)) :
  ∃ (its:List Value) (n:Nat),Vals xs its/\s.heap.get? p=some { cls:=.type "list",data:=.seq its.toArray n }/\xs.length<=sizeLine:=by
 obtain⟨z,its,n,r,e⟩:=I.hok p _ h
 exact⟨its,n,r,e,z⟩
theorem Inv.lstUpd{pins:List (Addr×Obj)}{σ:St}{H:Hp}{s:Shared}{p:Addr}{xs ys:List V}{its its':List Value}{n n':Nat}{f:Obj->Obj}(I:Inv X pins σ H s)(h:H p=some (.lst xs))
  (ho:s.heap.get? p=some { cls:=.type "list",data:=.seq its.toArray n }) (hf:f { cls:=.type "list",data:=.seq its.toArray n }={ cls:=.type "list",data:=.seq its'.toArray n' }) (r:Vals ys its') (hz:ys.length<=sizeLine) (t:Nat) :
  Inv X pins σ (upd H p (.lst ys)) { s with heap:=s.heap.update p f,toks:=t }:=by
 have e:(s.heap.update p f).get? p=some { cls:=.type "list",data:=.seq its'.toArray n' }:=by
  rw[Heap.get?_update_self f ho (by rw[hf] <;> rfl),hf]
 refine I.write (x:=p) (e:=p) (by rw[h]; trivial) (.inl rfl) (fun b u hb q=>(Heap.get?_update_other _ _ (Ne.symm hb)).trans q) ⟨_,e⟩ ?_
 exact⟨hz,its',n',r,e⟩
def rSetL:V->V->V->Hp->(Hp->Prop)->Prop:=fun o i v H Q=>∃ p xs k j,o=.ref p/\i=.int k/\H p=some (.lst xs)/\ixN xs.length k=some j/\Q (upd H p (.lst (xs.set j v)))
theorem zLG:PSet X rSetL:=by
 intro pins s σ H o i v ov iv u Q I ro ri rv h
 obtain⟨p,xs,k,j,rfl,rfl,hp,hj,q⟩:=h
 cases ro
 obtain⟨t,rfl⟩:=ri
 obtain⟨its,n,r,ho,hz⟩:=I.lst hp
 obtain⟨h1,h2,h3,h4⟩:=zEd hj
 have hl:=r.length
 have hn:=line63
 have I':Inv X pins σ (upd H p (.lst (xs.set j v))) { s with heap:=s.heap.update p (Obj.mapSeq (·.setIfInBounds j u)) } :=
  I.lstUpd hp ho (zIB its n j u) (r.set rv j) (by rw[List.length_set]; exact hz) s.toks
 by_cases h0:0<=k
 ·have hk:k.toNat=j:=by
   rw[seqIndex_of h0 h4]at h1
   exact Option.some.inj h1
  exact PySem.W.ki_setAt ho h0 (by omega) (by rw[List.size_toArray,← hl]; exact h4) (by rw[hk]; exact⟨_,I',q⟩)
 ·have hk:(k+(its.toArray.size:Int)).toNat=j:=by
   rw[seqIndex_neg (by omega) h3]at h1
   rw[List.size_toArray,← hl]
   exact Option.some.inj h1
  exact PySem.W.ki_setBack ho (by omega) (by rw[List.size_toArray,← hl]; exact h3) (by omega) (by rw[hk]; exact⟨_,I',q⟩)
theorem zFd(lo hi:Option Int)(n:Nat):(sliceBounds lo hi none n).1=((HT.sIx n 0 lo:Nat):Int)/\(sliceBounds lo hi none n).2.1=((HT.sIx n n hi:Nat):Int)/\(sliceBounds lo hi none n).2.2=1:=by
 refine⟨?_,?_,rfl⟩
 ·cases lo with
  | none=>simp[sliceBounds,HT.sIx]
  | some i =>
   simp only[sliceBounds,HT.sIx,Option.getD_none,show (1:Int) > 0 by decide,if_true]
   by_cases h:i < 0
   ·simp only[h,if_true] <;> omega
   ·simp only[h,if_false] <;> omega
 ·cases hi with
  | none=>simp[sliceBounds,HT.sIx]
  | some i =>
   simp only[sliceBounds,HT.sIx,Option.getD_none,show (1:Int) > 0 by decide,if_true]
   by_cases h:i < 0
   ·simp only[h,if_true] <;> omega
   ·simp only[h,if_false] <;> omega
theorem zFK(its:List Value)(lo hi:Option Int):slicePick its.toArray lo hi none=((its.drop (HT.sIx its.length 0 lo)).take (HT.sIx its.length its.length hi - HT.sIx its.length 0 lo)).toArray:=by
 obtain⟨h1,h2,h3⟩:=zFd lo hi its.toArray.size
 unfold slicePick
 rw[h1,h2,h3]
 simp only[sliceRange_one,pick_run,List.size_toArray] <;> rfl
def rSlL(K:PySem.W.Frag):V->Option Int->Option Int->Hp->VK->Prop:=fun x lo hi H Q=>∃ a xs,x=.ref a/\SqL K H a xs/\∀ p,H p=none->Q (.ref p) (upd H p (.lst (cutV xs lo hi)))
theorem zMx:SlR X (rSlL X.K):=by
 intro pins s σ H x v vl vu lo hi sl Q I rx hs pl pu h
 obtain⟨a,xs,rfl,hx,q⟩:=h
 cases rx
 obtain⟨its,r,ht,hz⟩:=I.list hx
 have hlen:=r.length
 refine⟨"list",_,slot_list_getitem.lookup,ht.isList.typeIs,?_⟩
 refine wpAny_getItem_list_slice ht.isList hs pl pu .none (by simp) ?_ (by rw[List.size_toArray] <;> omega)
 rw[zFK,← hlen]
 refine⟨.ref s.heap.objs.size,_,I.laid (t':=s.toks) (o:=.lst (cutV xs lo hi)) (fun b ob q=>Heap.get?_push_of_some _ q) (Nat.le_refl _) ?_,rfl,q _ (I.hok.fresh (Nat.le_refl _))⟩
 exact⟨Nat.le_trans (zDP xs lo hi) hz,_,0,(r.drop (HT.sIx xs.length 0 lo)).take (HT.sIx xs.length xs.length hi - HT.sIx xs.length 0 lo),Heap.get?_push_size _ rfl⟩
def flatV:V->Bool
 | .non=>true
 | .bl _=>true
 | .int _=>true
 | .str _=>true
 | _=>false
def eqV:V->V->Bool
 | .non,.non=>true
 | .bl a,.bl b=>a == b
 | .bl a,.int b=>(if a then 1 else 0) == b
 | .int a,.bl b=>a == (if b then 1 else 0)
 | .int a,.int b=>a == b
 | .str a,.str b=>a == b
 | _,_=>false
theorem zNu{A:Around}{s:Shared}{y x:V}{u v:Value}(ry:RelV y u)(rx:RelV x v)(fy:flatV y=true)(fx:flatV x=true):SeqAt.EqAt A s u v (eqV y x):=by
 cases y with
 | non =>
  cases ry
  cases x with
  | non=>cases rx; exact SeqAt.EqAt.same _
  | bl b=>cases rx; exact SeqAt.EqAt.none_bool b
  | int b=>obtain⟨t,rfl⟩:=rx; exact SeqAt.EqAt.none_int b t
  | str b=>obtain⟨t,rfl⟩:=rx; exact SeqAt.EqAt.none_str b t
  | _=>exact absurd (show false=true from fx) Bool.false_ne_true
 | bl a =>
  cases ry
  cases x with
  | non=>cases rx; exact SeqAt.EqAt.bool_none a
  | bl b=>cases rx; exact SeqAt.EqAt.bool_bool a b
  | int b=>obtain⟨t,rfl⟩:=rx; exact SeqAt.EqAt.bool_int a b t
  | str b=>obtain⟨t,rfl⟩:=rx; exact SeqAt.EqAt.bool_str a b t
  | _=>exact absurd (show false=true from fx) Bool.false_ne_true
 | int a =>
  obtain⟨t',rfl⟩:=ry
  cases x with
  | non=>cases rx; exact SeqAt.EqAt.int_none a t'
  | bl b=>cases rx; exact SeqAt.EqAt.int_bool a t' b
  | int b=>obtain⟨t,rfl⟩:=rx; exact SeqAt.EqAt.int_int a t' b t
  | str b=>obtain⟨t,rfl⟩:=rx; exact SeqAt.EqAt.int_str a t' b t
  | _=>exact absurd (show false=true from fx) Bool.false_ne_true
 | str a =>
  obtain⟨t',rfl⟩:=ry
  cases x with
  | non=>cases rx; exact SeqAt.EqAt.str_none a t'
  | bl b=>cases rx; exact SeqAt.EqAt.str_bool a t' b
  | int b=>obtain⟨t,rfl⟩:=rx; exact SeqAt.EqAt.str_int a t' b t
  | str b=>obtain⟨t,rfl⟩:=rx; exact SeqAt.EqAt.str_str a t' b t
  | _=>exact absurd (show false=true from fx) Bool.false_ne_true
 | _=>exact absurd (show false=true from fy) Bool.false_ne_true
def eqU(x:V)(u:Value):Bool:=match u with
 | .none=>eqV .non x
 | .bool b=>eqV (.bl b) x
 | .int i _=>eqV (.int i) x
 | .str z _=>eqV (.str z) x
 | _=>false
theorem zFb{x y:V}{u:Value}(r:RelV y u)(f:flatV y=true):eqU x u=eqV y x:=by
 cases y with
 | non=>cases r; rfl
 | bl b=>cases r; rfl
 | int i=>obtain⟨t,rfl⟩:=r; rfl
 | str z=>obtain⟨t,rfl⟩:=r; rfl
 | _=>exact absurd (show false=true from f) Bool.false_ne_true
theorem zCS{x:V}:∀ {xs:List V} {us:List Value},Vals xs us->xs.all flatV=true->us.any (eqU x)=xs.any fun y=>eqV y x
 | _,_,.nil,_=>rfl
 | y::xs,u::us,.cons r t,f=>by
  rw[List.all_cons,Bool.and_eq_true]at f
  rw[List.any_cons,List.any_cons,zFb r f.1,zCS t f.2]
theorem zBl{A:Around}{s:Shared}{x:V}{v:Value}(rx:RelV x v)(fx:flatV x=true):∀ {xs:List V} {us:List Value},Vals xs us->xs.all flatV=true->∀ u∈us,SeqAt.EqAt A s u v (eqU x u)
 | _,_,.nil,_=>fun u hu=>by cases hu
 | y::xs,u::us,.cons r t,f=>fun u' hu=>by
  rw[List.all_cons,Bool.and_eq_true]at f
  rcases List.mem_cons.mp hu with rfl | hu
  ·rw[zFb r f.1]; exact zNu r rx f.1 fx
  ·exact zBl rx fx t f.2 u' hu
def inV(x:V)(xs:List V):Bool:=xs.any fun y=>eqV y x
def rIn(K:PySem.W.Frag)(neg:Bool):R2:=fun x y H Q=>∃ p xs,y=.ref p/\(SqL K H p xs\/SqT K H p xs)/\flatV x=true/\xs.all flatV=true/\Q (.bl (if neg then !inV x xs else inV x xs)) H
theorem zKE:OpR X (compareOp .In) (rIn X.K false):=by
 intro pins s σ H x y v u Q I rx ry h
 obtain⟨p,xs,rfl,hq,fx,fs,q⟩:=h
 cases ry
 rcases hq with hq | hq
 ·obtain⟨its,r,pl,hz⟩:=I.list hq
  refine SeqAt.in_listAt (eqU x) pl.isList (fun w hw=>zBl rx fx r fs w (by simpa using hw)) ⟨.bl _,H,I,rfl,?_⟩
  rw[show its.toArray.any (eqU x)=its.any (eqU x) by simp,zCS r fs]
  exact q
 ·obtain⟨its,r,pl,hz⟩:=I.tuple hq
  refine SeqAt.in_tupleAt (eqU x) pl (fun w hw=>zBl rx fx r fs w (by simpa using hw)) ⟨.bl _,H,I,rfl,?_⟩
  rw[show its.toArray.any (eqU x)=its.any (eqU x) by simp,zCS r fs]
  exact q
theorem zFe:OpR X (compareOp .NotIn) (rIn X.K true):=by
 intro pins s σ H x y v u Q I rx ry h
 obtain⟨p,xs,rfl,hq,fx,fs,q⟩:=h
 cases ry
 rcases hq with hq | hq
 ·obtain⟨its,r,pl,hz⟩:=I.list hq
  refine SeqAt.notIn_listAt (eqU x) pl.isList (fun w hw=>zBl rx fx r fs w (by simpa using hw)) ⟨.bl _,H,I,rfl,?_⟩
  rw[show its.toArray.any (eqU x)=its.any (eqU x) by simp,zCS r fs]
  exact q
 ·obtain⟨its,r,pl,hz⟩:=I.tuple hq
  refine SeqAt.notIn_tupleAt (eqU x) pl (fun w hw=>zBl rx fx r fs w (by simpa using hw)) ⟨.bl _,H,I,rfl,?_⟩
  rw[show its.toArray.any (eqU x)=its.any (eqU x) by simp,zCS r fs]
  exact q
theorem zF3:CallR X (.builtin "len") (fun xs H Q=>∃ p ys,xs=[.ref p]/\(SqL X.K H p ys\/SqT X.K H p ys)/\Q (.int ys.length) H):=by
 intro pins s σ H xs us Q I r h
 obtain⟨p,ys,rfl,hq,q⟩:=h
 obtain⟨u,rfl,rx⟩:=vals1 r
 cases rx
 have hn:=line63
 rcases hq with hq | hq
 ·obtain⟨its,r',pl,hz⟩:=I.list hq
  have hlen:=r'.length
  exact Calls.call_len_list pl.isList (by simp only[List.size_toArray] <;> omega) ⟨.int ys.length,H,I.tok _,⟨s.toks+1,by rw[List.size_toArray,hlen]⟩,q⟩
 ·obtain⟨its,r',pl,hz⟩:=I.tuple hq
  have hlen:=r'.length
  exact len_tuple pl (by simp only[List.size_toArray] <;> omega) ⟨.int ys.length,H,I.tok _,⟨s.toks+1,by rw[List.size_toArray,hlen]⟩,q⟩
theorem zF5:CallR X (.builtin "len") (fun xs H Q=>∃ z,xs=[.str z]/\z.length<=sizeLine/\Q (.int z.length) H):=by
 intro pins s σ H xs us Q I r h
 obtain⟨z,rfl,hz,q⟩:=h
 obtain⟨u,rfl,t,rfl⟩:=vals1 r
 have hn:=line63
 exact len_str (by omega) ⟨.int z.length,H,I.tok _,⟨_,rfl⟩,q⟩
theorem CallR.or{f:Value}{r r':List V->Hp->VK->Prop}(h:CallR X f r)(h':CallR X f r'):CallR X f (fun xs H Q=>r xs H Q\/r' xs H Q):=by
 intro pins s σ H xs us Q I rs q
 rcases q with q | q
 ·exact h pins s σ H xs us Q I rs q
 ·exact h' pins s σ H xs us Q I rs q
theorem zFF:CallR X (.type "tuple") (fun xs H Q=>∃ p ys,xs=[.ref p]/\((SqL X.K H p ys/\∀ l,H l=none->Q (.ref l) (upd H l (.tup ys)))\/(SqT X.K H p ys/\Q (.ref p) H))):=by
 intro pins s σ H xs us Q I r h
 obtain⟨p,ys,rfl,h⟩:=h
 obtain⟨u,rfl,rx⟩:=vals1 r
 cases rx
 rcases h with ⟨hq,q⟩ | ⟨hq,q⟩
 ·obtain⟨its,r',pl,hz⟩:=I.list hq
  have hlen:=r'.length
  refine call_tuple_list pl.isList (fun h' kp=>?_) (by simp only[List.size_toArray] <;> omega)
  have I1:Inv X pins σ H { s with heap:=h' }:=I.kept (t':=s.toks) kp
  have I2:Inv X pins σ (upd H h'.objs.size (.tup ys)) { s with heap:=h'.push { cls:=.type "tuple",data:=.seq its.toArray } } :=
   I1.laid (t':=s.toks) (fun b o e=>Heap.get?_push_of_some _ e) (Nat.le_refl _) (show ObjOk X.prog X.w _ _ _ (.tup ys) from ⟨hz,its,r',TupD.new _ _⟩)
  exact⟨.ref h'.objs.size,_,I2,rfl,q _ (I1.hok.fresh (Nat.le_refl _))⟩
 ·obtain⟨its,r',pl,hz⟩:=I.tuple hq
  exact call_tuple_same pl ⟨.ref p,H,I,rfl,q⟩
def tyV(K:PySem.W.Frag)(T:String)(x:V)(H:Hp):Prop:=match x with
 | .str _=>T="str"
 | .int _=>T="int"
 | .ref p=>(T="list"/\∃ xs,SqL K H p xs)\/(T="tuple"/\∃ o,K.lookup p=some o/\o.cls=.type "tuple"/\o.dict=none) \/
   (T="dict"/\((∃ kvs,H p=some (.dK kvs))\/∃ kvs,H p=some (.dT kvs)))\/(T="set"/\∃ S n,H p=some (.set S n))
 | _=>False
theorem zJy{pins:List (Addr×Obj)}{σ:St}{H:Hp}{s:Shared}{T:String}{x:V}{v:Value}(I:Inv X pins σ H s)(r:RelV x v)(ty:tyV X.K T x H) :
  s.TypeIs v T/\∀ a,v=.ref a->∃ ob,s.heap.get? a=some ob/\ob.dict=none:=by
 cases x with
 | str z =>
  obtain⟨t,rfl⟩:=r
  cases (show T="str" from ty)
  exact⟨typeIs_str s z t,fun _ e=>nomatch e⟩
 | int i =>
  obtain⟨t,rfl⟩:=r
  cases (show T="int" from ty)
  exact⟨typeIs_int s i t,fun _ e=>nomatch e⟩
 | ref p =>
  cases r
  rcases ty with ⟨rfl,xs,hq⟩ | ⟨rfl,o,hk,hc,hd⟩ | ⟨rfl,hk⟩ | ⟨rfl,S,n,hk⟩
  ·obtain⟨its,_,pl,_⟩:=I.list hq
   refine⟨pl.isList.typeIs,fun a e=>?_⟩
   cases e
   obtain⟨o,n,e,c,hd,_⟩:=pl
   exact⟨o,e,hd⟩
  ·refine⟨⟨o,I.kIn p o hk,hc⟩,fun a e=>?_⟩
   cases e
   exact⟨o,I.kIn _ o hk,hd⟩
  ·have z:∃ o,s.heap.get? p=some o/\o.ExactDict:=by
    rcases hk with ⟨kvs,hk⟩ | ⟨kvs,hk⟩
    ·obtain⟨_,_,_,_,o,_,_,e,ex,_⟩:=I.hok p _ hk
     exact⟨o,e,ex⟩
    ·obtain⟨_,_,_,_,o,_,_,e,ex,_⟩:=I.hok p _ hk
     exact⟨o,e,ex⟩
   obtain⟨o,e,ex⟩:=z
   refine⟨⟨o,e,ex.1⟩,fun a e2=>?_⟩
   cases e2
   exact⟨o,e,ex.2.1⟩
  ·obtain⟨o,_,_,_,e,ex,_⟩:=I.hok p _ hk
   refine⟨⟨o,e,ex.1⟩,fun a e2=>?_⟩
   cases e2
   exact⟨o,e,ex.2.1⟩
 | _=>exact False.elim ty
def tBM0(K:PySem.W.Frag)(T:String)(r:V->List V->Hp->VK->Prop)(to:TE):TE:=fun σ H Q=>to σ H fun x H1=>tyV K T x H1/\r x [] H1 Q
def tBM(K:PySem.W.Frag)(T:String)(r:V->List V->Hp->VK->Prop)(to:TE)(t:TA):TE:=fun σ H Q=>to σ H fun x H1=>tyV K T x H1/\t σ H1 fun xs H2=>r x xs H2 Q
variable {o e:Expr}{es:List Expr}{to:TE}{t:TA}{name:Str}{apos cpos:Pos}{T id:String}{r:V->List V->Hp->VK->Prop}
theorem zN7(pa:PlainAttrs T)(slot:Slot T name id)(hty:typeOf (.builtin id)=pure (.type "method_descriptor"))(hm:MtR X id r)(ho:PE X o to)
  (hbase:attributeBase o name X.env (eval o X.env)=eval o X.env:=by rfl) (hline:(apos.endLine == cpos.line)=true:=by rfl):PE X (.Call (.Attribute o name apos) [] [] cpos) (tBM0 X.K T r to):=by
 intro pins s σ H Q I h
 refine wpAny_Call_method0_late hbase hline (thn (ho pins s σ H _ I h) fun v s1 ⟨x,H1,I1,r1,ty,q1⟩=>?_)
 obtain⟨h1,h2⟩:=zJy I1 r1 ty
 exact⟨T,id,pa,slot,hty,h1,h2,Calls.callWith_builtin rfl (PySem.evalArgs_none (hm pins s1 σ H1 x [] v [] Q I1 r1 .nil q1))⟩
theorem zOw(pa:PlainAttrs T)(slot:Slot T name id)(hty:typeOf (.builtin id)=pure (.type "method_descriptor"))(hm:MtR X id r)(ho:PE X o to)(ha:PA X (e::es) t)
  (hbase:attributeBase o name X.env (eval o X.env)=eval o X.env:=by rfl)
  (hfew:((backTo cpos (starEach (e::es) X.env)).all (fun x=>!x.1) && (backToKw cpos (keywordEach [] X.env)).all (fun x=>x.1.isSome)
   && decide ((e::es).length+([]:List Keyword).length+(if ([]:List Keyword).isEmpty then 0 else 1) < 30))=true:=by rfl)
  (hline:(apos.endLine == cpos.line)=true:=by rfl) (hs:starEach (e::es) X.env=(false,eval e X.env)::starEach es X.env:=by rfl) (hplain:(backTo cpos (starEach es X.env)).any (·.1)=false:=by rfl) :
  PE X (.Call (.Attribute o name apos) (e::es) [] cpos) (tBM X.K T r to t):=by
 intro pins s σ H Q I h
 refine wpAny_Call_method_late hbase hfew hline rfl (thn (ho pins s σ H _ I h) fun v s1 ⟨x,H1,I1,r1,ty,q1⟩=>?_)
 obtain⟨h1,h2⟩:=zJy I1 r1 ty
 refine⟨T,id,pa,slot,hty,h1,h2,?_⟩
 have hA:=ha cpos pins s1 σ H1 _ I1 q1
 rw[hs]at hA ⊢
 refine Calls.callWith_builtin (by show (false || (backTo cpos (starEach es X.env)).any (·.1))=false; rw[hplain] <;> rfl) (Calls.evalArgs_plain ?_)
 exact thn hA fun us s2 ⟨vs,H2,I2,r2,q2⟩=>hm pins s2 σ H2 x vs v us Q I2 r1 r2 q2
end
def MtM(X:Cx)(id:String)(r:V->List V->Hp->VK->Prop):Prop :=
 ∀ (pins:List (Addr×Obj)) (s:Shared) (σ:St) (H:Hp) (x:V) (xs:List V) (v:Value) (us:List Value) (Q:VK),Inv X pins σ H s->RelV x v->Vals xs us->r x xs H Q ->
  wpAny (model X.prog X.w) X.A (call (.builtin id) (v::us)) (EP X pins σ Q) X.xe s
theorem Vals.one:∀ {x:V} {us:List Value},Vals [x] us->∃ u,us=[u]/\RelV x u
 | _,_,.cons r .nil=>⟨_,rfl,r⟩
theorem Vals.zero:∀ {us:List Value},Vals [] us->us=[]
 | _,.nil=>rfl
theorem Vals.dropLast{xs:List V}{us:List Value}(h:Vals xs us):Vals xs.dropLast us.dropLast:=by
 induction h with
 | nil=>exact .nil
 | cons r t ih =>
  cases t with
  | nil=>exact .nil
  | cons q t'=>exact .cons r ih
theorem Vals.eraseIdx:∀ {xs:List V} {us:List Value} (i:Nat),Vals xs us->Vals (xs.eraseIdx i) (us.eraseIdx i)
 | _,_,_,.nil=>.nil
 | _,_,0,.cons _ t=>t
 | _,_,i+1,.cons r t=>.cons r (Vals.eraseIdx i t)
theorem Vals.rep{xs:List V}{us:List Value}(h:Vals xs us):∀ k:Nat,Vals (List.replicate k xs).flatten (List.replicate k us).flatten
 | 0=>.nil
 | k+1=>by
  rw[List.replicate_succ,List.replicate_succ,List.flatten_cons,List.flatten_cons]
  exact Vals.append h (Vals.rep h k)
theorem zIh{α:Type}(l:List α):l.eraseIdx (l.length - 1)=l.dropLast:=by
 induction l with
 | nil=>rfl
 | cons a r ih =>
  cases r with
  | nil=>rfl
  | cons b r =>
   have e:(a::b::r).length - 1=((b::r).length - 1)+1:=by
    have h1:(a::b::r).length=r.length+2:=rfl
    have h2:(b::r).length=r.length+1:=rfl
    omega
   rw[e,List.eraseIdx_cons_succ,ih]
   all_goals rfl
theorem zE1{α:Type}:∀ (l:List α) (i:Nat),(l.eraseIdx i).length<=l.length
 | [],_=>Nat.le_refl _
 | _::_,0=>Nat.le_succ _
 | _::r,i+1=>Nat.succ_le_succ (zE1 r i)
theorem zEv(its:List Value):∀ (k:Nat) (acc:List Value),
  List.foldl (fun x1 x2=>x1++x2) acc.toArray (List.replicate k its.toArray)=(acc++(List.replicate k its).flatten).toArray
 | 0,acc=>by simp
 | k+1,acc=>by
  have e:acc.toArray++its.toArray=(acc++its).toArray:=by simp
  have e2:(acc++its)++(List.replicate k its).flatten=acc++(List.replicate (k+1) its).flatten:=by
   rw[List.replicate_succ,List.flatten_cons,List.append_assoc]
  rw[← e2,← zEv its k (acc++its),← e,List.replicate_succ,List.foldl_cons]
section
variable {X:Cx}{pins:List (Addr×Obj)}{σ:St}{H:Hp}{s:Shared}{l b:Addr}{xs ys zs:List V}
theorem Inv.lset{its its':List Value}{n:Nat}{f:Array Value->Array Value}{t':Nat}(I:Inv X pins σ H s)(hH:H l=some (.lst xs))
  (e:s.heap.get? l=some { cls:=.type "list",data:=.seq its.toArray n }) (hf:f its.toArray=its'.toArray) (hv:Vals ys its') (hz:ys.length<=sizeLine) :
  Inv X pins σ (upd H l (.lst ys)) { s with heap:=s.heap.update l (Obj.mapSeq f),toks:=t' }:=by
 have q:=PySem.IsL.update e f
 rw[hf]at q
 refine I.write (x:=l) (e:=l) (by rw[hH]; exact trivial) (.inl rfl) (fun b' u hb hu=>(Heap.get?_update_other s.heap (Obj.mapSeq f) (Ne.symm hb)).trans hu) ⟨_,q⟩ ?_
 exact⟨hz,its',_,hv,q⟩
theorem Inv.lnew{its:List Value}{t':Nat}(I:Inv X pins σ H s)(hv:Vals ys its)(hz:ys.length<=sizeLine) :
  Inv X pins σ (upd H s.heap.objs.size (.lst ys)) { s with heap:=s.heap.push { cls:=.type "list",data:=.seq its.toArray },toks:=t' } :=
 I.laid (fun _ _ q=>Heap.get?_push_of_some _ q) (Nat.le_refl _) ⟨hz,its,0,hv,Heap.get?_push_size _ rfl⟩
theorem Inv.fresh(I:Inv X pins σ H s):H s.heap.objs.size=none:=I.hok.fresh (Nat.le_refl _)
theorem Inv.lstM(I:Inv X pins σ H s)(hH:H l=some (.lst xs)):xs.length<=sizeLine/\∃ (its:List Value) (n:Nat),Vals xs its/\xs.length=its.length/\s.heap.get? l=some { cls:=.type "list",data:=.seq its.toArray n }:=by
 obtain⟨z,its,n,r,e⟩:=I.hok l _ hH
 exact⟨z,its,n,r,r.length,e⟩
theorem notLongL{n:Nat}(h:n<=sizeLine):Builtin.List.listTooLong n=false:=by
 unfold Builtin.List.listTooLong
 exact decide_eq_false (by omega)
end
section
variable {X:Cx}
def rAppend:V->List V->Hp->VK->Prop:=fun x vs H Q=>∃ l xs y,x=.ref l/\vs=[y]/\H l=some (.lst xs)/\xs.length < sizeLine/\Q .non (upd H l (.lst (xs++[y])))
theorem zB1:MtM X "list.append" rAppend:=by
 intro pins s σ H x vs v us Q I rx rv h
 obtain⟨l,xs,y,rfl,rfl,hH,hz,q⟩:=h
 cases rx
 obtain⟨u,rfl,ru⟩:=rv.one
 obtain⟨z,its,n,r,hl,e⟩:=I.lstM hH
 refine call_meets F.slot_list_append ⟨_,e,rfl⟩ F.entry_list_append (F.args_list_append_2 _ _) (PySem.list_append l its.toArray n u (by rw[List.size_toArray]; omega)) ⟨e,?_⟩
 refine⟨.non,_,I.lset (its':=its++[u]) hH e (by simp) (r.append (.cons ru .nil)) ?_,rfl,q⟩
 rw[List.length_append,List.length_singleton]
 omega
def rExtend:V->List V->Hp->VK->Prop:=fun x vs H Q=>∃ l b xs zs,x=.ref l/\vs=[.ref b]/\H l=some (.lst xs)/\H b=some (.lst zs)/\xs.length+zs.length<=sizeLine/\Q .non (upd H l (.lst (xs++zs)))
theorem zEq:MtM X "list.extend" rExtend:=by
 intro pins s σ H x vs v us Q I rx rv h
 obtain⟨l,b,xs,zs,rfl,rfl,hH,hB,hz,q⟩:=h
 cases rx
 obtain⟨u,rfl,ru⟩:=rv.one
 cases ru
 obtain⟨z,its,n,r,hl,e⟩:=I.lstM hH
 obtain⟨z2,its2,n2,r2,hl2,e2⟩:=I.lstM hB
 have hsz:its.toArray.size+its2.toArray.size<=sizeLine:=by rw[List.size_toArray,List.size_toArray]; omega
 have hlong:¬ (!its.toArray.isEmpty && Builtin.List.listTooLong (its.toArray.size+its2.toArray.size))=true:=by
  rw[notLongL hsz,Bool.and_false]
  exact Bool.false_ne_true
 refine call_meets F.slot_list_extend ⟨_,e,rfl⟩ F.entry_list_extend (F.args_list_extend_2 _ _)
  (AutoSeq1.list_extend_list_list_0 l its.toArray n b its2.toArray n2 hlong (by rw[List.size_toArray]; omega) (by omega)) ⟨e,e2,?_⟩
 refine⟨.non,_,I.lset (its':=its++its2) hH e (by simp) (r.append r2) ?_,rfl,q⟩
 rw[List.length_append]
 omega
def rPop:V->List V->Hp->VK->Prop:=fun x vs H Q=>∃ l xs y,x=.ref l/\vs=[]/\H l=some (.lst xs)/\xs[xs.length - 1]?=some y/\Q y (upd H l (.lst xs.dropLast))
theorem zGM:MtM X "list.pop" rPop:=by
 intro pins s σ H x vs v us Q I rx rv h
 obtain⟨l,xs,y,rfl,rfl,hH,hy,q⟩:=h
 cases rx
 have hus:=rv.zero
 subst hus
 obtain⟨z,its,n,r,hl,e⟩:=I.lstM hH
 obtain⟨u,hu,ru⟩:=r.get hy
 have hy':its.toArray[its.toArray.size - 1]?=some u:=by
  show its.toArray[its.length - 1]?=some u
  rw[← Array.getElem?_toList,← hl]
  exact hu
 refine call_meets F.slot_list_pop ⟨_,e,rfl⟩ F.entry_list_pop (F.args_list_pop_1 _) (MeetsSeq.list_pop_last l its.toArray n u hy' (by rw[List.size_toArray]; omega)) ⟨e,?_⟩
 refine⟨y,_,I.lset (its':=its.dropLast) hH e ?_ r.dropLast ?_,ru,q⟩
 ·show its.toArray.eraseIdxIfInBounds (its.toArray.size - 1)=its.dropLast.toArray
  rw[List.size_toArray,List.eraseIdxIfInBounds_toArray,zIh]
 ·rw[List.length_dropLast]
  omega
def rPopAt:V->List V->Hp->VK->Prop:=fun x vs H Q=>∃ l xs i k y,x=.ref l/\vs=[.int i]/\H l=some (.lst xs)/\-(2 ^ 63)<=i/\i < 2 ^ 63/\seqIndex? i xs.length=some k/\xs[k]?=some y/\Q y (upd H l (.lst (xs.eraseIdx k)))
theorem zKg:MtM X "list.pop" rPopAt:=by
 intro pins s σ H x vs v us Q I rx rv h
 obtain⟨l,xs,i,k,y,rfl,rfl,hH,h1,h2,hk,hy,q⟩:=h
 cases rx
 obtain⟨u,rfl,ru⟩:=rv.one
 obtain⟨t,rfl⟩:=ru
 obtain⟨z,its,n,r,hl,e⟩:=I.lstM hH
 obtain⟨w,hw,rw'⟩:=r.get hy
 refine call_meets F.slot_list_pop ⟨_,e,rfl⟩ F.entry_list_pop (F.args_list_pop_2 _ _)
  (MeetsSeq.list_pop_at l its.toArray n i t k w (fitsIndex_both h1 h2) (by rw[List.size_toArray,← hl]; exact hk) (by rw[← Array.getElem?_toList]; exact hw) (by rw[List.size_toArray]; omega)) ⟨e,?_⟩
 refine⟨y,_,I.lset (its':=its.eraseIdx k) hH e ?_ (r.eraseIdx k) ?_,rw',q⟩
 ·show its.toArray.eraseIdxIfInBounds k=(its.eraseIdx k).toArray
  rw[List.eraseIdxIfInBounds_toArray]
 ·have:=zE1 xs k
  omega
def rCat:R2:=fun x y H Q=>∃ l b xs zs,x=.ref l/\y=.ref b/\H l=some (.lst xs)/\H b=some (.lst zs)/\xs.length+zs.length<=sizeLine/\∀ p,H p=none->Q (.ref p) (upd H p (.lst (xs++zs)))
theorem zOC:OpR X (binaryOp .Add) rCat:=by
 intro pins s σ H x y v u Q I rx ry h
 obtain⟨l,b,xs,zs,rfl,rfl,hH,hB,hz,q⟩:=h
 cases rx
 cases ry
 obtain⟨z,its,n,r,hl,e⟩:=I.lstM hH
 obtain⟨z2,its2,n2,r2,hl2,e2⟩:=I.lstM hB
 refine PySem.P.add_list e e2 ?_ (by rw[List.size_toArray,List.size_toArray]; omega)
 have ea:its.toArray++its2.toArray=(its++its2).toArray:=by simp
 rw[ea]
 exact⟨.ref _,_,I.lnew (t':=s.toks) (r.append r2) (by rw[List.length_append]; omega),rfl,q _ I.fresh⟩
def rRep:R2:=fun x y H Q=>∃ l k xs,x=.ref l/\y=.int k/\H l=some (.lst xs)/\-(2 ^ 63)<=k/\k < 2 ^ 63/\xs.length * k.toNat<=sizeLine /\
 ∀ p,H p=none->Q (.ref p) (upd H p (.lst (List.replicate k.toNat xs).flatten))
theorem zL1{α:Type}(xs:List α)(k:Nat):(List.replicate k xs).flatten.length=k * xs.length:=by
 induction k with
 | zero=>simp
 | succ k ih=>rw[List.replicate_succ,List.flatten_cons,List.length_append,ih,Nat.succ_mul,Nat.add_comm]
theorem zOa:OpR X (binaryOp .Mult) rRep:=by
 intro pins s σ H x y v u Q I rx ry h
 obtain⟨l,k,xs,rfl,rfl,hH,h1,h2,hz,q⟩:=h
 cases rx
 obtain⟨t,rfl⟩:=ry
 obtain⟨z,its,n,r,hl,e⟩:=I.lstM hH
 have hlen:its.toArray.size * k.toNat<=sizeLine:=by rw[List.size_toArray,← hl]; exact hz
 have hcap:¬ its.toArray.size * k.toNat > (2 ^ 63 - 1) / 8:=by
  have:(sizeLine:Nat)<=(2 ^ 63 - 1) / 8:=by decide
  omega
 have hfit:¬ (!Builtin.List.listFitsIndex k)=true:=by
  rw[fitsIndex_both h1 h2]
  exact Bool.false_ne_true
 have hlong:¬ Builtin.List.listTooLong (its.toArray.size * k.toNat)=true:=by
  rw[notLongL hlen]
  exact Bool.false_ne_true
 have hnew:List.foldl (fun x1 x2=>x1++x2) #[] (List.replicate (if its.toArray.isEmpty=true then 0 else k.toNat) its.toArray)=(List.replicate k.toNat its).flatten.toArray:=by
  have f0:∀ m:Nat,List.foldl (fun x1 x2=>x1++x2) #[] (List.replicate m its.toArray)=(List.replicate m its).flatten.toArray:=fun m=>by
   have:=zEv its m []
   rw[List.nil_append]at this
   exact this
  rw[f0]
  cases its with
  | nil=>simp
  | cons a r'=>rw[if_neg (by simp)]
 refine wpAny_binaryOp_repeat_ref (T:="list") (U:="int") (by decide) ⟨_,e,rfl⟩ (fun s'=>typeIs_int s' k t) noFill_list_mul F.fills_int_mul F.slot_int_rmul repeat_list F.slot_int_index.lookup
  (call_meets F.slot_int_rmul (typeIs_int s k t) F.entry_int_rmul (F.args_int_rmul_2 _ _) (int___rmul___int_list k t l its.toArray n)
   ⟨e,rfl,⟨_,e,rfl⟩,call_meets F.slot_list_mul ⟨_,e,rfl⟩ F.entry_list_mul (F.args_list_mul_2 _ _) (AutoListH.list___mul___list_int_3 l its.toArray n k t hfit hcap hlong) ⟨e,?_⟩⟩)
 rw[hnew]
 exact⟨.ref _,_,I.lnew (t':=s.toks) (r.rep k.toNat) (by rw[zL1,Nat.mul_comm]; exact hz),rfl,q _ I.fresh⟩
end
end L2
namespace Att
open PySem PySem.W PySem.Calls PyProof.Rows
theorem zDo{P:Params}{h:Heap}:∀ (ns:List Int) (vs:List Value),WellAll P h vs (ns.map WData.int)->IntsAre vs ns:=by
 intro ns
 induction ns with
 | nil =>
  intro vs w
  rw[List.map_nil]at w
  cases w
  exact .nil
 | cons n ns ih =>
  intro vs w
  rw[List.map_cons]at w
  cases w with
  | cons a b =>
   cases a
   exact .cons _ _ (ih _ b)
theorem zJc{l:OpenLaw}{n:Nat}(hn:l.most=some n){P:Params}{h:Heap}{args:List WData}{vals:List Value}
  (hpre:l.row.toRowW.claim.pre args=true) (hwl:WellAll P h vals args) :
  ∃ a vs ns,vals=[Value.ref a]/\args=[WData.list (ns.map WData.int)]/\h.get? a=some { cls:=.type "list",data:=.seq vs.toArray }/\IntsAre vs ns/\ns.length<=n:=by
 have hsh:WShape.hasAll [] args [.list .int]=true:=(pre_splitW hpre).1
 have hc:l.pre.holds [] { args:=args }=true:=(pre_splitW hpre).2
 obtain⟨d,r,rfl,h1,h2⟩:=hasAllW_cons hsh
 obtain rfl:=hasAllW_nil h2
 obtain⟨xs,rfl,h3⟩:=hasW_list h1
 obtain⟨ns,rfl⟩:=items_int h3
 have hlen:ns.length<=n:=by
  unfold OpenLaw.pre at hc
  have h4:(WTm.not (.lt (.lit (.int (n:Int))) (.len (.arg 0)))).holds [] { args:=[.list (ns.map .int)] }=true:=by
   have h4:=(holds_andW hc).1
   rw[hn]at h4
   exact h4
  have h5:=condW_of h4 (w_not (w_lt w_lit (w_len_list (w_arg rfl))))
  rw[List.length_map]at h5
  refine Nat.le_of_not_lt fun q=>?_
  have q':(n:Int) < ((ns.length:Nat):Int):=by omega
  first
   | (rw[decide_eq_true q']at h5; exact absurd h5 (by decide))
   | (simp at h5; omega)
 cases hwl with
 | cons w1 w2 =>
  cases w2
  cases w1 with
  | list ho hall=>exact⟨_,_,ns,rfl,rfl,ho,zDo ns _ hall,hlen⟩
theorem zIz(l:OpenLaw)(args:List WData):l.row.toRowW.claim.post args (.bool true) args=true :=
 postW_of (r:=l.row.toRowW) (X:=(true == true))
  (show WShape.has [] (.bool true) .bool=true by first | rfl | decide | simp[WShape.has,WShape.arms,WShape.armsAll])
  (show (WTm.eq .res (.lit (.bool true))).value [] { args:=args,res:=some (.bool true),after:=args }=some (.bool (true == true)) from w_eq_bool (w_res rfl) w_lit) rfl
theorem attach_call{l:OpenLaw}{n:Nat}{q:Program}{loose:List Str}{XP:(Str->Option Value)->Heap->Prop}{YP:World->Heap->Prop}{d:DefRec}
  (hn:l.most=some n) (hdf:d.params.defaults=[])
  (call:∀ (w:World) (s₀ s₁:Shared) (mg mb:Str->Option Value) (fa:Addr) (o:Obj) (pm cd doc:Value) (a:Addr) (vs:List Value) (ns:List Int),
   Ground q loose [] XP w s₀ mg mb s₁.heap->YP w s₁.heap ->
   s₁.heap.get? fa=some o->o.data=.func (docDef d.name d.params d.body d.scope pm cd doc)->s₁.heap.CodeRec cd d.name->mg d.name=some (.ref fa) ->
   s₁.heap.get? a=some { cls:=.type "list",data:=.seq vs.toArray }->IntsAre vs ns->ns.length<=n->s₁.gens=#[] ->
   codeAny (model l.prog w) callerA (.call (.ref fa) ⟨[.ref a],[]⟩) (fun r s'=>r=.ok (.ret (.bool true))/\OldK s₁.heap s'.heap/\s'.os=s₁.os/\AllBare s'.gens) s₁) :
  WalkO q loose XP YP l.row.toRowW d [] (fun f vs=>PySem.call f vs):=by
 intro w s₀ s₁ mg mb G Y fa o pm cd doc dV kV ho hd hcd hD hmg hg args vals as hpre hlay hrd hwl hlo
 obtain rfl:dV=.none:=Dflts.none hD hdf
 obtain rfl:kV=.none:=Dflts.noKw hD
 obtain⟨a,vs,ns,rfl,rfl,hobj,hints,hlen⟩:=zJc hn hpre hwl
 refine enter_call (codeAny_mono (call w s₀ s₁ mg mb fa o pm cd doc a vs ns G Y ho (fd_plain hd) hcd hmg hobj hints hlen hg) fun r s' hq=>?_)
 obtain⟨rfl,h2,h3,h4⟩:=hq
 exact⟨.inl ⟨.bool true,.bool true,[],rfl,fun _=>rfl,.bool true,zIz l _,fun _=>⟨List.Pairwise.nil,fun _ hm=>(nomatch hm)⟩⟩,h2,h3,h4⟩
end Att
namespace L2
open PySem PySem.Spec PyProof.Rows
theorem zEo:∀ {vs:List Value} {ns:List Int},IntsAre vs ns->Vals (ns.map V.int) vs
 | _,_,.nil=>.nil
 | _,_,.cons n t h=>.cons ⟨t,rfl⟩ (zEo h)
def Only(H:Hp):Prop:=∀ b,H b=none\/∃ o xs,H b=some (.frz o (.lst xs))
theorem zLA{P:Program}{w:World}{K:PySem.W.Frag}{mg mb:Str->Option Value}{CX:CXT}{k:Nat}{fa a:Addr}{fd:FuncData}{x:Str}{sp:Sp}{s₁:Shared}{vs:List Value}{ns:List Int}
  (KX:K.In s₁.heap) (hns:s₁.heap.Ns mainGlobals mg) (hb:s₁.heap.Ns builtinsNs mb) (hbb:∀ x:Str,x≠"__name__"->mb x=bootBuiltins x) (hlim:s₁.heap.NoLimit) (hg:s₁.gens=#[])
  (ha:s₁.heap.get? a=some { cls:=.type "list",data:=.seq vs.toArray }) (hi:IntsAre vs ns) (hl:ns.length<=sizeLine) (hr:Room k callerA)
  (F:∀ base:Heap,K.In base->base.Ns mainGlobals mg->FnOk P w K mg base CX k fa fd [x] sp) (hbind:∀ (s:Shared) (u:Value),BindsTo s fd ⟨[u],[]⟩ [(x,u)])
  (hsp:∀ H:Hp,Only H->SqL K H a (ns.map V.int)->sp [.ref a] H (fun v _=>v=.bl true) fun _ _ _=>False)
  (hCX:∀ H e s',CX [] H s₁ (fun _ _ _=>False) e s'->False) :
  codeAny (model P w) callerA (.call (.ref fa) ⟨[.ref a],[]⟩) (fun r s'=>r=.ok (.ret (.bool true))/\OldK s₁.heap s'.heap/\s'.os=s₁.os/\AllBare s'.gens) s₁:=by
 have rv:=zEo hi
 have lenV:=hi.length
 have core:∀ H:Hp,Only H->SqL K H a (ns.map V.int)->HOk P w H s₁.heap->(∀ b,H b≠none->b=a)->(H a≠none->K.lookup a=none) ->
   codeAny (model P w) callerA (.call (.ref fa) ⟨[.ref a],[]⟩) (fun r s'=>r=.ok (.ret (.bool true))/\OldK s₁.heap s'.heap/\s'.os=s₁.os/\AllBare s'.gens) s₁:=by
  intro H hO hS hok hA hK
  have base_of:∀ {b:Addr} {o:Obj},s₁.heap.get? b=some o->H b=none->(hidT s₁.heap H).get? b=some o:=fun e n=>zKs e n
  have noA:∀ {b:Addr} {o:Obj} {es:Array DictEntry} {ep:Nat},s₁.heap.get? b=some o->o.data=.dict es ep->H b=none:=fun {b o es ep} e d=>by
   cases q:H b with
   | none=>rfl
   | some u =>
    have e':b=a:=hA b (by rw[q]; simp)
    subst e'
    rw[ha]at e; cases e
    have d':Data.seq vs.toArray _=Data.dict es ep:=d
    cases d'
  have nsK:∀ {b:Addr} {m:Str->Option Value},s₁.heap.Ns b m->(hidT s₁.heap H).Ns b m:=fun {b m} ⟨o,es,ep,e,d,r⟩=>⟨o,es,ep,base_of e (noA e d),d,r⟩
  have hKb:K.In (hidT s₁.heap H):=fun b o e=>base_of (KX b o e) (by
   cases q:H b with
   | none=>rfl
   | some u =>
    have e':b=a:=hA b (by rw[q]; simp)
    subst e'
    rw[hK (by rw[q]; simp)]at e; cases e)
  have hM:Mod K mg (hidT s₁.heap H):=⟨hKb,nsK hns,⟨mb,nsK hb,hbb⟩,let ⟨mc,h1,h2⟩:=hlim; ⟨mc,nsK h1,h2⟩⟩
  have e0:Env0 P w K mg (hidT s₁.heap H) callerA [] s₁ H:=⟨rfl,hM,fun b o e=>zMh e,Nat.le_of_eq (zJN _ _),trivial,fun b hb=>absurd (show b∈([]:List Addr) from hb) (by simp),hok,.of_eq hg⟩
  refine codeAny_mono ((F _ hKb (nsK hns)).run callerA [] s₁ H ⟨[.ref a],[]⟩ [.ref a] [.ref a] _ _ hr e0 (hbind s₁ (.ref a)) (.cons rfl .nil) (hsp H hO hS)) fun r s' h=>?_
  cases r with
  | error e=>exact (hCX H e s' h).elim
  | ok fl =>
   cases fl with
   | next=>exact False.elim h
   | brk=>exact False.elim h
   | cont=>exact False.elim h
   | ret u =>
    obtain⟨v,H',os,bare,un,hok',r',q⟩:=h
    have q':v=.bl true:=q
    subst q'
    obtain rfl:u=Value.bool true:=r'
    refine⟨rfl,OldK.of_keep fun b o e=>?_,os,bare⟩
    cases q:H b with
    | none=>exact un.keep b o e q (by intro z; exact absurd (show b∈([]:List Addr) from z) (by simp)) (by simp)
    | some u =>
     rcases hO b with z | ⟨ob,xs,z⟩
     ·rw[q]at z; cases z
     ·have z2:=un.frzs b ob _ z
      obtain⟨e1,_⟩:=hok b _ z
      obtain⟨e2,_⟩:=hok' b _ z2
      rw[e]at e1; cases e1
      exact e2
 cases hk:K.lookup a with
 | some o =>
  have e:=KX a o hk
  rw[ha]at e
  cases e
  refine core (fun _=>none) (fun _=>.inl rfl) (.inr ⟨_,vs.toArray,_,hk,rfl,rfl,rfl,by rw[List.size_toArray,lenV]; exact hl,by simpa using rv⟩) (fun b u z=>by have z':(none:Option HO)=some u:=z; cases z') (fun b z=>absurd rfl z) fun z=>absurd rfl z
 | none =>
  refine core (fun b=>if b=a then some (.frz { cls:=.type "list",data:=.seq vs.toArray } (.lst (ns.map V.int))) else none) (fun b=>?_) (.inl (.inr ⟨{ cls:=.type "list",data:=.seq vs.toArray },if_pos rfl⟩)) (fun b u z=>?_) (fun b z=>?_) fun _=>hk
  ·by_cases hb:b=a
   ·exact .inr ⟨_,_,if_pos hb⟩
   ·exact .inl (if_neg hb)
  ·by_cases hb:b=a
   ·have z':=(if_pos hb).symm.trans z
    cases z'
    subst hb
    exact⟨ha,by rw[List.length_map]; exact hl,vs,_,rv,ha⟩
   ·have z':=(if_neg hb).symm.trans z
    cases z'
  ·by_cases hb:b=a
   ·exact hb
   ·exact absurd (if_neg hb) z
theorem walk_of{l:PySem.W.OpenLaw}{n k:Nat}{q:Program}{loose:List Str}{XP:(Str->Option Value)->Heap->Prop}{YP:World->Heap->Prop}{d:DefRec}{K:Params->PySem.W.Frag}{CX:World->CXT}{sp:World->Sp}{x:Str}
  (hn:l.most=some n) (hn2:n<=sizeLine) (hdf:d.params.defaults=[]) (hr:Room k callerA)
  (hY:∀ (w:World) (h:Heap),YP w h->(K w.params).In h)
  (F:∀ (w:World) (mg:Str->Option Value) (fa:Addr) (h:Heap),(K w.params).In h->h.Ns mainGlobals mg->mg d.name=some (.ref fa) ->
   ∃ fd:FuncData,(∀ (s:Shared) (u:Value),BindsTo s fd ⟨[u],[]⟩ [(x,u)]) /\
    ∀ base:Heap,(K w.params).In base->base.Ns mainGlobals mg->FnOk l.prog w (K w.params) mg base (CX w) k fa fd [x] (sp w))
  (hsp:∀ (w:World) (H:Hp) (a:Addr) (ns:List Int),ns.length<=n->Only H->SqL (K w.params) H a (ns.map V.int)->sp w [.ref a] H (fun v _=>v=.bl true) fun _ _ _=>False)
  (hCX:∀ (w:World) (H:Hp) (s:Shared) (e:Value) (s':Shared),CX w [] H s (fun _ _ _=>False) e s'->False) :
  PySem.W.WalkO q loose XP YP l.row.toRowW d [] (fun f vs=>PySem.call f vs):=by
 refine Att.attach_call hn hdf fun w s₀ s₁ mg mb fa o pm cd doc a vs ns G Y ho hd hcd hmg hobj hints hlen hg=>?_
 have KX:=hY w _ Y
 obtain⟨fd,hb,hF⟩:=F w mg fa _ KX G.T.g hmg
 exact zLA KX G.T.g G.T.b G.T.builtins G.T.nolimit hg hobj hints (Nat.le_trans hlen hn2) hr hF hb (fun H hO hS=>hsp w H a ns hlen hO hS) fun H e s'=>hCX w H s₁ e s'
def defArgs(s:Stmt):Arguments:=match s with
 | .FunctionDef _ a _ _ _ _ _ _ _ _=>a
 | _=>{ posonlyargs:=[],args:=[],vararg:=none,kwonlyargs:=[],kw_defaults:=[],kwarg:=none,defaults:=[] }
def defBody(s:Stmt):List Stmt:=match s with
 | .FunctionDef _ _ b _ _ _ _ _ _ _=>b
 | _=>[]
def defScope(s:Stmt):Scope:=match s with
 | .FunctionDef _ _ _ _ _ _ sc _ _ _=>sc
 | _=>{ kind:=.function,names:=[],isGenerator:=false,isCoroutine:=false }
abbrev CX0:CXT:=fun _ _ _ _ _ _=>False
abbrev E0:XK:=fun _ _ _=>False
theorem pass0{X:Cx}:Passes CX0 X E0:=fun _ _ _ _ _ _ _ h=>h.elim
structure Fun(K:PySem.W.Frag)(x qual:Str)(st:Stmt)(f:Addr)(fd:FuncData):Prop where
 ex:∃ (oc:Value) (od:Option Addr) (kV doc pm:Value) (an:Option Addr) (cdv ct:Value) (osl:Array (Option Value)),
  fd=PySem.W.fnOf x qual (defArgs st) (defBody st) (defScope st) .none kV doc pm an cdv ct/\K.lookup f=some ⟨oc,od,.func fd,osl⟩/\PySem.W.codeIn K cdv qual=true
 kp:PySem.W.keepIn K (.ref f)=true
section
variable {P:Program}{w:World}{K:PySem.W.Frag}{mg:Str->Option Value}{base:Heap}
theorem Fun.ok{x qual:Str}{st:Stmt}{f:Addr}{fd:FuncData}{N ps:List Str}{k:Nat}{sp:Sp}(F:Fun K x qual st f fd)(S:FnScope N ps (defScope st))(len:∀ vs H Q E,sp vs H Q E->vs.length=ps.length)
  (hbody:∀ (cdv:Value) (A:Around) (outer:List Env) (s:Shared) (H:Hp) (vs:List V) (Q:VK) (E:XK),Room k (A.deeper (envOfC qual (defScope st) s.heap.objs.size f cdv))->sp vs H Q E ->
   ∃ t,PSs (cxOf CX0 P w K mg base N qual (defScope st) f cdv A outer s H E).nox (defBody st) t/\t { nx:=fun _ H'=>Q .non H',rt:=Q } (start N vs) H):FnOk P w K mg base CX0 (k+1) f fd ps sp:=by
 obtain⟨oc,od,kV,doc,pm,an,cdv,ct,osl,rfl,lk,hcd⟩:=F.ex
 refine zLo lk hcd S len fun A outer s H vs Q E hr hsp=>?_
 obtain⟨t,h,q⟩:=hbody cdv A outer s H vs Q E hr hsp
 exact⟨t,h.nox,q⟩
theorem Fun.binds{x qual:Str}{st:Stmt}{f:Addr}{fd:FuncData}{ps:List Str}(F:Fun K x qual st f fd)
  (h:∀ (kV doc pm:Value) (an:Option Addr) (cdv ct:Value) (us:List Value),us.length=ps.length->bindArgs (PySem.W.fnOf x qual (defArgs st) (defBody st) (defScope st) .none kV doc pm an cdv ct) ⟨us,[]⟩=pure (ps.zip us)):Binds K fd ps []:=by
 obtain⟨oc,od,kV,doc,pm,an,cdv,ct,osl,rfl,lk,hcd⟩:=F.ex
 exact .all (h kV doc pm an cdv ct)
theorem zKP{x qual:Str}{st:Stmt}{f:Addr}{oc:Value}{od an:Option Addr}{osl:Array (Option Value)}{kV doc pm cdv ct:Value}(l:K.lookup f=some ⟨oc,od,.func (PySem.W.fnOf x qual (defArgs st) (defBody st) (defScope st) .none kV doc pm an cdv ct),osl⟩)
  (c:PySem.W.codeIn K cdv qual=true) (k:PySem.W.keepIn K (.ref f)=true):Fun K x qual st f (PySem.W.fnOf x qual (defArgs st) (defBody st) (defScope st) .none kV doc pm an cdv ct):=⟨⟨oc,od,kV,doc,pm,an,cdv,ct,osl,rfl,l,c⟩,k⟩
end
def Same(H H':Hp):Prop:=∀ b o,H b=some o->H' b=some o
theorem Same.refl(H:Hp):Same H H:=fun _ _ h=>h
end L2
set_option maxHeartbeats 4000000
namespace L2
open PySem PySem.Spec PyProof.Rows
def cloOf(cells:List (Str×Addr)):List (Str×NameKind)->List (Str×Addr)->List (Str×Addr)
 | [],acc=>acc
 | (n,k)::r,acc=>if k == .free then cloOf cells r ((n,(cells.lookup n).getD 0)::acc) else cloOf cells r acc
theorem zFE{scope:Scope}{env:Env}(h:∀ x∈scope.names,x.2=.free->∃ c,env.cells.lookup x.1=some c):closureFor scope env=pure (cloOf env.cells scope.names []):=by
 have go:∀ (names:List (Str×NameKind)) (acc:List (Str×Addr)),(∀ x∈names,x.2=.free->∃ c,env.cells.lookup x.1=some c) ->
   (forIn names acc fun (x:Str×NameKind) (cs:List (Str×Addr))=>if (x.2 == NameKind.free)=true then (do let c ← cellOf env x.1; pure (ForInStep.yield ((x.1,c)::cs))) else (pure (ForInStep.yield cs):Sem _))=(pure (cloOf env.cells names acc):Sem _):=by
  intro names
  induction names with
  | nil=>intro acc _; rfl
  | cons x r ih =>
   intro acc hx
   obtain⟨n,k⟩:=x
   rw[List.forIn_cons]
   have hr:=fun acc=>ih acc fun y hy=>hx y (List.mem_cons_of_mem _ hy)
   unfold cloOf
   by_cases hk:(k == NameKind.free)=true
   ·obtain⟨c,hc⟩:=hx (n,k) List.mem_cons_self (by simpa using hk)
    have hc':env.cells.lookup n=some c:=hc
    have e:cellOf env n=pure c:=by unfold cellOf; rw[hc']
    simp only[hk,if_true,e,hc',Option.getD_some,pure_bind]
    exact hr _
   ·simp only[hk,if_false,pure_bind]
    exact hr _
 unfold closureFor
 have:=go scope.names [] h
 simp only[bind_pure]
 exact this
theorem zBc{cells:List (Str×Addr)}{x:Str}{c:Addr}:∀ (names:List (Str×NameKind)) (acc:List (Str×Addr)),(cloOf cells names acc).lookup x=some c->((x,NameKind.free)∈names/\c=(cells.lookup x).getD 0)\/acc.lookup x=some c
 | [],acc,h=>.inr h
 | (n,k)::r,acc,h=>by
  unfold cloOf at h
  by_cases hk:(k == NameKind.free)=true
  ·rw[if_pos hk]at h
   have hk':k=.free:=by simpa using hk
   subst hk'
   rcases zBc r _ h with ⟨a,b⟩ | h'
   ·exact .inl ⟨List.mem_cons_of_mem _ a,b⟩
   ·clear h
    rw[List.lookup_cons]at h'
    cases e:x == n with
    | true =>
         rw[e]at h'; have q:x=n:=by simpa using e
         subst q
         have q2:(cells.lookup x).getD 0=c:=Option.some.inj h'
         exact .inl ⟨List.mem_cons_self,q2.symm⟩
    | false=>rw[e]at h'; exact .inr h'
  ·rw[if_neg hk]at h
   rcases zBc r _ h with ⟨a,b⟩ | h
   ·exact .inl ⟨List.mem_cons_of_mem _ a,b⟩
   ·exact .inr h
theorem zCb{cells:List (Str×Addr)}{x:Str}:∀ (names:List (Str×NameKind)) (acc:List (Str×Addr)),((x,NameKind.free)∈names\/(acc.lookup x).isSome=true)->((cloOf cells names acc).lookup x).isSome=true
 | [],acc,h=>h.elim (fun z=>nomatch z) id
 | (n,k)::r,acc,h=>by
  unfold cloOf
  by_cases hk:(k == NameKind.free)=true
  ·rw[if_pos hk]
   refine zCb r _ ?_
   by_cases e:x=n
   ·subst e; exact .inr (by simp)
   ·rcases h with h | h
    ·rcases List.mem_cons.mp h with h | h
     ·cases h; exact absurd rfl e
     ·exact .inl h
    ·refine .inr ?_
     rw[List.lookup_cons]
     have:(x == n)=false:=by simpa using e
     rw[this]; exact h
  ·rw[if_neg hk]
   refine zCb r _ ?_
   rcases h with h | h
   ·rcases List.mem_cons.mp h with h | h
    ·cases h; exact absurd rfl hk
    ·exact .inl h
   ·exact .inr h
theorem zBs{x:Str}{c:Addr}:∀ (names:List (Str×NameKind)) (n:Nat) (acc:List (Str×Addr)),(cellsFrom n names acc).lookup x=some c->(n<=c/\(x,NameKind.cell)∈names)\/acc.lookup x=some c
 | [],_,acc,h=>.inr h
 | (y,k)::r,n,acc,h=>by
  unfold cellsFrom at h
  by_cases hk:(k == NameKind.cell)=true
  ·rw[if_pos hk]at h
   have hk':k=.cell:=by simpa using hk
   subst hk'
   rcases zBs r _ _ h with ⟨a,b⟩ | h'
   ·exact .inl ⟨by omega,List.mem_cons_of_mem _ b⟩
   ·clear h
    rw[List.lookup_cons]at h'
    cases e:x == y with
    | true =>
         rw[e]at h'; have q:x=y:=by simpa using e
         have q2:n=c:=Option.some.inj h'
         subst q q2; exact .inl ⟨Nat.le_refl _,List.mem_cons_self⟩
    | false=>rw[e]at h'; exact .inr h'
  ·rw[if_neg hk]at h
   rcases zBs r _ _ h with ⟨a,b⟩ | h
   ·exact .inl ⟨a,List.mem_cons_of_mem _ b⟩
   ·exact .inr h
theorem zGD{x:Str}{c:Addr}:∀ (names:List (Str×NameKind)) (n:Nat) (acc:List (Str×Addr)),(x,c)∈cellsFrom n names acc->n<=c\/(x,c)∈acc
 | [],_,acc,h=>.inr h
 | (y,k)::r,n,acc,h=>by
  unfold cellsFrom at h
  by_cases hk:(k == NameKind.cell)=true
  ·rw[if_pos hk]at h
   rcases zGD r _ _ h with a | h
   ·exact .inl (by omega)
   ·rcases List.mem_cons.mp h with h | h
    ·cases h; exact .inl (Nat.le_refl _)
    ·exact .inr h
  ·rw[if_neg hk]at h
   exact zGD r _ _ h
theorem zF0{x y:Str}{c:Addr}:∀ (names:List (Str×NameKind)) (n:Nat) (acc:List (Str×Addr)),(∀ p∈acc,p.2 < n)->n<=c->(x,c)∈cellsFrom n names acc->(y,c)∈cellsFrom n names acc->x=y
 | [],n,acc,ha,hc,h1,_=>by have q:c < n:=ha _ h1; exact absurd (Nat.lt_of_lt_of_le q hc) (Nat.lt_irrefl _)
 | (z,k)::r,n,acc,ha,hc,h1,h2=>by
  unfold cellsFrom at h1 h2
  by_cases hk:(k == NameKind.cell)=true
  ·rw[if_pos hk]at h1 h2
   have ha':∀ p∈(z,n)::acc,p.2 < n+1:=fun p hp=>by
    rcases List.mem_cons.mp hp with h | h
    ·subst h; exact Nat.lt_succ_self _
    ·exact Nat.lt_succ_of_lt (ha p h)
   by_cases hcn:n+1<=c
   ·exact zF0 r _ _ ha' hcn h1 h2
   ·have hcn':c=n:=Nat.le_antisymm (Nat.not_lt.mp hcn) hc
    subst hcn'
    have g:∀ w,(w,c)∈cellsFrom (c+1) r ((z,c)::acc)->w=z:=fun w hw=>by
     rcases zGD r _ _ hw with a | a
     ·exact absurd a (Nat.not_succ_le_self _)
     ·rcases List.mem_cons.mp a with a | a
      ·cases a; rfl
      ·have:=ha _ a; exact absurd this (Nat.lt_irrefl _)
    rw[g x h1,g y h2]
  ·rw[if_neg hk]at h1 h2
   exact zF0 r _ _ ha hc h1 h2
theorem zET{x:Str}{c:Addr}:∀ (names:List (Str×NameKind)) (h:Heap) (acc:List (Str×Addr)),(∀ p∈acc,∃ v,h.IsCell p.2 v)->(x,c)∈cellsFrom h.objs.size names acc->∃ v,(pushCells h names).IsCell c v
 | [],_,acc,ha,hm=>ha _ hm
 | (z,k)::r,h,acc,ha,hm=>by
  unfold cellsFrom at hm
  unfold pushCells
  by_cases hk:(k == NameKind.cell)=true
  ·rw[if_pos hk]at hm ⊢
   refine zET r (h.push { cls:=.type "cell",data:=.cell none }) ((z,h.objs.size)::acc) (fun p hp=>?_) (by rw[Heap.size_push]; exact hm)
   rcases List.mem_cons.mp hp with e | e
   ·subst e; exact⟨none,_,Heap.get?_push_size _ rfl,rfl⟩
   ·obtain⟨v,q⟩:=ha p e
    exact⟨v,q.keeps fun b o e=>Heap.get?_push_of_some _ e⟩
  ·rw[if_neg hk]at hm ⊢
   exact zET r h acc ha hm
theorem zGl{M:Model}{A:Around}{E:Value->Shared->Prop}{s:Shared}{scope:Scope}{globals:Addr}{cl:List (Str×Addr)}{qual:Str}{env:Env}{Q:Env->Shared->Prop}
  (hQ:Q (newEnv scope s.heap.objs.size globals (cellsFrom (s.heap.objs.size+1) scope.names cl) qual none .none (some env) builtinsNs) { s with heap:=pushCells (s.heap.push { cls:=.type "dict",data:=.dict #[] }) scope.names }) :
  wpAny M A (newFunctionEnv scope globals cl [] qual none .none (some env)) Q E s:=by
 simp only[newFunctionEnv,Option.isSome_some,if_true]
 refine wpAny_bind (wpAny_alloc ?_)
 refine wpAny_bind (wpAny_layCells _ (fun name kind cells=>by cases hkc:kind == NameKind.cell <;> simp[hkc]) _ _ _ _ ?_)
 rw[show ({ s with heap:=s.heap.push { cls:=.type "dict",data:=.dict #[] } }:Shared).heap.objs.size=s.heap.objs.size+1 from Heap.size_push ..]
 refine wpAny_bind ?_
 rw[List.forIn_nil]
 exact wpAny_pure (wpAny_pure hQ)
def compOk(N N':List Str)(ix:List (Option Nat))(outer names:List (Str×NameKind)):Bool :=
 decide (N'.length=ix.length) && ((N'.zip ix).all fun p=>match p.2 with | none=>true | some j=>decide (N[j]?=some p.1) && names.contains (p.1,NameKind.free)) &&
 (names.all fun p=>(p.2 != .free || outer.lookup p.1 == some .cell || outer.lookup p.1 == some .free) && (p.2 != .local || names.lookup p.1 == some .local) && (p.2 != .cell || names.lookup p.1 == some .cell) && (p.2 != .free || names.lookup p.1 == some .free))
def frm(ix:List (Option Nat))(σ:St):St:=ix.map fun o=>o.bind fun j=>(σ[j]?).join
def cxC(X:Cx)(N:List Str)(scope:Scope)(C:Addr)(cs:List (Str×Addr))(s:Shared)(H:Hp)(ex:List Addr):Cx where
 prog:=X.prog
 w:=X.w
 K:=X.K
 mg:=X.mg
 base:=X.base
 A:=X.A
 N:=N
 s₀:=s
 H₀:=H
 env:=compEnvC scope cs C X.env
 outer:=X.stack
 stack:=X.stack
 ex:=ex
 fn:=fun x=>scope.names.lookup x == some .cell
 calm:=X.calm
 pn:=[]
 xe:=fun _ _=>False
structure CompOk(X:Cx)(N':List Str)(ix:List (Option Nat))(scope:Scope):Prop where
 kind:scope.kind=.function
 ok:compOk X.N N' ix X.env.scope.names scope.names=true
section
variable {X:Cx}{N':List Str}{ix:List (Option Nat)}{scope:Scope}
theorem CompOk.len(S:CompOk X N' ix scope):N'.length=ix.length:=by
 have h:=S.ok; unfold compOk at h; simp only[Bool.and_eq_true,decide_eq_true_eq]at h; exact h.1.1
theorem CompOk.name(S:CompOk X N' ix scope){p:Str×NameKind}(hp:p∈scope.names) :
  (p.2=.free->X.env.scope.names.lookup p.1=some .cell\/X.env.scope.names.lookup p.1=some .free)/\(p.2=.local->scope.names.lookup p.1=some .local)/\(p.2=.cell->scope.names.lookup p.1=some .cell)/\(p.2=.free->scope.names.lookup p.1=some .free):=by
 have h:=S.ok; unfold compOk at h; simp only[Bool.and_eq_true]at h
 have q:=List.all_eq_true.mp h.2 p hp
 simp only[Bool.and_eq_true,Bool.or_eq_true,bne_iff_ne,beq_iff_eq,ne_eq]at q
 obtain⟨⟨⟨a,b⟩,c⟩,d⟩:=q
 refine⟨fun e=>?_,fun e=>?_,fun e=>?_,fun e=>?_⟩
 ·rcases a with (a | a) | a
  ·exact absurd e a
  ·exact .inl a
  ·exact .inr a
 ·exact b.resolve_left fun z=>z e
 ·exact c.resolve_left fun z=>z e
 ·exact d.resolve_left fun z=>z e
theorem CompOk.at(S:CompOk X N' ix scope){i j:Nat}{x:Str}(h1:N'[i]?=some x)(h2:ix[i]?=some (some j)):X.N[j]?=some x/\(x,NameKind.free)∈scope.names:=by
 have h:=S.ok; unfold compOk at h; simp only[Bool.and_eq_true]at h
 have hz:(x,some j)∈N'.zip ix:=by
  have:(N'.zip ix)[i]?=some (x,some j):=by rw[List.getElem?_zip_eq_some]; exact⟨h1,h2⟩
  exact List.mem_of_getElem? this
 have q:=List.all_eq_true.mp h.1.2 _ hz
 simp only[Bool.and_eq_true,decide_eq_true_eq,List.contains_iff_mem]at q
 exact q
theorem zNz{σ:St}{i:Nat}{v:V}(h:(frm ix σ)[i]?=some (some v)):∃ j,ix[i]?=some (some j)/\σ[j]?=some (some v):=by
 unfold frm at h
 rw[List.getElem?_map]at h
 cases e:ix[i]? with
 | none=>rw[e]at h; cases h
 | some o =>
  rw[e]at h
  cases o with
  | none=>cases h
  | some j =>
   have h':(σ[j]?).join=some v:=Option.some.inj h
   refine⟨j,rfl,?_⟩
   cases e2:σ[j]? with
   | none=>rw[e2]at h'; cases h'
   | some w=>rw[e2]at h'; rw[show w=some v from h']
theorem zCN{env:Env}:∀ (names:List (Str×NameKind)) (x:Str),
  (names.map fun (n,k)=>if (k == NameKind.free && env.scope.kind == .function && env.kindOf n == some .cell) then (n,NameKind.cell) else (n,k)).lookup x =
   match names.lookup x with
   | some .free=>if (env.scope.kind == .function && env.kindOf x == some .cell) then some NameKind.cell else some .free
   | o=>o
 | [],_=>rfl
 | (n,k)::r,x=>by
  have ih:=zCN (env:=env) r x
  rw[List.map_cons]
  show List.lookup x ((if (k == NameKind.free && env.scope.kind == .function && env.kindOf n == some .cell)=true then (n,NameKind.cell) else (n,k))::_)=_
  cases hx:x == n with
  | true =>
   have e:x=n:=by simpa using hx
   subst e
   simp only[List.lookup_cons,beq_self_eq_true]
   cases k <;> by_cases hc:(env.scope.kind == .function && env.kindOf x == some .cell)=true <;> simp[List.lookup_cons,hc] <;> simp_all
  | false =>
   simp only[List.lookup_cons,hx]
   rw[← ih]
   split <;> simp only[List.lookup_cons,hx]
theorem kindC{cs:List (Str×Addr)}{C:Addr}(x:Str):(compEnvC scope cs C X.env).kindOf x =
   match scope.names.lookup x with
   | some .free=>if (X.env.scope.kind == .function && X.env.kindOf x == some .cell) then some NameKind.cell else some .free
   | o=>o:=zCN scope.names x
end
theorem zKj{X:Cx}{N':List Str}{ix:List (Option Nat)}{scope:Scope}(S:CompOk X N' ix scope){pins:List (Addr×Obj)}{σ:St}{H:Hp}{s:Shared}{fp:List Addr}{D:Addr}{o:Obj}
  (I:Inv X pins σ H s) (hf:∀ b∈fp,FpOk X pins H b) (ho:∀ b∈fp,∃ o,s.heap.get? b=some o) (hc:X.calm=true) {h3:Heap} {C:Addr} (hk3:∀ b u,s.heap.get? b=some u->h3.get? b=some u) (hC:C=h3.objs.size) (hs3:s.heap.objs.size<=h3.objs.size) {h4:Heap}
  (h4e:h4=pushCells (h3.push { cls:=.type "dict",data:=.dict #[] }) scope.names) {t4:Nat} :
  Inv (cxC X N' scope C (cellsFrom (C+1) scope.names (cloOf X.env.cells scope.names [])) s H fp) [] (frm ix σ) H { s with heap:=h4,toks:=t4 }:=by
 have hsz:s.heap.objs.size<=C:=by rw[hC]; exact hs3
 have hk4:∀ b u,h3.get? b=some u->h4.get? b=some u:=fun b u e=>by rw[h4e]; exact pushCells_keeps _ _ b u (Heap.get?_push_of_some _ e)
 have hk:∀ b u,s.heap.get? b=some u->h4.get? b=some u:=fun b u e=>hk4 b u (hk3 b u e)
 have hpC:(h3.push { cls:=.type "dict",data:=.dict #[] }).objs.size=C+1:=by rw[hC,Heap.size_push]
 have clo:∀ x c,(cloOf X.env.cells scope.names []).lookup x=some c->X.env.cells.lookup x=some c:=fun x c h=>by
  rcases zBc scope.names [] h with ⟨hm,e⟩ | h
  ·obtain⟨c',hc'⟩:=I.ok.has x ((S.name hm).1 rfl)
   rw[hc']at e ⊢
   rw[e]; rfl
  ·cases h
 have cloM:∀ p∈cloOf X.env.cells scope.names [],∃ x,(x,NameKind.free)∈scope.names/\p.1=x/\X.env.cells.lookup x=some p.2:=by
  have go:∀ (names:List (Str×NameKind)) (acc:List (Str×Addr)),(∀ q∈names,q∈scope.names)->(∀ p∈acc,∃ x,(x,NameKind.free)∈scope.names/\p.1=x/\X.env.cells.lookup x=some p.2) ->
    ∀ p∈cloOf X.env.cells names acc,∃ x,(x,NameKind.free)∈scope.names/\p.1=x/\X.env.cells.lookup x=some p.2:=by
   intro names
   induction names with
   | nil=>intro acc _ ha; exact ha
   | cons q r ih =>
    intro acc hn ha
    obtain⟨n,k⟩:=q
    unfold cloOf
    by_cases hkf:(k == NameKind.free)=true
    ·rw[if_pos hkf]
     have e:k=.free:=by simpa using hkf
     subst e
     refine ih _ (fun q hq=>hn q (List.mem_cons_of_mem _ hq)) fun p hp=>?_
     rcases List.mem_cons.mp hp with e | hp
     ·subst e
      have hm:=hn (n,.free) List.mem_cons_self
      obtain⟨c',hc'⟩:=I.ok.has n ((S.name hm).1 rfl)
      refine⟨n,hm,rfl,?_⟩
      show List.lookup n X.env.cells=some ((X.env.cells.lookup n).getD 0)
      rw[hc']; rfl
     ·exact ha p hp
    ·rw[if_neg hkf]
     exact ih _ (fun q hq=>hn q (List.mem_cons_of_mem _ hq)) ha
  exact go scope.names [] (fun _ h=>h) fun p hp=>nomatch hp
 have cellLt:∀ x c,X.env.cells.lookup x=some c->c < s.heap.objs.size:=fun x c h=>by
  obtain⟨v,q⟩:=I.cell x c h; exact q.lt
 have split:∀ x c,(cellsFrom (C+1) scope.names (cloOf X.env.cells scope.names [])).lookup x=some c->(C+1<=c/\(x,NameKind.cell)∈scope.names)\/X.env.cells.lookup x=some c:=fun x c h=>by
  rcases zBs scope.names _ _ h with h | h
  ·exact .inl h
  ·exact .inr (clo x c h)
 have cells4:∀ x c,(cellsFrom (C+1) scope.names (cloOf X.env.cells scope.names [])).lookup x=some c->∃ v,h4.IsCell c v:=fun x c h=>by
  rw[h4e]
  refine zET (x:=x) scope.names _ (cloOf X.env.cells scope.names []) (fun p hp=>?_) (by rw[hpC]; exact PySem.mem_of_lookup h)
  obtain⟨y,_,_,e⟩:=cloM p hp
  obtain⟨v,q⟩:=I.cell y p.2 e
  exact⟨v,q.keeps fun b u e=>Heap.get?_push_of_some _ (hk3 b u e)⟩
 have bLt:∀ b∈fp,b < s.heap.objs.size:=fun b hb=>by obtain⟨u,e⟩:=ho b hb; exact Heap.lt_size e
 have nfree:∀ b,s.heap.objs.size<=b->H b=none:=fun b hb=>I.hok.fresh hb
 have HC:C < h4.objs.size:=by
  have:h4.get? C=some { cls:=.type "dict",data:=.dict #[] }:=by
   rw[h4e]; refine pushCells_keeps _ _ _ _ ?_
   rw[hC]; exact Heap.get?_push_size _ rfl
  exact Heap.lt_size this
 refine⟨⟨I.ok.mod,?_,I.ok.glob,I.ok.blt,hsz,fun x y c h1 h2=>?_,fun x hx=>?_,fun x c hx h=>?_,fun h=>I.ok.hd hc,I.ok.frames,.inl rfl,fun b hb=>⟨?_,fun x c h=>?_⟩,fun b u e=>I.bs b u e,Nat.le_trans I.ok.bsz I.sz,fun b u e hb=>?_,fun b hb hz=>?_,I.stack,I.stkFree⟩,
  rfl,I.bare,Un.kept hk,⟨fun _=>none,?_,fun i x v h1 h2 h3=>?_⟩,cells4,?_,fun x c h=>?_,fun p hp=>absurd (show p∈([]:List (Addr×Obj)) from hp) (by simp),I.hok.kept hk,?_⟩
 ·exact S.kind
 ·-- injective
  have m1:=PySem.mem_of_lookup h1
  have m2:=PySem.mem_of_lookup h2
  rcases split x c h1 with ⟨a,_⟩ | a
  ·exact zF0 scope.names (C+1) _ (fun p hp=>by obtain⟨y,_,_,e⟩:=cloM p hp; exact Nat.lt_succ_of_lt (Nat.lt_of_lt_of_le (cellLt y _ e) hsz)) a m1 m2
  ·rcases split y c h2 with ⟨b,_⟩ | b
   ·exact absurd (Nat.lt_of_lt_of_le (cellLt x c a) (Nat.le_trans hsz (Nat.le_of_succ_le b))) (Nat.lt_irrefl _)
   ·exact I.ok.inj x y c a b
 ·-- has
  have hx':(compEnvC scope (cellsFrom (C+1) scope.names (cloOf X.env.cells scope.names [])) C X.env).kindOf x=some .cell\/(compEnvC scope (cellsFrom (C+1) scope.names (cloOf X.env.cells scope.names [])) C X.env).kindOf x=some .free:=hx
  rw[kindC]at hx'
  have key:scope.names.lookup x=some .cell\/scope.names.lookup x=some .free:=by
   cases e:scope.names.lookup x with
   | none=>rw[e]at hx'; rcases hx' with z | z <;> cases z
   | some k =>
    rw[e]at hx'
    cases k <;> first | exact .inl rfl | exact .inr rfl | (rcases hx' with z | z <;> cases z)
  refine Option.isSome_iff_exists.mp (PySem.W.cellsFrom_some scope.names _ _ ?_)
  rcases key with k | k
  ·exact .inl k
  ·exact .inr (zCb scope.names [] (.inl (PySem.mem_of_lookup k)))
 ·-- own cells are new
  have hx':(scope.names.lookup x == some NameKind.cell)=true:=hx
  have hx'':scope.names.lookup x=some .cell:=by simpa using hx'
  rcases zBs scope.names _ _ h with ⟨a,_⟩ | a
  ·exact Nat.le_trans hsz (Nat.le_of_succ_le a)
  ·rcases zBc scope.names [] a with ⟨hm,_⟩ | z
   ·have:=(S.name hm).2.2.2 rfl
    rw[hx'']at this; cases this
   ·cases z
 ·exact Nat.ne_of_lt (Nat.lt_of_lt_of_le (bLt b hb) hsz)
 ·rcases split x c h with ⟨a,_⟩ | a
  ·exact Nat.ne_of_gt (Nat.lt_of_lt_of_le (bLt b hb) (Nat.le_trans hsz (Nat.le_of_succ_le a)))
  ·exact (hf b hb).2.2.2.2.1 x c a
 ·rcases (hf b hb).2.2.2.1 with z | z
  ·exact I.ok.noex b u e z
  ·exact absurd (Nat.lt_of_lt_of_le (Heap.lt_size e) (Nat.le_trans I.ok.bsz z)) (Nat.lt_irrefl _)
 ·rcases List.mem_cons.mp (I.stkSub b hz) with e | e
  ·exact (hf b hb).2.1 e
  ·exact (hf b hb).2.2.1 e
 ·-- the block's names
  rw[h4e]
  show (pushCells (h3.push { cls:=.type "dict",data:=.dict #[] }) scope.names).Ns C (fun _=>none)
  rw[hC]
  exact (Heap.Ns.new h3 (.type "dict")).keeps (pushCells_keeps _ _)
 ·obtain⟨j,e1,e2⟩:=zNz h2
  obtain⟨hn,hm⟩:=S.at h1 e1
  have hkx:=(S.name hm).2.2.2 rfl
  have hox:=(S.name hm).1 rfl
  obtain⟨m,hns,hl⟩:=I.loc
  have vis:Vis X.env.scope x:=by rcases hox with z | z; exact .inr (.inl z); exact .inr (.inr z)
  obtain⟨u,r,l⟩:=hl j x v hn e2 vis
  refine⟨u,r,.inr ⟨?_,?_⟩⟩
  ·show (compEnvC scope _ C X.env).kindOf x=some .cell\/(compEnvC scope _ C X.env).kindOf x=some .free
   rw[kindC,hkx]
   dsimp only
   split
   ·exact .inl rfl
   ·exact .inr rfl
  ·rcases l with ⟨k,_⟩ | ⟨_,c,hc',hcell⟩
   ·have k':X.env.scope.names.lookup x=some .local:=k
    rcases hox with z | z <;> rw[z]at k' <;> cases k'
   ·have hs:((cellsFrom (C+1) scope.names (cloOf X.env.cells scope.names [])).lookup x).isSome=true:=PySem.W.cellsFrom_some scope.names _ _ (.inr (zCb scope.names [] (.inl hm)))
    obtain⟨c',e'⟩:=Option.isSome_iff_exists.mp hs
    have:c'=c:=by
     rcases split x c' e' with ⟨_,q⟩ | q
     ·have:=(S.name q).2.2.1 rfl
      rw[show scope.names.lookup x=some .free from hkx]at this; cases this
     ·rw[hc']at q; exact (Option.some.inj q).symm
    subst this
    exact⟨c',e',hcell.keeps hk⟩
 ·exact nfree C hsz
 ·rcases split x c h with ⟨a,_⟩ | a
  ·exact nfree c (Nat.le_trans hsz (Nat.le_of_succ_le a))
  ·exact I.freeC x c a
 ·show (frm ix σ).length=N'.length
  unfold frm; rw[List.length_map,S.len]
theorem zFY{prog:Program}{w:World}{A:Around}{R:Result->Shared->Prop}{s:Shared}{elt target iter:Expr}{ifs:List Expr}{scope:Scope}{pos:Pos}{it acc:Value}{env:Env}(I:Nat->Shared->Prop)
  (turn:∀ n s,I n s->wpAny (model prog w) A (pyNext it) (fun r s₁=>match r with
   | none=>R (.ok .next) s₁
   | some v=>wpAny (model prog w) A (letOwnedTupleGo target it v) (fun _ s₁'=>wpAny (model prog w) A (assign target env v) (fun _ s₂ =>
     wpAny (model prog w) A (forIn ifs true fun c r=>if r=true then do let ok ← isTrue c env (eval c env); pure (ForInStep.yield ok) else pure (ForInStep.yield r)) (fun ok s₃ =>
      if ok=true then wpAny (model prog w) A (eval elt env) (fun x s₄ =>
       wpAny (model prog w) A (call (.builtin "list.append") [acc,x]) (fun _ s₅=>∃ m,m < n/\I m s₅) (fun _ _=>False) s₄) (fun _ _=>False) s₃
      else ∃ m,m < n/\I m s₃) (fun _ _=>False) s₂) (fun _ _=>False) s₁') (fun _ _=>False) s₁) (fun _ _=>False) s)
  (n:Nat) (h:I n s) :
  codeAny (model prog w) A (.compLoop (.ListComp elt [⟨target,iter,ifs,0⟩] scope pos) 0 it acc env) R s:=by
 refine codeAny_loop rfl I (fun n s hI=>?_) n h
 show wpAny _ A ((compTurn (.ListComp elt [⟨target,iter,ifs,0⟩] scope pos) 0 it acc env).onRaise (fun x=>do noteFrame x env; theTreesLotGoes x)) _ _ s
 refine wpAny_noted ?_
 rw[compTurn_list]
 refine wpAny_bind (wpAny_standAt (wpAny_bind (wpAny_mono (turn n s hI) (fun r s₁ h₁=>?_) fun _ _ h'=>h'.elim)))
 cases r with
 | none=>exact wpAny_pure h₁
 | some v =>
  refine wpAny_bind (wpAny_mono h₁ (fun _ s₁' h₁'=>?_) fun _ _ h'=>h'.elim)
  refine wpAny_bind (wpAny_mono h₁' (fun _ s₂ h₂=>wpAny_bind (wpAny_mono h₂ (fun ok s₃ h₃=>?_) fun _ _ h'=>h'.elim)) fun _ _ h'=>h'.elim)
  cases ok with
  | false=>exact wpAny_pure ⟨rfl,h₃⟩
  | true =>
   exact wpAny_bind (wpAny_bind (wpAny_mono h₃ (fun x s₄ h₄=>wpAny_bind (wpAny_mono h₄ (fun _ s₅ h₅=>wpAny_pure (wpAny_pure ⟨rfl,h₅⟩)) fun _ _ h'=>h'.elim)) fun _ _ h'=>h'.elim))
def PTs(X:Cx)(ifs:List Expr)(t:TT):Prop :=
 ∀ (pins:List (Addr×Obj)) (s:Shared) (σ:St) (H:Hp) (Q:Bool->Hp->Prop),Inv X pins σ H s->t σ H Q ->
  wpAny (model X.prog X.w) X.A (forIn ifs true fun c r=>if r=true then do let ok ← isTrue c X.env (eval c X.env); pure (ForInStep.yield ok) else pure (ForInStep.yield r)) (TP X pins σ Q) X.xe s
def tYes:TT:=fun _ H Q=>Q true H
theorem zMv{X:Cx}:PTs X [] tYes:=fun _ _ _ H _ I h=>wpAny_tests_nil ⟨H,I,h⟩
theorem zLt{X:Cx}{c:Expr}{t:TT}(h:PT X c t):PTs X [c] t:=fun pins s σ H Q I hw=>wpAny_tests_one (h pins s σ H Q I hw)
def CompW(J:It)(ix:List (Option Nat))(g:TG)(tc:TT)(te:TE)(σ:St)(H1:Hp)(Q:VK):Prop:=∃ W:Nat->Nat->List V->St->Hp->Prop,(∃ m,W 0 m [] (frm ix σ) H1) /\
 ∀ i m ys σ' H',W i m ys σ' H' ->
  (J.stop i H'/\ys.length<=sizeLine/\∀ D,H' D=none->Q (.ref D) (upd H' D (.lst ys))) \/
  (J.go i H'/\ys.length < sizeLine/\∃ N:List V->St->Hp->Prop,(∀ ys' σ2 H2,N ys' σ2 H2->∃ m',m' < m/\W (i+1) m' ys' σ2 H2) /\
   ∀ x H2,J.yld i H' x H2->g x σ' H2 fun σ2 H3=>tc σ2 H3 fun b H4=>if b=true then te σ2 H4 fun v H5=>N (ys++[v]) σ2 H5 else N ys σ2 H4)
def tComp(wi:TI)(ix:List (Option Nat))(g:TG)(tc:TT)(te:TE):TE:=fun σ H Q=>wi σ H fun J H1=>CompW J ix g tc te σ H1 Q
theorem HOk.adopt{P:Program}{w:World}{H:Hp}{h:Heap}{a:Addr}{o:HO}(x:HOk P w H h)(hn:H a=none)(new:ObjOk P w (upd H a o) h a o):HOk P w (upd H a o) h:=fun b u e=>by
 by_cases hb:b=a
 ·subst hb; rw[zAg]at e; cases e; exact new
 ·rw[zAK hb]at e
  exact (x b u e).stay (fun c v _ q=>q) (fun c q=>by rw[zAK (zAV q hn)]; exact q) fun c xs q=>by rw[zAK (zAV q hn)]; exact q
section
variable {X:Cx}{N':List Str}{ix:List (Option Nat)}{scope:Scope}{elt tg iter:Expr}{ifs:List Expr}{pos:Pos}{wi:TI}{g:TG}{tc:TT}{te:TE}
theorem zEm{use:Option (Value->Sem Unit)}{QQ:Value->Shared->Prop}(S:CompOk X N' ix scope)(hc:X.calm=true)(hi:PI X tg iter wi)
  (hg:∀ C cs s H ex,PG (cxC X N' scope C cs s H ex) tg g) (ht:∀ C cs s H ex,PTs (cxC X N' scope C cs s H ex) ifs tc) (he:∀ C cs s H ex,PE (cxC X N' scope C cs s H ex) elt te)
  {pins:List (Addr×Obj)} {s:Shared} {σ:St} {H:Hp} {Q:VK} (I:Inv X pins σ H s) (hw:tComp wi ix g tc te σ H Q)
  (fin:∀ (D C:Addr) (o:Obj) (H':Hp) (s':Shared),Inv X (pins++[(C,o)]) σ H' s'->(∃ m,s'.heap.Ns C m)->(X.s₀.heap.objs.size<=C)->(∀ x c,X.env.cells.lookup x=some c->c≠C)->(∀ p∈X.pn++pins,p.1≠C)->Q (.ref D) H'->compPost (model X.prog X.w) X.A X.xe use QQ (.ref D) C (.ok .next) s')
  (hs:∀ x,foldedSetIterable iter X.env x=pure x:=by intro _; rfl) :
  wpAny (model X.prog X.w) X.A (comprehension (.ListComp elt [⟨tg,iter,ifs,0⟩] scope pos) scope X.env (firstIterPos [⟨tg,iter,ifs,0⟩] pos) (newList []) false (eval iter X.env) use) QQ X.xe s:=by
 refine wpAny_comprehension_free (cl:=cloOf X.env.cells scope.names []) rfl hs (zFE fun x hx hk=>I.ok.has x.1 ((S.name hx).1 hk)) S.kind (fun x hx hl=>(S.name hx).2.1 hl) ?_
 refine thn (hi pins s σ H _ I hw) fun v s1 h1=>thn h1 fun itv s2 h2=>?_
 obtain⟨it,fp,tn,J,H2,e,I2,T,st2,f2,W,⟨m0,w0⟩,turn⟩:=h2
 subst e
 refine wpAny_newObj_type ?_
 refine zGl ?_
 generalize hH3:s2.heap.push { cls:=.type "list",dict:=none,data:=.seq ([]:List Value).toArray }=h3
 have hD3:h3.get? s2.heap.objs.size=some { cls:=.type "list",dict:=none,data:=.seq ([]:List Value).toArray }:=by rw[← hH3]; exact Heap.get?_push_size _ rfl
 have hk3:∀ b u,s2.heap.get? b=some u->h3.get? b=some u:=fun b u e=>by rw[← hH3]; exact Heap.get?_push_of_some _ e
 have hz3:h3.objs.size=s2.heap.objs.size+1:=by rw[← hH3,Heap.size_push]
 have ho2:∀ b∈fp,∃ o,s2.heap.get? b=some o:=fun b hb=>by obtain⟨o,e,_⟩:=T.obj _ _ st2 b hb; exact⟨o,e⟩
 show codeAny (model X.prog X.w) X.A (.compStart (.ListComp elt [⟨tg,iter,ifs,0⟩] scope pos) 0 (.ref it) (.ref s2.heap.objs.size) (compEnvC scope (cellsFrom (h3.objs.size+1) scope.names (cloOf X.env.cells scope.names [])) h3.objs.size X.env)) (compPost (model X.prog X.w) X.A X.xe use QQ (.ref s2.heap.objs.size) h3.objs.size) { s2 with heap:=pushCells (h3.push { cls:=.type "dict",data:=.dict #[] }) scope.names }
 generalize hD:s2.heap.objs.size=D at hD3 hz3 ⊢
 generalize hC:h3.objs.size=C at hz3 ⊢
 generalize h4e:pushCells (h3.push { cls:=.type "dict",data:=.dict #[] }) scope.names=h4
 have hk4:∀ b u,h3.get? b=some u->h4.get? b=some u:=fun b u e=>by rw[← h4e]; exact pushCells_keeps _ _ b u (Heap.get?_push_of_some _ e)
 have I4:Inv (cxC X N' scope C (cellsFrom (C+1) scope.names (cloOf X.env.cells scope.names [])) s2 H2 fp) [] (frm ix σ) H2 { s2 with heap:=h4,toks:=s2.toks } :=
  zKj (D:=D) (o:={ cls:=.none,data:=.dict #[] }) S I2 f2 ho2 hc hk3 hC.symm (by rw[hC,hz3,hD]; exact Nat.le_succ _) h4e.symm
 have hcellD:∀ x c,(cellsFrom (C+1) scope.names (cloOf X.env.cells scope.names [])).lookup x=some c->c≠D:=fun x c h z=>by
  rcases zBs scope.names _ _ h with ⟨a,_⟩ | a
  ·rw[z,hz3]at a; omega
  ·rcases zBc scope.names [] a with ⟨hm,e⟩ | a
   ·obtain⟨c',hc'⟩:=I2.ok.has x ((S.name hm).1 rfl)
    rw[hc']at e
    obtain⟨v,q⟩:=I2.cell x c' hc'
    have e':c=c':=e
    rw[← e',z,← hD]at q
    exact absurd q.lt (Nat.lt_irrefl _)
   ·cases a
 have hDC:D≠C:=by rw[hz3]; exact Nat.ne_of_lt (Nat.lt_succ_self _)
 have hDfp:D∉fp:=fun hb=>by obtain⟨o,e⟩:=ho2 D hb; exact absurd (hD ▸ Heap.lt_size e) (Nat.lt_irrefl _)
 generalize hX':cxC X N' scope C (cellsFrom (C+1) scope.names (cloOf X.env.cells scope.names [])) s2 H2 fp=X' at I4
 have hfpX:∀ {H':Hp} {oD:Obj},(∀ b∈fp,H' b=none)->∀ b∈fp,FpOk X' [(D,oD)] H' b:=fun {H' oD} hn b hb=>by
  rw[← hX']
  refine⟨hn b hb,fun z=>?_,fun z=>?_,.inl hb,fun x c h z=>?_,fun p hp=>?_⟩
  rotate_right
  ·have hp':p∈[(D,oD)]:=hp
   have e:p=(D,oD):=by simpa using hp'
   subst e
   exact fun z=>hDfp (by rw[show D=b from z]; exact hb)
  ·obtain⟨o,e⟩:=ho2 b hb
   have z':b=C:=z
   have q:=Heap.lt_size e
   rw[z',hz3,hD]at q
   exact absurd (Nat.lt_trans (Nat.lt_succ_self D) q) (Nat.lt_irrefl _)
  ·have z':b∈frs X.stack:=z
   rcases List.mem_cons.mp (I2.stkSub b z') with e | e
   ·exact (f2 b hb).2.1 e
   ·exact (f2 b hb).2.2.1 e
  ·rw[← hX']at I4
   exact (I4.ok.exf b hb).2 x c h z
 have HDnone:H2 D=none:=I2.hok.fresh (by rw[hD]; exact Nat.le_refl _)
 have key:∀ (s':Shared),s'={ s2 with heap:=h4,toks:=s2.toks } ->
   codeAny (model X.prog X.w) X.A (.compLoop (.ListComp elt [⟨tg,iter,ifs,0⟩] scope pos) 0 (.ref it) (.ref D) X'.env) (compPost (model X.prog X.w) X.A X.xe use QQ (.ref D) C) s':=by
  rintro s' rfl
  refine zFY (fun n s'=>∃ i ys σ' H' its,Inv X' [] σ' H' s'/\tn i s'.heap/\(∀ b∈fp,H' b=none)/\H' D=none/\s'.heap.PlainList D its/\Vals ys its.toList/\W i n ys σ' H') ?_ m0
   ⟨0,[],frm ix σ,H2,#[],I4,T.keep _ _ _ st2 fun b hb o e=>hk4 b o (hk3 b o e),fun b hb=>(f2 b hb).1,HDnone,⟨_,hk4 _ _ hD3⟩,.nil,w0⟩
  rintro n s3 ⟨i,ys,σ3,H3,its,I3,st3,fr3,hD3n,hpl,hv,w3⟩
  have hc':X'.calm=true:=by rw[← hX']; exact hc
  have xe':∀ e s,X'.xe e s->False:=by rw[← hX']; exact fun _ _ z=>z
  have pr:X'.prog=X.prog:=by rw[← hX']; rfl
  have pw:X'.w=X.w:=by rw[← hX']; rfl
  have pK:X'.K=X.K:=by rw[← hX']; rfl
  have pA:X'.A=X.A:=by rw[← hX']; rfl
  have p0:X'.s₀=s2:=by rw[← hX']; rfl
  have pH:X'.H₀=H2:=by rw[← hX']; rfl
  have px:X'.ex=fp:=by rw[← hX']; rfl
  have pf:X'.fs=frs X.stack:=by rw[← hX']; rfl
  have pL:X'.env.locals=C:=by rw[← hX']; rfl
  have pn0:X'.pn=[]:=by rw[← hX']; rfl
  have pcs:X'.env.cells=cellsFrom (C+1) scope.names (cloOf X.env.cells scope.names []):=by rw[← hX']; rfl
  obtain⟨nD,hoD⟩:=id hpl
  have Dfs:D∉X'.fs:=fun z=>by
   rw[pf]at z
   rcases List.mem_cons.mp (I2.stkSub D z) with e | e
   ·have q:=I2.lt; rw[← e,hD]at q; exact Nat.lt_irrefl _ q
   ·exact I2.nofs (by rw[hD]; exact Nat.le_refl _) e
  have I3':Inv X' [(D,_)] σ3 H3 s3:=I3.pins_of fun p hp=>by
   have e:p=(D,_):=List.mem_singleton.mp hp
   subst e
   exact⟨hoD,hD3n,by rw[pL]; exact hDC,Dfs,fun v z=>by cases z⟩
  have hg':PG X' tg g:=hX' ▸ hg _ _ _ _ _
  have ht':PTs X' ifs tc:=hX' ▸ ht _ _ _ _ _
  have he':PE X' elt te:=hX' ▸ he _ _ _ _ _
  have hsizes:its.toList.length=ys.length:=hv.length.symm
  rcases turn i n ys σ3 H3 w3 with ⟨stop,hlen,qn⟩ | ⟨go,hlt,N,hN,step⟩
  ·-- the end
   have T':=T.done X' pr pw pK hc' i _ s3 σ3 H3 (fun _ _=>False) I3' (hfpX fr3) st3 stop
   rw[pA]at T'
   refine thn T' fun r s4 ⟨hr,I5⟩=>?_
   subst hr
   obtain⟨gD,nDn,_,_,_⟩:=I5.pin (D,_) (List.mem_append_right _ (List.mem_singleton.mpr rfl))
   have gD':s4.heap.get? D=some { cls:=.type "list",data:=.seq its nD }:=gD
   obtain⟨m,hns,_⟩:=I5.loc
   rw[pL]at hns
   obtain⟨oC,es,ep,hoC,hdC,_⟩:=id hns
   have ub:Un (frs X.stack) fp H2 H3 s2.heap s4.heap:=by
    have q:=I5.base
    rw[px,pH,p0]at q
    rw[← pf]; exact q
   have bLt:∀ b u,s2.heap.get? b=some u->b≠D:=fun b u e z=>by have q:=Heap.lt_size e; rw[z,hD]at q; exact Nat.lt_irrefl _ q
   have u':Un (frs X.stack) fp H2 (upd H3 D (.lst ys)) s2.heap s4.heap :=
    ⟨ub.keep,ub.slot,fun b o e n hx=>by rw[zAK (bLt b o e)]; exact ub.free b o e n hx,ub.there,fun b xs e=>by rw[zAK (zAV (ub.tups b xs e) hD3n)]; exact ub.tups b xs e,
     fun b o u e=>by rw[zAK (zAV (ub.frzs b o u e) hD3n)]; exact ub.frzs b o u e,fun b ps e=>by obtain⟨more,q⟩:=ub.tbls b ps e; exact⟨more,by rw[zAK (zAV q hD3n)]; exact q⟩⟩
   have hok':HOk X.prog X.w (upd H3 D (.lst ys)) s4.heap:=by
    have q:=I5.hok
    rw[pr,pw]at q
    exact q.adopt hD3n ⟨hlen,its.toList,nD,hv,by simpa using gD'⟩
   have os':s4.os=s2.os:=by have q:=I5.os; rw[p0]at q; exact q
   have Iend:Inv X pins σ (upd H3 D (.lst ys)) s4:=I2.call' (ch:=fp) os' u' hok' I5.bare fun b hb=>⟨(f2 b hb).2.2.2.1,(f2 b hb).2.1,(f2 b hb).2.2.2.2.1,(f2 b hb).2.2.2.2.2⟩
   have hsC:s2.heap.objs.size<=C:=by rw[hz3,hD]; exact Nat.le_succ _
   have freeC:upd H3 D (.lst ys) C=none:=by rw[zAK (Ne.symm hDC)]; have q:=I5.free; rw[pL]at q; exact q
   have Iend':Inv X (pins++[(C,oC)]) σ (upd H3 D (.lst ys)) s4:=Iend.pins_of fun p hp=>by
    rcases List.mem_append.mp hp with hp | hp
    ·exact Iend.pin p (List.mem_append_right _ hp)
    ·have e:p=(C,oC):=List.mem_singleton.mp hp
     subst e
     exact⟨hoC,freeC,Nat.ne_of_gt (Nat.lt_of_lt_of_le I2.lt hsC),I2.nofs hsC,fun v z=>by rw[show oC.data=Data.cell v from z]at hdC; cases hdC⟩
   exact fin D C oC _ s4 Iend' ⟨m,hns⟩ (Nat.le_trans I2.sz hsC) (fun x c h z=>by obtain⟨v,q⟩:=I2.cell x c h; exact absurd (Nat.lt_of_lt_of_le q.lt hsC) (by rw[z]; exact Nat.lt_irrefl _))
    (fun p hp z=>by have q:=Heap.lt_size (I2.pin p hp).1; exact absurd (Nat.lt_of_lt_of_le q hsC) (by rw[z]; exact Nat.lt_irrefl _)) (qn D hD3n)
  ·have T':=T.item X' pr pw pK hc' i _ s3 σ3 H3 (fun _ _=>False) I3' (hfpX fr3) st3 go
   rw[pA]at T'
   refine thn T' fun r s4 ⟨u,hr,h4'⟩=>?_
   subst hr
   refine thn h4' fun _ s5 ⟨x,H5,I5,r5,y5,st5,fr5⟩=>?_
   have I5':=I5.pinned (hfpX fr5) (T.obj _ _ st5)
   have A1:=hg' _ s5 σ3 H5 x u _ I5' r5 (step x H5 y5)
   rw[pr,pw,pA]at A1
   refine wpAny_mono A1 (fun _ s6 ⟨σ6,H6,I6,q6⟩=>?_) xe'
   have A2:=ht' _ s6 σ6 H6 _ I6 q6
   rw[pr,pw,pA]at A2
   refine wpAny_mono A2 (fun b s7 ⟨H7,I7,q7⟩=>?_) xe'
   have pinD:∀ {σ':St} {H':Hp} {s':Shared},Inv X' ([(D,{ cls:=.type "list",data:=.seq its nD })]++pinsAt fp s5.heap) σ' H' s'->s'.heap.get? D=some { cls:=.type "list",data:=.seq its nD }/\H' D=none/\(∀ b∈fp,∀ o,s5.heap.get? b=some o->s'.heap.get? b=some o/\H' b=none):=fun {σ' H' s'} J=>by
    obtain⟨a1,a2,_⟩:=J.pin (D,_) (List.mem_append_right _ (List.mem_append_left _ (List.mem_singleton.mpr rfl)))
    refine⟨a1,a2,fun b hb o e=>?_⟩
    obtain⟨b1,b2,_⟩:=J.pin (b,o) (List.mem_append_right _ (List.mem_append_right _ (zCp hb e)))
    exact⟨b1,b2⟩
   have frOf:∀ {σ':St} {H':Hp} {s':Shared},Inv X' ([(D,{ cls:=.type "list",data:=.seq its nD })]++pinsAt fp s5.heap) σ' H' s'->∀ b∈fp,H' b=none:=fun {σ' H' s'} J b hb=>by
    obtain⟨o,e,_⟩:=T.obj _ _ st5 b hb
    exact ((pinD J).2.2 b hb o e).2
   have bare:∀ {σ':St} {H':Hp} {s':Shared},Inv X' ([(D,{ cls:=.type "list",data:=.seq its nD })]++pinsAt fp s5.heap) σ' H' s'->Inv X' [] σ' H' s':=fun {σ' H' s'} J=>J.pins_of fun p hp=>nomatch hp
   cases b with
   | false =>
    obtain⟨m',hm,w'⟩:=hN ys σ6 H7 q7
    exact⟨m',hm,i+1,ys,σ6,H7,its,bare I7,T.keep _ _ _ st5 fun b hb o e=>((pinD I7).2.2 b hb o e).1,frOf I7,(pinD I7).2.1,⟨nD,(pinD I7).1⟩,hv,w'⟩
   | true =>
    have A3:=he' _ s7 σ6 H7 _ I7 q7
    rw[pr,pw,pA]at A3
    refine wpAny_mono A3 (fun v s8 ⟨x8,H8,I8,r8,q8⟩=>?_) xe'
    refine wpAny_list_append_plain (items:=its) ⟨nD,(pinD I8).1⟩ (fun h9 hl9 hs9=>?_) (by
     have:its.size=its.toList.length:=by simp
     rw[this,hsizes]; exact Nat.le_of_lt hlt)
    obtain⟨m',hm,w'⟩:=hN (ys++[x8]) σ6 H8 q8
    have I9:Inv X' [] σ6 H8 { s8 with heap:=h9,toks:=s8.toks }:=(bare I8).turned (t':=s8.toks) (it:=D) (fun b o hb e=>(hs9.2 b hb).trans e) (pinD I8).2.1 (by rw[pL]; exact hDC) (.inr (by rw[p0,hD]; exact Nat.le_refl _)) (by rw[pcs]; exact hcellD) (fun p hp=>by rw[pn0]at hp; exact nomatch hp)
    refine⟨m',hm,i+1,ys++[x8],σ6,H8,its.push v,I9,T.keep _ _ _ st5 fun b hb o e=>(hs9.2 b fun z=>hDfp (z ▸ hb)).trans ((pinD I8).2.2 b hb o e).1,frOf I8,(pinD I8).2.1,hl9,?_,w'⟩
    rw[Array.toList_push]
    exact hv.append (.cons r8 .nil)
 rw[← hX']at key
 exact codeAny_compStart_list (key _ rfl) (T.self _ 0 _ _ _ (T.keep _ _ _ st2 fun b hb o e=>hk4 b o (hk3 b o e)) (key _ rfl))
theorem zNK(S:CompOk X N' ix scope)(hc:X.calm=true)(hi:PI X tg iter wi)
  (hg:∀ C cs s H ex,PG (cxC X N' scope C cs s H ex) tg g) (ht:∀ C cs s H ex,PTs (cxC X N' scope C cs s H ex) ifs tc) (he:∀ C cs s H ex,PE (cxC X N' scope C cs s H ex) elt te)
  (hs:∀ x,foldedSetIterable iter X.env x=pure x:=by intro _; rfl):PE X (.ListComp elt [⟨tg,iter,ifs,0⟩] scope pos) (tComp wi ix g tc te):=by
 intro pins s σ H Q I h
 rw[eval_ListComp]
 refine zEm (use:=none) (QQ:=EP X pins σ Q) S hc hi hg ht he I h (fun D C o H' s' I' hns h1 h2 h3 q=>?_) hs
 obtain⟨m,hns⟩:=hns
 refine⟨m,hns,fun h' hs'=>⟨.ref D,H',?_,rfl,q⟩⟩
 obtain⟨a1,a2,a3,a4,_⟩:=I'.pin (C,o) (List.mem_append_right _ (List.mem_append_right _ (List.mem_singleton.mpr rfl)))
 exact I'.unpinned.turned (t':=s'.toks) (it:=C) (fun b u hb e=>(hs'.2 b hb).trans e) a2 a3 (.inr h1) h2 h3
theorem zLy{i:Nat}{x:Str}{pos' spos:Pos}(hN:X.N.Nodup)(hi':X.N[i]?=some x)(hx:Loc X.env.scope x)(S:CompOk X N' ix scope)(hc:X.calm=true)(hi:PI X tg iter wi)
  (hg:∀ C cs s H ex,PG (cxC X N' scope C cs s H ex) tg g) (ht:∀ C cs s H ex,PTs (cxC X N' scope C cs s H ex) ifs tc) (he:∀ C cs s H ex,PE (cxC X N' scope C cs s H ex) elt te)
  (hsw:swapsWith (.ListComp elt [⟨tg,iter,ifs,0⟩] scope pos) (some (.Name x pos')) spos.line X.env=pure true:=by rfl)
  (hf:X.fn x=true\/X.env.scope.names.lookup x=some .local:=by first | exact .inl rfl | exact .inr rfl | assumption)
  (hs:∀ x,foldedSetIterable iter X.env x=pure x:=by intro _; rfl):PS X (.Assign [.Name x pos'] (.ListComp elt [⟨tg,iter,ifs,0⟩] scope pos) spos) (tAsg (tComp wi ix g tc te) (gName i)):=by
 intro pins s σ H D I h
 rw[exec_Assign_Name_used _ _ _ _ hsw]
 refine wpAny_bind (wpAny_standAt (wpAny_bind ?_))
 show wpAny _ X.A (do let _ ← comprehension (.ListComp elt [⟨tg,iter,ifs,0⟩] scope pos) scope X.env _ (newList []) false (eval iter X.env) (some (assign (.Name x pos') X.env))) _ _ s
 refine wpAny_bind (thn (zEm (use:=some (assign (.Name x pos') X.env)) (QQ:=fun _ s'=>SP X pins D .next s') S hc hi hg ht he I h (fun E C o H' s' I' hns h1 h2 h3 q=>?_) hs) fun _ s' q=>wpAny_pure (wpAny_pure q))
 obtain⟨m,hns⟩:=hns
 have P:=zG1 (pos:=pos') hN hi' hx hf
 refine thn (P _ s' σ H' (.ref E) (.ref E) _ I' rfl q) fun _ s2 ⟨σ2,H2,I2,q2⟩=>?_
 obtain⟨a1,_⟩:=I'.pin (C,o) (List.mem_append_right _ (List.mem_append_right _ (List.mem_singleton.mpr rfl)))
 obtain⟨b1,b2,b3,b4,_⟩:=I2.pin (C,o) (List.mem_append_right _ (List.mem_append_right _ (List.mem_singleton.mpr rfl)))
 refine⟨m,?_,fun h' hs'=>⟨σ2,H2,I2.unpinned.turned (t':=s2.toks) (it:=C) (fun b u hb e=>(hs'.2 b hb).trans e) b2 b3 (.inr h1) h2 h3,q2⟩⟩
 obtain⟨oC,es,ep,hoC,r⟩:=hns
 have e:oC=o:=by
  have q:=hoC.symm.trans a1
  exact Option.some.inj q
 subst e
 exact⟨oC,es,ep,b1,r⟩
end
structure Drawer(prog:Program)(w:World)(it l:Addr)(xs:Array Value)(St:Nat->Heap->Prop):Prop where
 keep:∀ k h h',St k h->(∀ o,h.get? it=some o->h'.get? it=some o)->(∀ o,h.get? l=some o->h'.get? l=some o)->St k h'
 live:∀ k h,St k h->∃ o,h.get? it=some o/\∀ v,o.data≠.cell v
 item:∀ (A:Around) (k:Nat) (s:Shared) (x:Value) (Q:Value->Shared->Prop) (E:Value->Shared->Prop),St k s.heap->xs[k]?=some x ->
  (∀ h',St (k+1) h'->Heap.SameBut it s.heap h'->Q x { s with heap:=h' })->wpAny (model prog w) A (Builtin.SmallTypes.nextOf (.ref it)) Q E s
 fini:∀ (A:Around) (k:Nat) (s:Shared) (Q:Value->Shared->Prop) (E:Value->Shared->Prop),A.handled=none->St k s.heap->xs[k]?=none ->
  (∀ h' e,Heap.ExtBut it s.heap h'->(∃ o,h'.get? e=some o/\o.cls=.type "StopIteration")->E (.ref e) { s with heap:=h' })->wpAny (model prog w) A (Builtin.SmallTypes.nextOf (.ref it)) Q E s
section
variable {prog:Program}{w:World}{A:Around}{E:Value->Shared->Prop}{s:Shared}
theorem zGm(it l:Addr)(xs:Array Value)(hne:l≠it):Drawer prog w it l xs (fun k h=>h.IsListIter it l k/\h.IsList l xs) where
 keep:=fun k h h' st k1 k2=>⟨st.1.at k1,st.2.at k2⟩
 live:=fun k h st=>by obtain⟨⟨o,e,_,d⟩,_⟩:=st; exact⟨o,e,fun v z=>by rw[d]at z; cases z⟩
 item:=fun A k s x Q E st hx hQ=>wpAny_nextOf_list_item st.1 st.2 hx fun h' st' sb=>hQ h' ⟨st',st.2.extBut sb.extBut hne⟩ sb
 fini:=fun A k s Q E hh st hx hE=>wpAny_nextOf_list_end hh st.1 st.2 hx hE
theorem zIm{it t:Addr}{i:Nat}{items:Array Value}{x:Value}{Q:Value->Shared->Prop}(hit:s.heap.IsTupleIter it t i)(ht:s.heap.IsTuple t items)(hx:items[i]?=some x)
  (hQ:∀ h',h'.IsTupleIter it t (i+1)->Heap.SameBut it s.heap h'->Q x { s with heap:=h' }):wpAny (model prog w) A (Builtin.SmallTypes.nextOf (.ref it)) Q E s:=by
 obtain⟨oi,hoi,hci,hdi⟩:=id hit; obtain⟨ot,hot,_,nt,hdt⟩:=ht
 unfold Builtin.SmallTypes.nextOf; refine wpAny_bind (wpAny_callSpecial?_slot (name:=Str.ofString "__next__") hit.typeIs F.slot_tuple_iterator_next (wpAny_call_entry F.slot_tuple_iterator_next hit.typeIs F.entry_tuple_iterator_next ?_ (F.args_tuple_iterator_next_1 _)))
 show wpAny _ _ (field (.ref it) 0 >>= _) _ _ s; refine wpAny_bind (wpAny_field hoi hdi (x:=.ref t) rfl ?_)
 show wpAny _ _ (if (Value.ref t == Value.none)=true then _ else _) _ _ s; rw[if_neg (show ¬ ((Value.ref t == Value.none)=true) from Bool.false_ne_true)]
 show wpAny _ _ (field (.ref it) 1 >>= _) _ _ s; refine wpAny_bind (wpAny_field hoi hdi (x:=.int i 0) rfl ?_)
 show wpAny _ _ (seqItems? (.ref t) >>= _) _ _ s; refine wpAny_bind (wpAny_seqItems hot hdt ?_); simp only[Int.toNat_natCast,hx]
 refine wpAny_bind (wpAny_setField hoi hdi (by simp) (wpAny_pure ⟨x,rfl,wpAny_pure (hQ _ ?_ (Heap.SameBut.update ..))⟩))
 exact⟨_,Heap.get?_update_self _ hoi (Obj.isFreed_of_fields (Obj.data_mapFields hdi _)),(Obj.cls_mapFields ..).trans hci,by rw[Obj.data_mapFields hdi]; simp[rawInt]⟩
theorem zFA{it t:Addr}{i:Nat}{items:Array Value}{Q:Value->Shared->Prop}(hh:A.handled=none)(hit:s.heap.IsTupleIter it t i)(ht:s.heap.IsTuple t items)(hx:items[i]?=none)
  (hE:∀ h' e,Heap.ExtBut it s.heap h'->(∃ o,h'.get? e=some o/\o.cls=.type "StopIteration")->E (.ref e) { s with heap:=h' }):wpAny (model prog w) A (Builtin.SmallTypes.nextOf (.ref it)) Q E s:=by
 obtain⟨oi,hoi,hci,hdi⟩:=id hit; obtain⟨ot,hot,_,nt,hdt⟩:=ht
 unfold Builtin.SmallTypes.nextOf; refine wpAny_bind (wpAny_callSpecial?_slot (name:=Str.ofString "__next__") hit.typeIs F.slot_tuple_iterator_next (wpAny_call_entry F.slot_tuple_iterator_next hit.typeIs F.entry_tuple_iterator_next ?_ (F.args_tuple_iterator_next_1 _)))
 show wpAny _ _ (field (.ref it) 0 >>= _) _ _ s; refine wpAny_bind (wpAny_field hoi hdi (x:=.ref t) rfl ?_)
 show wpAny _ _ (if (Value.ref t == Value.none)=true then _ else _) _ _ s; rw[if_neg (show ¬ ((Value.ref t == Value.none)=true) from Bool.false_ne_true)]
 show wpAny _ _ (field (.ref it) 1 >>= _) _ _ s; refine wpAny_bind (wpAny_field hoi hdi (x:=.int i 0) rfl ?_)
 show wpAny _ _ (seqItems? (.ref t) >>= _) _ _ s; refine wpAny_bind (wpAny_seqItems hot hdt ?_); simp only[Int.toNat_natCast,hx]
 refine wpAny_bind (wpAny_rule (wpAny_bind (wpAny_setField hoi hdi (by simp) ?_))); show wpAny _ _ (newExc (.type "StopIteration") [] >>= _) _ _ _
 refine wpAny_bind ?_; simp only[newExc,newTuple]; refine wpAny_bind (wpAny_newObj_type ?_ (by size_fits)); refine wpAny_bind (m:=firstArgMember _ _) (wpAny_of_eq (a:=Value.none) (by first | rfl | (simp only[firstArgMember]; rfl)) ?_)
 refine wpAny_newObj_type ?_ (by size_fits); simp only[raiseNew]; refine wpAny_bind (wpAny_handled ?_); (first | rw[show A.in1.handled=none from hh] | rw[hh]); refine wpAny_bind (wpAny_pure (wpAny_throw ?_))
 exact hE _ _ (((Heap.SameBut.update ..).extBut.push _).push _) ⟨_,Heap.get?_push_size _ rfl,rfl⟩
theorem zA5(it l:Addr)(xs:Array Value)(hne:l≠it):Drawer prog w it l xs (fun k h=>h.IsTupleIter it l k/\h.IsTuple l xs) where
 keep:=fun k h h' st k1 k2=>⟨let ⟨o,e,r⟩:=st.1; ⟨o,k1 o e,r⟩,let ⟨o,e,r⟩:=st.2; ⟨o,k2 o e,r⟩⟩
 live:=fun k h st=>by obtain⟨⟨o,e,_,d⟩,_⟩:=st; exact⟨o,e,fun v z=>by rw[d]at z; cases z⟩
 item:=fun A k s x Q E st hx hQ=>zIm st.1 st.2 hx fun h' st' sb=>hQ h' ⟨st',st.2.extBut sb.extBut hne⟩ sb
 fini:=fun A k s Q E hh st hx hE=>zFA hh st.1 st.2 hx hE
structure ZAp(z TI TO i1 i2 l1 l2:Addr):Prop where
 a:ZipApart z TI TO i1 i2 l1 l2
 l1TI:l1≠TI
 l2TI:l2≠TI
structure ZSt(z TI TO i1 i2:Addr)(S1 S2:Nat->Heap->Prop)(k:Nat)(f0:Value)(h:Heap):Prop where
 z:IsZip h z TI TO f0
 ti:IsPair h TI (.ref i1) (.ref i2)
 to:∃ a b,IsPair h TO a b
 s1:S1 k h
 s2:S2 k h
variable {z TI TO i1 i2 l1 l2:Addr}{S1 S2:Nat->Heap->Prop}{xs ys:Array Value}{k:Nat}
theorem zEC{x y:Value}{Q:Value->Shared->Prop}(D:ZAp z TI TO i1 i2 l1 l2)(D1:Drawer prog w i1 l1 xs S1)(D2:Drawer prog w i2 l2 ys S2)(st:ZSt z TI TO i1 i2 S1 S2 k .none s.heap)(hx:xs[k]?=some x)(hy:ys[k]?=some y)
  (hQ:∀ h',ZSt z TI TO i1 i2 S1 S2 (k+1) (rawInt s.heap.objs.size) h'->IsPair h' s.heap.objs.size x y ->
   (∀ c o,c≠z->c≠TO->c≠i1->c≠i2->s.heap.get? c=some o->h'.get? c=some o)->Q (.ref s.heap.objs.size) { s with heap:=h' }) :
  wpAny (model prog w) A (Builtin.«zip.__next__» ⟨[.ref z],[]⟩) (fun fin s'=>∃ v,fin=.done (.ret v)/\Q v s') E s:=by
 obtain⟨hz,hTI,⟨a,b,hTO⟩,st1,st2⟩:=st
 obtain⟨⟨TIz,TOz,i1z,i2z,TITO,TIi1,TIi2,TOi1,TOi2,i12,l1z,l1TO,l1i1,l1i2,l2z,l2TO,l2i1,l2i2⟩,_,_⟩:=D
 show wpAny _ _ (field (.ref z) 2 >>= _) _ _ _; refine wpAny_bind (wpAny_field hz rfl (x:=.bool false) rfl ?_)
 show wpAny _ _ (field (.ref z) 3 >>= _) _ _ _; refine wpAny_bind (wpAny_field hz rfl (x:=.ref TI) rfl (wpAny_bind (wpAny_seqItems hTI rfl ?_)))
 show wpAny _ _ (Builtin.SmallTypes.ownedTupleIsFree (.ref z) >>= _) _ _ _; refine wpAny_bind ?_; unfold Builtin.SmallTypes.ownedTupleIsFree
 refine wpAny_bind (wpAny_field hz rfl (x:=.none) rfl (wpAny_pure ?_)); simp only[if_true]
 refine wpAny_bind (wpAny_rule (wpAny_bind (wpAny_field hz rfl (x:=.ref TO) rfl (wpAny_bind (wpAny_setField_rec hz (by simp) fun h1 z1 b1=>?_)))))
 have z1':IsZip h1 z TI TO .ellipsis:=z1
 refine wpAny_bind ?_; simp only[List.zipIdx_cons,List.zipIdx_nil,List.forIn_cons,List.forIn_nil]
 refine wpAny_bind (wpAny_bind (wpAny_onRaise ?_)); show wpAny _ _ (Builtin.SmallTypes.nextOf (.ref i1) >>= _) _ _ _
 refine wpAny_bind (D1.item _ k _ x _ _ (D1.keep _ _ _ st1 (fun o e=>b1.extBut _ _ i1z e) fun o e=>b1.extBut _ _ l1z e) hx fun h2 t1 b2=>wpAny_pure ?_)
 have o2:IsPair h2 TO a b:=b2.extBut _ _ TOi1 (b1.extBut _ _ TOz hTO)
 refine wpAny_bind (wpAny_seqItems o2 rfl (wpAny_bind (wpAny_updateSeq_pair o2 fun h3 o3 b3=>?_)))
 have o3':IsPair h3 TO x b:=o3
 refine wpAny_bind (wpAny_letGo (wpAny_pure (wpAny_bind (wpAny_bind (wpAny_onRaise ?_))))); show wpAny _ _ (Builtin.SmallTypes.nextOf (.ref i2) >>= _) _ _ _
 have s2':S2 k h3:=D2.keep _ _ _ st2 (fun o e=>b3.extBut _ _ TOi2.symm (b2.extBut _ _ i12.symm (b1.extBut _ _ i2z e))) fun o e=>b3.extBut _ _ l2TO (b2.extBut _ _ l2i1 (b1.extBut _ _ l2z e))
 refine wpAny_bind (D2.item _ k _ y _ _ s2' hy fun h4 t2 b4=>wpAny_pure ?_)
 have o4:IsPair h4 TO x b:=b4.extBut _ _ TOi2 o3'
 refine wpAny_bind (wpAny_seqItems o4 rfl (wpAny_bind (wpAny_updateSeq_pair o4 fun h5 o5 b5=>?_)))
 have o5':IsPair h5 TO x y:=o5
 refine wpAny_bind (wpAny_letGo (wpAny_pure (wpAny_pure (wpAny_bind (wpAny_seqItems o5' rfl (wpAny_bind (wpAny_newTuple ?_)))))))
 have hsz:h5.objs.size=s.heap.objs.size:=by rw[b5.1,b4.1,b3.1,b2.1,b1.1]
 have z5:IsZip h5 z TI TO .ellipsis:=b5.extBut _ _ TOz.symm (b4.extBut _ _ i2z.symm (b3.extBut _ _ TOz.symm (b2.extBut _ _ i1z.symm z1')))
 have k5:∀ c o,c≠z->c≠TO->c≠i1->c≠i2->s.heap.get? c=some o->h5.get? c=some o:=fun c o c1 c2 c3 c4 e=>b5.extBut _ _ c2 (b4.extBut _ _ c4 (b3.extBut _ _ c2 (b2.extBut _ _ c3 (b1.extBut _ _ c1 e))))
 have t1':S1 (k+1) h5:=D1.keep _ _ _ t1 (fun o e=>b5.extBut _ _ TOi1.symm (b4.extBut _ _ i12 (b3.extBut _ _ TOi1.symm e))) fun o e=>b5.extBut _ _ l1TO (b4.extBut _ _ l1i2 (b3.extBut _ _ l1TO e))
 have t2':S2 (k+1) h5:=D2.keep _ _ _ t2 (fun o e=>b5.extBut _ _ TOi2.symm e) fun o e=>b5.extBut _ _ l2TO e
 have hzlt:z < h5.objs.size:=Heap.lt_size z5
 show wpAny _ _ (Builtin.SmallTypes.ownedTupleHandOut (.ref z) (.ref h5.objs.size) >>= _) _ _ _; refine wpAny_bind ?_; unfold Builtin.SmallTypes.ownedTupleHandOut
 have z6:IsZip (h5.push { cls:=.type "tuple",data:=.seq #[x,y] }) z TI TO .ellipsis:=Heap.get?_push_of_some _ z5
 refine wpAny_bind (wpAny_setField_rec z6 (by simp) fun h7 z7 b7=>?_)
 have z7':IsZip h7 z TI TO (rawInt h5.objs.size):=z7
 refine wpAny_setField_rec z7' (by simp) fun h8 z8 b8=>?_
 have z8':IsZip h8 z TI TO (rawInt h5.objs.size):=z8
 have up:∀ c o,c≠z->h5.get? c=some o->h8.get? c=some o:=fun c o c1 e=>b8.extBut _ _ c1 (b7.extBut _ _ c1 (Heap.get?_push_of_some _ e))
 have p8:IsPair h8 h5.objs.size x y:=b8.extBut _ _ (Nat.ne_of_gt hzlt) (b7.extBut _ _ (Nat.ne_of_gt hzlt) (Heap.get?_push_size _ rfl))
 rw[hsz]at z8' p8
 refine wpAny_pure ⟨_,rfl,?_⟩
 show Q (.ref h5.objs.size) _
 rw[hsz]
 have uu:∀ c o,c≠z->c≠TO->c≠i1->c≠i2->s.heap.get? c=some o->h8.get? c=some o:=fun c o c1 c2 c3 c4 e=>up c o c1 (k5 c o c1 c2 c3 c4 e)
 exact hQ h8 ⟨z8',uu _ _ TIz TITO TIi1 TIi2 hTI,⟨x,y,up _ _ TOz o5'⟩,D1.keep _ _ _ t1' (fun o e=>up _ o i1z e) (fun o e=>up _ o l1z e),D2.keep _ _ _ t2' (fun o e=>up _ o i2z e) (fun o e=>up _ o l2z e)⟩ p8 uu
theorem zEt{Q:Fin->Shared->Prop}(hh:A.handled=none)(D:ZAp z TI TO i1 i2 l1 l2)(D1:Drawer prog w i1 l1 xs S1)(D2:Drawer prog w i2 l2 ys S2)(st:ZSt z TI TO i1 i2 S1 S2 k .none s.heap)(hend:xs[k]?=none\/ys[k]?=none)
  (hE:∀ h' e,(∀ c o,c≠z->c≠TO->c≠i1->c≠i2->s.heap.get? c=some o->h'.get? c=some o)->(∃ o,h'.get? e=some o/\o.cls=.type "StopIteration")->E (.ref e) { s with heap:=h' }) :
  wpAny (model prog w) A (Builtin.«zip.__next__» ⟨[.ref z],[]⟩) Q E s:=by
 obtain⟨hz,hTI,⟨a,b,hTO⟩,st1,st2⟩:=st
 obtain⟨⟨TIz,TOz,i1z,i2z,TITO,TIi1,TIi2,TOi1,TOi2,i12,l1z,l1TO,l1i1,l1i2,l2z,l2TO,l2i1,l2i2⟩,_,_⟩:=D
 show wpAny _ _ (field (.ref z) 2 >>= _) _ _ _; refine wpAny_bind (wpAny_field hz rfl (x:=.bool false) rfl ?_)
 show wpAny _ _ (field (.ref z) 3 >>= _) _ _ _; refine wpAny_bind (wpAny_field hz rfl (x:=.ref TI) rfl (wpAny_bind (wpAny_seqItems hTI rfl ?_)))
 show wpAny _ _ (Builtin.SmallTypes.ownedTupleIsFree (.ref z) >>= _) _ _ _; refine wpAny_bind ?_; unfold Builtin.SmallTypes.ownedTupleIsFree
 refine wpAny_bind (wpAny_field hz rfl (x:=.none) rfl (wpAny_pure ?_)); simp only[if_true]
 refine wpAny_bind (wpAny_rule (wpAny_bind (wpAny_field hz rfl (x:=.ref TO) rfl (wpAny_bind (wpAny_setField_rec hz (by simp) fun h1 z1 b1=>?_)))))
 have z1':IsZip h1 z TI TO .ellipsis:=z1
 refine wpAny_bind ?_; simp only[List.zipIdx_cons,List.zipIdx_nil,List.forIn_cons,List.forIn_nil]
 refine wpAny_bind (wpAny_bind (wpAny_onRaise ?_)); show wpAny _ _ (Builtin.SmallTypes.nextOf (.ref i1) >>= _) _ _ _
 have s1':S1 k h1:=D1.keep _ _ _ st1 (fun o e=>b1.extBut _ _ i1z e) fun o e=>b1.extBut _ _ l1z e
 cases hx:xs[k]? with
 | none =>
  refine wpAny_bind (D1.fini _ k _ _ _ hh s1' hx fun h2 e b2 he=>?_)
  obtain⟨oe,hoe,hce⟩:=he
  have z2:IsZip h2 z TI TO .ellipsis:=b2 _ _ i1z.symm z1'
  have ez:e≠z:=fun q=>by subst q; rw[z2]at hoe; cases hoe; simp at hce
  exact wpAny_setField_rec z2 (by simp) fun h3 _ b3=>hE h3 e (fun c o c1 _ c3 _ q=>b3.extBut _ _ c1 (b2 _ _ c3 (b1.extBut _ _ c1 q))) ⟨oe,b3.extBut _ _ ez hoe,hce⟩
 | some x =>
  have hy:ys[k]?=none:=by rcases hend with q | q; (rw[hx]at q; cases q); exact q
  refine wpAny_bind (D1.item _ k _ x _ _ s1' hx fun h2 t1 b2=>wpAny_pure ?_)
  have o2:IsPair h2 TO a b:=b2.extBut _ _ TOi1 (b1.extBut _ _ TOz hTO)
  refine wpAny_bind (wpAny_seqItems o2 rfl (wpAny_bind (wpAny_updateSeq_pair o2 fun h3 o3 b3=>?_)))
  refine wpAny_bind (wpAny_letGo (wpAny_pure (wpAny_bind (wpAny_bind (wpAny_onRaise ?_))))); show wpAny _ _ (Builtin.SmallTypes.nextOf (.ref i2) >>= _) _ _ _
  have s2':S2 k h3:=D2.keep _ _ _ st2 (fun o e=>b3.extBut _ _ TOi2.symm (b2.extBut _ _ i12.symm (b1.extBut _ _ i2z e))) fun o e=>b3.extBut _ _ l2TO (b2.extBut _ _ l2i1 (b1.extBut _ _ l2z e))
  refine wpAny_bind (D2.fini _ k _ _ _ hh s2' hy fun h4 e b4 he=>?_)
  obtain⟨oe,hoe,hce⟩:=he
  have z4:IsZip h4 z TI TO .ellipsis:=b4 _ _ i2z.symm (b3.extBut _ _ TOz.symm (b2.extBut _ _ i1z.symm z1'))
  have ez:e≠z:=fun q=>by subst q; rw[z4]at hoe; cases hoe; simp at hce
  exact wpAny_setField_rec z4 (by simp) fun h5 _ b5=>hE h5 e (fun c o c1 c2 c3 c4 q=>b5.extBut _ _ c1 (b4 _ _ c4 (b3.extBut _ _ c2 (b2.extBut _ _ c3 (b1.extBut _ _ c1 q))))) ⟨oe,b5.extBut _ _ ez hoe,hce⟩
end
def Sq(b:Bool)(K:PySem.W.Frag)(H:Hp)(a:Addr)(xs:List V):Prop:=if b then SqT K H a xs else SqL K H a xs
def SIt(b:Bool)(it l:Addr)(k:Nat)(h:Heap):Prop:=if b then h.IsTupleIter it l k else h.IsListIter it l k
def SOb(b:Bool)(l:Addr)(its:Array Value)(h:Heap):Prop:=if b then h.IsTuple l its else h.IsList l its
theorem SIt.keep{b:Bool}{it l:Addr}{k:Nat}{h h':Heap}(st:SIt b it l k h)(e:∀ o,h.get? it=some o->h'.get? it=some o):SIt b it l k h':=by
 cases b with
 | false=>exact (show h.IsListIter it l k from st).at e
 | true=>obtain⟨o,q,r⟩:=(show h.IsTupleIter it l k from st); exact⟨o,e o q,r⟩
theorem SIt.live{b:Bool}{it l:Addr}{k:Nat}{h:Heap}(st:SIt b it l k h):∃ o,h.get? it=some o/\∀ v,o.data≠.cell v:=by
 cases b with
 | false=>obtain⟨o,q,_,d⟩:=(show h.IsListIter it l k from st); exact⟨o,q,fun v z=>by rw[d]at z; cases z⟩
 | true=>obtain⟨o,q,_,d⟩:=(show h.IsTupleIter it l k from st); exact⟨o,q,fun v z=>by rw[d]at z; cases z⟩
theorem zBX{prog:Program}{w:World}(b:Bool)(it l:Addr)(xs:Array Value)(hne:l≠it):Drawer prog w it l xs (fun k h=>SIt b it l k h/\SOb b l xs h):=by
 cases b with
 | false=>exact zGm it l xs hne
 | true=>exact zA5 it l xs hne
section
variable {X:Cx}{pins:List (Addr×Obj)}{σ:St}{H:Hp}{s:Shared}
theorem Inv.sq{b:Bool}{a:Addr}{xs:List V}(I:Inv X pins σ H s)(h:Sq b X.K H a xs):∃ its:List Value,Vals xs its/\SOb b a its.toArray s.heap/\xs.length<=sizeLine:=by
 cases b with
 | false=>obtain⟨its,r,p,z⟩:=I.list h; exact⟨its,r,p.isList,z⟩
 | true=>obtain⟨its,r,p,z⟩:=I.tuple h; exact⟨its,r,p,z⟩
theorem Inv.sq_inj{b:Bool}{a:Addr}{xs ys:List V}(I:Inv X pins σ H s)(h:Sq b X.K H a xs)(h':Sq b X.K H a ys):xs=ys:=by
 cases b with
 | false=>exact I.list_inj h h'
 | true=>exact I.tuple_inj h h'
end
structure ZTn(b:Bool)(z TI TO i1 i2 a1 a2:Addr)(k:Nat)(h:Heap):Prop where
 z:IsZip h z TI TO .none
 ti:IsPair h TI (.ref i1) (.ref i2)
 to:∃ a b,IsPair h TO a b
 s1:SIt b i1 a1 k h
 s2:SIt b i2 a2 k h
section
variable {prog:Program}{w:World}{A:Around}{E:Value->Shared->Prop}{s:Shared}
abbrev zT1(h:Heap)(l1:Addr):Heap:=h.push { cls:=.type "tuple_iterator",data:=.fields #[.ref l1,.int 0 0] }
abbrev zT2(h:Heap)(l1 l2:Addr):Heap:=(zT1 h l1).push { cls:=.type "tuple_iterator",data:=.fields #[.ref l2,.int 0 0] }
abbrev zT3(h:Heap)(l1 l2:Addr):Heap:=(zT2 h l1 l2).push { cls:=.type "tuple",data:=.seq #[.ref h.objs.size,.ref (zT1 h l1).objs.size] }
abbrev zT4(h:Heap)(l1 l2:Addr):Heap:=(zT3 h l1 l2).push { cls:=.type "tuple",data:=.seq #[.none,.none] }
abbrev zT5(h:Heap)(l1 l2:Addr):Heap:=(zT4 h l1 l2).push { cls:=.type "zip",data:=.fields #[.none,.bool false,.bool false,.ref (zT2 h l1 l2).objs.size,.ref (zT3 h l1 l2).objs.size] }
theorem zHZ(l1 l2:Addr)(xs ys:Array Value) :
  Meets (Builtin.«zip.__new__» ⟨[.type "zip",.ref l1,.ref l2],[]⟩) (fun _ R s=>s.heap.IsTuple l1 xs/\s.heap.IsTuple l2 ys/\R (.ok (.ret (.ref (zT4 s.heap l1 l2).objs.size))) { s with heap:=zT5 s.heap l1 l2 }) :=
 .of_wp fun prog w A R s h=>by
  obtain⟨hp,g,d,tk,os⟩:=s; obtain⟨hl1,hl2,h⟩:=h
  have sub0:=sub_zip
  have T1:Heap.IsTuple (Shared.heap ⟨hp,g,d,tk,os⟩) l1 xs:=hl1
  have T2:Heap.IsTuple (Shared.heap ⟨hp.push { cls:=.type "tuple_iterator",data:=.fields #[.ref l1,.int 0 0] },g,d,tk,os⟩) l2 ys:=Heap.IsTuple.push hl2 _
  wp_walk using wpAny_pyIter_tuple T1,wpAny_pyIter_tuple T2
  exact⟨_,rfl,h⟩
theorem zJT{l1 l2:Addr}{xs ys:Array Value}{Q:Value->Shared->Prop}(hl1:s.heap.IsTuple l1 xs)(hl2:s.heap.IsTuple l2 ys)
  (h:∀ h',ZTn true (s.heap.objs.size+4) (s.heap.objs.size+2) (s.heap.objs.size+3) s.heap.objs.size (s.heap.objs.size+1) l1 l2 0 h'->(∀ c o,s.heap.get? c=some o->h'.get? c=some o)->Q (.ref (s.heap.objs.size+4)) { s with heap:=h' }) :
  wpAny (model prog w) A (call (.type "zip") [.ref l1,.ref l2]) Q E s:=by
 refine callType_new F.called_zip (by decide) (F.typeCall_zip_2 _ _) (F.newCall_zip_2 _ _) (fun obj=>F.args_object_init_3 obj _ _) F.entry_zip_new (zHZ l1 l2 xs ys) ⟨hl1,hl2,?_⟩
 have z1:(zT1 s.heap l1).objs.size=s.heap.objs.size+1:=Heap.size_push ..
 have z2:(zT2 s.heap l1 l2).objs.size=s.heap.objs.size+2:=by rw[Heap.size_push,z1]
 have z3:(zT3 s.heap l1 l2).objs.size=s.heap.objs.size+3:=by rw[Heap.size_push,z2]
 have z4:(zT4 s.heap l1 l2).objs.size=s.heap.objs.size+4:=by rw[Heap.size_push,z3]
 have up:∀ c o,(zT4 s.heap l1 l2).get? c=some o->(zT5 s.heap l1 l2).get? c=some o:=fun c o e=>Heap.get?_push_of_some _ e
 have g5:(zT5 s.heap l1 l2).get? (zT4 s.heap l1 l2).objs.size=some _:=Heap.get?_push_size _ rfl
 have g4:(zT5 s.heap l1 l2).get? (zT3 s.heap l1 l2).objs.size=some _:=up _ _ (Heap.get?_push_size _ rfl)
 have g3:(zT5 s.heap l1 l2).get? (zT2 s.heap l1 l2).objs.size=some _:=up _ _ (Heap.get?_push_of_some _ (Heap.get?_push_size _ rfl))
 have g2:(zT5 s.heap l1 l2).get? (zT1 s.heap l1).objs.size=some _:=up _ _ (Heap.get?_push_of_some _ (Heap.get?_push_of_some _ (Heap.get?_push_size _ rfl)))
 have g1:(zT5 s.heap l1 l2).get? s.heap.objs.size=some _:=up _ _ (Heap.get?_push_of_some _ (Heap.get?_push_of_some _ (Heap.get?_push_of_some _ (Heap.get?_push_size _ rfl))))
 show _/\_
 rw[z2,z3,z4]at g5
 rw[z1,z2]at g3
 rw[z3]at g4
 rw[z1]at g2
 rw[z4]
 exact⟨⟨_,g5,rfl⟩,h _ ⟨g5,g3,⟨_,_,g4⟩,⟨_,g1,rfl,rfl⟩,⟨_,g2,rfl,rfl⟩⟩ fun c o x=>up _ _ (Heap.get?_push_of_some _ (Heap.get?_push_of_some _ (Heap.get?_push_of_some _ (Heap.get?_push_of_some _ x))))⟩
end
open AutoSeq1 (wpAny_loadPart')
def rngV(lo:Int)(n:Nat):List V:=(List.range n).map fun (i:Nat)=>V.int (lo+(i:Int))
theorem zDU(lo:Int)(n:Nat):(rngV lo n).length=n:=by simp[rngV]
theorem zFu{lo:Int}{n:Nat}{acc:Array Value}(h:ItemsOf (fun i v=>∃ t,v=.int (lo+i * 1) t) acc n):Vals (rngV lo n) acc.toList:=by
 obtain⟨hn,hi⟩:=h
 have key:∀ (xs:List V) (us:List Value),xs.length=us.length->(∀ (i:Nat) (x:V) (u:Value),xs[i]?=some x->us[i]?=some u->RelV x u)->Vals xs us:=by
  intro xs
  induction xs with
  | nil=>intro us hl _; cases us with
   | nil=>exact .nil
   | cons _ _=>cases hl
  | cons x xs ih=>intro us hl hr; cases us with
   | nil=>cases hl
   | cons u us=>exact .cons (hr 0 x u rfl rfl) (ih us (by simpa using hl) fun i y v e1 e2=>hr (i+1) y v (by simpa using e1) (by simpa using e2))
 refine key _ _ (by rw[zDU]; simp[hn]) fun i x u e1 e2=>?_
 unfold rngV at e1
 rw[List.getElem?_map]at e1
 cases e3:(List.range n)[i]? with
 | none=>rw[e3]at e1; cases e1
 | some j =>
  rw[e3]at e1
  have hj:j=i/\i < n:=by
   obtain⟨h1,h2⟩:=List.getElem?_eq_some_iff.mp e3
   rw[List.getElem_range]at h2
   exact⟨h2.symm,by simpa using h1⟩
  obtain⟨rfl,hjn⟩:=hj
  have e1':x=V.int (lo+(j:Int)):=(Option.some.inj e1).symm
  subst e1'
  obtain⟨t,ht⟩:=hi j u (by simpa using e2)
  exact⟨t,by rw[ht]; simp⟩
section
variable {prog:Program}{w:World}{A:Around}{E:Value->Shared->Prop}{s:Shared}
theorem zGh{Q:List Value->Shared->Prop}{r:Addr}{a b c:Int}{t u v:Tok}{n:Nat}(hh:A.handled=none)(hr:IsRange s.heap r a b c t u v)(hsmall:Builtin.Range.small a b c=true)(hn:Builtin.Range.rangeSize a b c=n)(hlen:n<=2 ^ 24)
  (hQ:∀ h' tk acc,(∀ b o,s.heap.get? b=some o->h'.get? b=some o)->ItemsOf (fun i v=>∃ t,v=.int (a+i * c) t) acc n->Q acc.toList { s with heap:=h',toks:=tk }) :
  wpAny (model prog w) A (collect (.ref r)) Q E s:=by
 unfold collect
 refine wpAny_bind (wpAny_runValue (codeAny_builtin F.entry_proto_collect ?_)); rw[Around.under_plainId F.plain_proto_collect _]
 show wpAny _ A.in1 (newList [] >>= fun l=>again (.builtin "list.__iadd__" ⟨[l,.ref r],[]⟩)) _ _ s
 refine wpAny_bind (wpAny_newObj_type (wpAny_pure ⟨plainId_quiet F.plain_list_iadd _,codeAny_builtin F.entry_list_iadd ?_⟩)); rw[Around.under_plainId F.plain_list_iadd _]
 show wpAny _ A.in1 (Builtin.List.listExtendWith (.ref s.heap.objs.size) (.ref r) (.ref s.heap.objs.size)) _ _ _
 have hS:(s.heap.push { cls:=.type "list",data:=.seq ([]:List Value).toArray }).get? s.heap.objs.size=some { cls:=.type "list",data:=.seq ([]:List Value).toArray }:=Heap.get?_push_size _ rfl
 have hr2:IsRange (s.heap.push { cls:=.type "list",data:=.seq ([]:List Value).toArray }) r a b c t u v:=Heap.get?_push_of_some _ hr
 let RR:Result->Shared->Prop:=fun r s'=>match r with
  | .ok (.ret v)=>v=.ref s.heap.objs.size/\∃ h' tk acc c',s'={ s with heap:=h',toks:=tk }/\(∀ b o,s.heap.get? b=some o->h'.get? b=some o)/\h'.get? s.heap.objs.size=some { cls:=.type "list",dict:=none,data:=.seq acc c',slots:=#[] }/\ItemsOf (fun i v=>∃ t,v=.int (a+i * c) t) acc n
  | _=>False
 have go:∀ (v:Value) (s':Shared),RR (.ok (.ret v)) s'->wpAny (model prog w) A (match v with | .ref a=>(do match (← load a).data with | .seq xs _=>pure xs.toList | _=>unsupported "internal:collect") | _=>unsupported "internal:collect") Q E s':=fun v s' hR=>by
  obtain⟨rfl,h',tk,acc,c',rfl,hk,hS',hacc⟩:=hR
  show wpAny _ A (load s.heap.objs.size >>= _) _ _ _
  exact wpAny_bind (wpAny_load hS' (wpAny_pure (hQ h' tk acc hk hacc)))
 have base:=wpAny_extend_range (prog:=prog) (w:=w) (A:=A) (R:=RR) (s:={ s with heap:=s.heap.push { cls:=.type "list",data:=.seq ([]:List Value).toArray } }) hh hr2 hsmall hn hlen _ (.ref s.heap.objs.size) _ hS fun h' tk acc' c' hk hS' hacc =>
  ⟨rfl,h',tk,acc',c',rfl,fun b o e=>hk b o (Nat.ne_of_lt (Heap.lt_size e)) (Heap.get?_push_of_some _ e),hS',hacc⟩
 refine wpAny_mono base (fun fin s' h=>?_) (fun e s' h=>False.elim h)
 cases fin with
 | done f=>cases f with
  | ret v=>exact go v s' h
  | next=>exact False.elim h
  | brk=>exact False.elim h
  | cont=>exact False.elim h
 | again c' =>
  refine⟨h.1,codeAny_mono h.2 fun r s'' hr=>?_⟩
  cases r with
  | error e=>exact False.elim hr
  | ok f=>cases f with
   | ret v=>exact go v s'' hr
   | next=>exact False.elim hr
   | brk=>exact False.elim hr
   | cont=>exact False.elim hr
theorem zFq(r:Addr){a b c:Int}{t u v:Tok}{n:Nat}(hsmall:Builtin.Range.small a b c=true)(hn:Builtin.Range.rangeSize a b c=n)(hlen:n<=2 ^ 24) :
  Meets (Builtin.«tuple.__new__» ⟨[.type "tuple",.ref r],[]⟩) (fun A R s=>A.handled=none/\s.heap.get? r=some { cls:=.type "range",data:=.fields #[.int a t,.int b u,.int c v] }/\∀ (h':Heap) (tk:Nat) (acc:Array Value),(∀ b o,s.heap.get? b=some o->h'.get? b=some o) ->
   ItemsOf (fun i v=>∃ t,v=.int (a+i * c) t) acc n->R (.ok (.ret (.ref h'.objs.size))) { s with heap:=h'.push { cls:=.type "tuple",data:=.seq acc },toks:=tk }) :=
 .of_wp fun prog w A R s h=>by
  obtain⟨hh,hr,h⟩:=h
  have s1:=sub_tuple_self
  have s2:=init_tuple_lookup
  have s3:=madeHere_tuple
  have hT:s.TypeIs (.ref r) "range":=⟨_,hr,rfl⟩
  have hh1:A.in1.handled=none:=hh
  have hr':IsRange s.heap r a b c t u v:=hr
  wp_walk using wpAny_typeOf hT,zGh hh1 hr' hsmall hn hlen
  intro h' tk acc hk hacc
  show wpAny _ _ (Builtin.Tuple.tupleExact acc.toList.toArray >>= fun v=>ret v) _ _ _; unfold Builtin.Tuple.tupleExact
  refine wpAny_bind (wpAny_newObj_type ?_ (show acc.toList.toArray.size<=sizeLine by simp only[Array.toArray_toList]; rw[hacc.1,sizeLine_eq]; omega)); refine wpAny_pure ⟨_,rfl,?_⟩
  rw[show acc.toList.toArray=acc by simp]
  exact h h' tk acc hk hacc
theorem zGi{Q:Value->Shared->Prop}{r:Addr}{a b c:Int}{t u v:Tok}{n:Nat}(hh:A.handled=none)(hr:s.heap.get? r=some { cls:=.type "range",data:=.fields #[.int a t,.int b u,.int c v] })(hsmall:Builtin.Range.small a b c=true)
  (hn:Builtin.Range.rangeSize a b c=n) (hlen:n<=2 ^ 24)
  (h:∀ (h':Heap) (tk:Nat) (acc:Array Value),(∀ b o,s.heap.get? b=some o->h'.get? b=some o)->ItemsOf (fun i v=>∃ t,v=.int (a+i * c) t) acc n->Q (.ref h'.objs.size) { s with heap:=h'.push { cls:=.type "tuple",data:=.seq acc },toks:=tk }) :
  wpAny (model prog w) A (call (.type "tuple") [.ref r]) Q E s :=
 callType_new F.called_tuple (by decide) (F.typeCall_tuple_1 _) (F.newCall_tuple_1 _) (fun obj=>F.args_object_init_2 obj _) F.entry_tuple_new (zFq r hsmall hn hlen) ⟨hh,hr,fun h' tk acc hk hacc=>⟨⟨_,Heap.get?_push_size _ rfl,rfl⟩,h h' tk acc hk hacc⟩⟩
end
section
variable {X:Cx}
theorem zKC:CallR X (.type "range") (fun xs H Q=>∃ j:Int,xs=[.int j]/\∀ p,H p=none->Q (.ref p) (upd H p (.rng 0 j))):=by
 intro pins s σ H xs us Q I r h
 obtain⟨j,rfl,q⟩:=h
 obtain⟨u,rfl,t,rfl⟩:=vals1 r
 refine call_range_1 ⟨.ref s.heap.objs.size,_,I.laid (fun b o e=>Heap.get?_push_of_some _ e) (Nat.le_refl _) (show ObjOk X.prog X.w _ _ _ (.rng 0 j) from ⟨_,_,_,Heap.get?_push_size _ rfl⟩),rfl,q _ (I.hok.fresh (Nat.le_refl _))⟩
theorem zKI:CallR X (.type "range") (fun xs H Q=>∃ i j:Int,xs=[.int i,.int j]/\∀ p,H p=none->Q (.ref p) (upd H p (.rng i j))):=by
 intro pins s σ H xs us Q I r h
 obtain⟨i,j,rfl,q⟩:=h
 obtain⟨u,u',rfl,⟨t,rfl⟩,⟨t',rfl⟩⟩:=vals2 r
 refine call_range_2 ⟨.ref s.heap.objs.size,_,I.laid (fun b o e=>Heap.get?_push_of_some _ e) (Nat.le_refl _) (show ObjOk X.prog X.w _ _ _ (.rng i j) from ⟨_,_,_,Heap.get?_push_size _ rfl⟩),rfl,q _ (I.hok.fresh (Nat.le_refl _))⟩
theorem rsz{lo hi:Int}:Builtin.Range.rangeSize lo hi 1=(((hi - lo).toNat:Nat):Int):=by rw[rangeSize_one]; split <;> omega
theorem zFa(hc:X.calm=true):CallR X (.type "list") (fun xs H Q=>∃ p lo hi,xs=[.ref p]/\H p=some (.rng lo hi)/\(-(2 ^ 62)<=lo/\lo < 2 ^ 62/\-(2 ^ 62)<=hi/\hi < 2 ^ 62)/\(hi - lo).toNat<=2 ^ 24/\∀ l,H l=none->Q (.ref l) (upd H l (.lst (rngV lo (hi - lo).toNat)))):=by
 intro pins s σ H xs us Q I r h
 obtain⟨p,lo,hi,rfl,hp,⟨b1,b2,b3,b4⟩,hl,q⟩:=h
 obtain⟨u,rfl,rx⟩:=vals1 r
 cases rx
 obtain⟨t,t',t'',ho⟩:=(show ObjOk X.prog X.w H s.heap p (.rng lo hi) from I.hok p _ hp)
 refine call_list_range (n:=(hi - lo).toNat) (I.ok.hd hc) ho (small_one b1 b2 b3 b4) rsz hl fun h' tk acc c' hk e hacc=>?_
 exact⟨.ref s.heap.objs.size,_,I.laid hk (Nat.le_refl _) (show ObjOk X.prog X.w _ h' _ (.lst _) from ⟨by rw[zDU,sizeLine_eq]; omega,acc.toList,c',zFu hacc,by simpa using e⟩),rfl,q _ (I.hok.fresh (Nat.le_refl _))⟩
theorem zFN(hc:X.calm=true):CallR X (.type "tuple") (fun xs H Q=>∃ p lo hi,xs=[.ref p]/\H p=some (.rng lo hi)/\(-(2 ^ 62)<=lo/\lo < 2 ^ 62/\-(2 ^ 62)<=hi/\hi < 2 ^ 62)/\(hi - lo).toNat<=2 ^ 24/\∀ l,H l=none->Q (.ref l) (upd H l (.tup (rngV lo (hi - lo).toNat)))):=by
 intro pins s σ H xs us Q I r h
 obtain⟨p,lo,hi,rfl,hp,⟨b1,b2,b3,b4⟩,hl,q⟩:=h
 obtain⟨u,rfl,rx⟩:=vals1 r
 cases rx
 obtain⟨t,t',t'',ho⟩:=(show ObjOk X.prog X.w H s.heap p (.rng lo hi) from I.hok p _ hp)
 refine zGi (n:=(hi - lo).toNat) (I.ok.hd hc) ho (small_one b1 b2 b3 b4) rsz hl fun h' tk acc hk hacc=>?_
 have I1:Inv X pins σ H { s with heap:=h',toks:=tk }:=I.kept hk
 exact⟨.ref h'.objs.size,_,I1.laid (t':=tk) (fun b o e=>Heap.get?_push_of_some _ e) (Nat.le_refl _) (show ObjOk X.prog X.w _ _ _ (.tup _) from ⟨by rw[zDU,sizeLine_eq]; omega,acc.toList,zFu hacc,by simpa using TupD.new h' acc⟩),rfl,q _ (I1.hok.fresh (Nat.le_refl _))⟩
theorem zHw{bs:List Bool}:∀ {us:List Value},Vals (bs.map V.bl) us->LSm.BoolsAre us bs:=by
 induction bs with
 | nil=>intro us h; cases h; exact .nil
 | cons b bs ih=>intro us h; cases h with
  | cons r t=>cases r; exact .cons b (ih t)
theorem zKw(hc:X.calm=true):CallR X (.builtin "all") (fun xs H Q=>∃ (p:Addr) (bs:List Bool),xs=[.ref p]/\SqL X.K H p (bs.map V.bl)/\Q (.bl (bs.all id)) H):=by
 intro pins s σ H xs us Q I r h
 obtain⟨p,bs,rfl,hq,q⟩:=h
 obtain⟨u,rfl,rx⟩:=vals1 r
 cases rx
 obtain⟨its,rv,pl,hz⟩:=I.list hq
 have hb:=zHw rv
 have hl:=pl.isList
 have hlt:p < s.heap.objs.size:=by obtain⟨_,e,_⟩:=hl; exact Heap.lt_size e
 refine call_all_walk (wpAny_pyIter_list hl ?_)
 refine⟨s.heap.objs.size,[s.heap.objs.size,p],[s.heap.objs.size],its.toArray.size,_,_,fun i=>(bs[i]?).getD true,rfl,Walks.list (A:=X.A.in1) (I.ok.hd hc) _ p (Nat.ne_of_lt hlt) its.toArray,⟨⟨_,Heap.get?_push_size _ rfl,rfl,rfl⟩,hl.push _⟩,fun i v s' Q' E' hP hQ=>?_,fun h' tk hk=>?_⟩
 ·obtain⟨b,e,rfl⟩:=hb.get i v (by simpa using hP)
  simp only[e,Option.getD_some]at hQ
  exact wpAny_truthy_bool hQ
 ·have e:((List.range its.toArray.size).all fun i=>(bs[i]?).getD true)=bs.all id:=by rw[List.size_toArray,hb.length]; exact LSm.range_all bs
  rw[e]
  exact⟨.bl (bs.all id),H,I.kept (LSm.kept_iter hk),rfl,q⟩
end
theorem zEe(t:Addr)(items:Array Value)(n:Nat)(dd:Option Addr)(sl:Array (Option Value))(x:Value)(e:Value->Bool)(j:Nat)(hj:j < items.size)(hit:e items[j]=true)(hno:∀ m (hm:m < items.size),m < j->e items[m]=false) :
  Meets (Builtin.«tuple.index» ⟨[.ref t,x],[]⟩) (fun A R s=>s.heap.get? t=some { cls:=.type "tuple",dict:=dd,data:=.seq items n,slots:=sl }/\(∀ y,y∈items->SeqAt.EqAt A.in1 s y x (e y))/\R (.ok (.ret (.int j s.toks))) { s with toks:=s.toks+1 }) :=
 .of_wp fun prog w A R s h=>by
  obtain⟨hp,g,d,tk,os⟩:=s; obtain⟨hl,he,h⟩:=h
  wp_walk using wpAny_loadPart' hl
  show wpAny _ _ (forIn (m:=Sem) (β:=Option Fin×PUnit) [:min items.size items.size] (none,()) _) _ _ _
  rw[Std.Legacy.Range.forIn_eq_forIn_range']
  refine wpAny_forIn_list _ (fun rest b s'=>b=(none,())/\s'=⟨hp,g,d,tk,os⟩/\∃ i,i<=j/\rest=List.range' i (items.size - i) 1) _ ?_ ?_ _ _ ?_
  ·rintro i rest b s' ⟨rfl,rfl,k,hk,hr⟩
   have hlt:k < items.size:=by omega
   obtain⟨m,hm⟩:∃ m,items.size - k=m+1:=⟨items.size - k - 1,by omega⟩
   rw[hm,List.range'_succ]at hr
   injection hr with h1 h2
   subst h1
   have hi:items[i]?=some items[i]:=by simp[hlt]
   simp only[hi]
   refine wpAny_bind (he items[i] (Array.getElem_mem hlt) prog w _ _ ?_)
   by_cases hij:i=j
   ·subst hij
    rw[hit]
    simp only[if_true]
    refine wpAny_bind ?_
    show wpAny _ _ (do let v ← mkInt i; ret v) _ _ _
    exact wpAny_bind (wpAny_mkInt (wpAny_pure (wpAny_pure (wpAny_pure ⟨_,rfl,h⟩))))
   ·rw[hno i hlt (by omega)]
    simp only[Bool.false_eq_true,if_false]
    exact wpAny_pure ⟨rfl,rfl,i+1,by omega,by rw[h2]; congr 1; omega⟩
  ·rintro b s' ⟨rfl,rfl,k,hk,hr⟩
   have q:items.size - k=0:=by have q:=congrArg List.length hr; simp at q; omega
   omega
  ·refine⟨rfl,rfl,0,Nat.zero_le _,?_⟩
   simp[Std.Legacy.Range.size]
section
variable {X:Cx}
def rTupIndex(K:PySem.W.Frag):V->List V->Hp->VK->Prop:=fun x vs H Q=>∃ t xs y j,x=.ref t/\vs=[y]/\SqT K H t xs/\flatV y=true/\xs.all flatV=true/\(xs.findIdx? fun z=>eqV z y)=some j/\Q (.int (j:Nat)) H
theorem zGf:MtM X "tuple.index" (rTupIndex X.K):=by
 intro pins s σ H x vs v us Q I rx rv h
 obtain⟨t,xs,y,j,rfl,rfl,hq,fy,fx,hj,q⟩:=h
 cases rx
 obtain⟨u,rfl,ru⟩:=rv.one
 obtain⟨its,r,⟨⟨cls,dd,data,sl⟩,ho,hc,n,hd⟩,hz⟩:=I.tuple hq
 simp only at hc hd
 subst hc hd
 have hlen:=r.length
 obtain⟨hjl,hjt,hjn⟩:=List.findIdx?_eq_some_iff_getElem.mp hj
 have hiU:∀ m (hm:m < its.length),eqU y its[m]=eqV (xs[m]'(by omega)) y:=fun m hm=>by
  have e1:xs[m]?=some (xs[m]'(by omega)):=by simp
  obtain⟨u',hu',ru'⟩:=r.get e1
  have e2:its[m]=u':=by rw[List.getElem?_eq_getElem hm]at hu'; exact Option.some.inj hu'
  rw[e2]
  exact zFb ru' (List.all_eq_true.mp fx _ (List.getElem_mem _))
 refine call_meets F.slot_tuple_index ⟨_,ho,rfl⟩ F.entry_tuple_index (F.args_tuple_index_2 _ _)
  (zEe t its.toArray n dd sl u (eqU y) j (by simp; omega) (by show eqU y its[j]=true; rw[hiU j (by omega)]; exact hjt) (fun m hm hmj=>by
   show eqU y its[m]=false
   rw[hiU m (by simpa using hm)]
   exact Bool.eq_false_iff.mpr (hjn m hmj))) ⟨ho,?_,?_⟩
 ·intro z hzm
  exact zBl ru fy r fx z (by simpa using hzm)
 ·exact⟨.int (j:Nat),H,I.tok _,⟨_,rfl⟩,q⟩
end
section
variable {X:Cx}
theorem Same.upd{H:Hp}{p:Addr}{o:HO}(h:H p=none):Same H (upd H p o):=fun b u e=>by rw[zAK (zAV e h)]; exact e
end
theorem zQN{X:Cx}{x:Str}{T:String}{pos:Pos}(hg:Gl X x)(hm:X.mg x=none)(hv:bootBuiltins x=some (.type T))(hn:x≠"__name__":=by decide)(hd:(x == ("__debug__":Str))=false:=by decide):PE X (.Name x pos) (tC (.ty T)):=zLz (v:=.ty T) hg hm hv rfl hn hd
theorem zMJ{X:Cx}(K:PySem.W.Frag)(hK:X.K=K){es:List Expr}{k:Nat}{pos:Pos}{t:TGs}{n:Nat}(hc:X.calm=true)(h:PGs X es t)(hn:(assignEach es X.env).length=n:=by rfl)(hst:(assignEach es X.env).findIdx? (·.1)=none:=by rfl):PG X (.Tuple es k pos) (gTup K n t):=by
 subst hK
 exact zNx hc h hn hst
theorem small_show{k:Nat}(h:k < 10):PyData.showable (.int (k:Int))=true/\PyData.leavesShort 8 (.int (k:Int))=true/\PyData.weight (.int (k:Int))<=4:=by
 match k,h with
 | 0,_=>decide +kernel
 | 1,_=>decide +kernel
 | 2,_=>decide +kernel
 | 3,_=>decide +kernel
 | 4,_=>decide +kernel
 | 5,_=>decide +kernel
 | 6,_=>decide +kernel
 | 7,_=>decide +kernel
 | 8,_=>decide +kernel
 | 9,_=>decide +kernel
section
variable {prog:Program}{w:World}{A:Around}{E:Value->Shared->Prop}{s:Shared}
theorem zIn{it:Addr}{T:String}{o:Obj}{vs:List Value}{ns:List Int}{n:Nat}{Q:Value->Shared->Prop}(hT:T="list"\/T="tuple")(ho:s.heap.get? it=some o)(hc:o.cls=.type T)(hd:o.data=.seq vs.toArray n)(hI:IntsAre vs ns)(h64:vs.length < 64)
  (h:∀ (h1 h':Heap) (out:Array Value) (e:Nat) (ns':List Int),(∀ b o,s.heap.get? b=some o->h1.get? b=some o)->(∀ b o,h1.get? b=some o->h'.get? b=some o)->h'.get? h1.objs.size=some (seqObj "list" out e)->IntsAre out.toList ns'->ns'.Perm ns->ns'.Pairwise (·<=·)->Q (.ref h1.objs.size) { s with heap:=h' }) :
  wpAny (model prog w) A (call (.builtin "sorted") [.ref it]) Q E s:=by
 refine Calls.call_function_entry kind_sorted plain_sorted entry_sorted (args_sorted1 _) ?_; unfold Builtin.«sorted»; refine wpAny_bind (m:=checkCount "sorted" 1 1 _) (wpAny_pure ?_)
 refine wpAny_bind (wpAny_collect_seq it hT ho hc hd (fun h1 hk1=>?_) (by rw[List.size_toArray,sizeLine_eq]; omega))
 refine wpAny_bind (wpAny_newList ?_)
 have hoL:(h1.push (seqObj "list" vs.toArray 0)).get? h1.objs.size=some (seqObj "list" vs.toArray 0):=Heap.get?_push_size _ rfl
 show wpAny _ _ _ _ _ { s with heap:=h1.push (seqObj "list" vs.toArray 0) }
 refine wpAny_bind (wpAny_holding (wpAny_call_entry slot_list_sort ⟨_,hoL,rfl⟩ entry_list_sort (list_sort_tree hoL hI h64 fun out ns' a1 a2 a3=>⟨_,rfl,?_⟩) (args_list_sort _)))
 obtain⟨e,he⟩:=sortedHeap_at (out:=out) hoL
 refine wpAny_pure ⟨_,rfl,h h1 _ out e ns' hk1 (fun b ob q=>?_) he a1 a2 a3⟩
 have hlt:=Heap.lt_size q
 rw[sortedHeap_old (Nat.ne_of_lt hlt) (by rw[size_push']; exact Nat.lt_succ_of_lt hlt)]
 exact Heap.get?_push_of_some _ q
end
theorem zC8:∀ {us:List Value} {ns:List Int},IntsAre us ns->Vals (ns.map V.int) us
 | _,_,.nil=>.nil
 | _,_,.cons _ t r=>.cons ⟨t,rfl⟩ (zC8 r)
section
variable {X:Cx}
theorem zGu:CallR X (.builtin "sorted") (fun xs H Q=>∃ (p:Addr) (ns:List Int),xs=[.ref p]/\(SqL X.K H p (ns.map V.int)\/SqT X.K H p (ns.map V.int))/\ns.length < 64/\∀ (l:Addr) (ns':List Int),H l=none->ns'.Perm ns->ns'.Pairwise (·<=·)->Q (.ref l) (upd H l (.lst (ns'.map V.int)))):=by
 intro pins s σ H xs us Q I r h
 obtain⟨p,ns,rfl,hq,hl,q⟩:=h
 obtain⟨u,rfl,rx⟩:=vals1 r
 cases rx
 have go:∀ (T:String) (o:Obj) (its:List Value) (n:Nat),(T="list"\/T="tuple")->s.heap.get? p=some o->o.cls=.type T->o.data=.seq its.toArray n->Vals (ns.map V.int) its->wpAny (model X.prog X.w) X.A (call (.builtin "sorted") [.ref p]) (EP X pins σ Q) X.xe s:=fun T o its n hT ho hc hd rv=>by
  have hlen:=rv.length
  rw[List.length_map]at hlen
  refine zIn hT ho hc hd (zHo rv) (by omega) fun h1 h' out e ns' k1 k2 he hI hp hs=>?_
  have I1:Inv X pins σ H { s with heap:=h1 }:=I.kept (t':=s.toks) k1
  have hl':ns'.length < 64:=by rw[hp.length_eq]; exact hl
  exact⟨.ref h1.objs.size,_,I1.laid (t':=s.toks) k2 (Nat.le_refl _) (show ObjOk X.prog X.w _ h' _ (.lst _) from ⟨by rw[List.length_map,sizeLine_eq]; omega,out.toList,e,zC8 hI,by simpa [seqObj] using he⟩),rfl,q _ ns' (I1.hok.fresh (Nat.le_refl _)) hp hs⟩
 rcases hq with hq | hq
 ·obtain⟨its,rv,⟨o,n,e,c,_,d⟩,_⟩:=I.list hq
  exact go "list" o its n (.inl rfl) e c d rv
 ·obtain⟨its,rv,⟨o,e,c,n,d⟩,_⟩:=I.tuple hq
  exact go "tuple" o its n (.inr rfl) e c d rv
end
section
variable {prog:Program}{w:World}{A:Around}{E:Value->Shared->Prop}{s:Shared}
theorem zCr{t sl:Addr}{items:Array Value}{vl vu:Value}{lo hi:Option Int}{Q:Value->Shared->Prop}(ht:IsTup s.heap t items)(hs:s.heap.IsSliceOf sl vl vu .none)(pl:IsPart vl lo)(pu:IsPart vu hi)
  (hw:HT.sIx items.size 0 lo=0/\HT.sIx items.size items.size hi=items.size) (h:Q (.ref t) s):wpAny (model prog w) A (getItem (.ref t) (.ref sl)) Q E s:=by
 obtain⟨os,hos,hcs,hds⟩:=id hs
 have hTs:s.TypeIs (.ref sl) "slice":=⟨os,hos,hcs⟩
 unfold getItem; try with_reducible refine wpAny_holding ?_
 first | refine wpAny_bind (wpAny_pure ?_) | skip
 refine wpAny_bind (wpAny_sequenceKey ht.typeIs (by decide) ?_); refine wpAny_bind (wpAny_callSpecial?_slot (name:=Str.ofString "__getitem__") ht.typeIs PyProof.Rows.slot_tuple_getitem (wpAny_call_entry PyProof.Rows.slot_tuple_getitem ht.typeIs entry_tuple_getitem ?_ (args_tuple_getitem _ _)))
 show wpAny _ _ (Builtin.Tuple.tupleItemsOf (.ref t) >>= _) _ _ s; refine wpAny_bind (tupleItemsOf_ ht ?_); refine wpAny_bind (wpAny_typeOf hTs ?_)
 rw[if_pos (by decide)]; refine wpAny_bind (HT.sliceApplied_gen hs pl pu ?_)
 have hyes:((((HT.sIx items.size 0 lo:Nat):Int) == 0 && (1:Int) == 1 && (HT.sIx items.size items.size hi - HT.sIx items.size 0 lo) == items.size)=true):=by
  rw[hw.1,hw.2]; simp
 show wpAny _ _ (if (((HT.sIx items.size 0 lo:Nat):Int) == 0 && (1:Int) == 1 && (HT.sIx items.size items.size hi - HT.sIx items.size 0 lo) == items.size)=true then _ else _) _ _ s
 rw[if_pos hyes]
 refine wpAny_bind ?_
 unfold Builtin.Tuple.tupleIsExact
 refine wpAny_bind (wpAny_typeOf ht.typeIs (wpAny_pure ?_))
 rw[if_pos (by decide)]
 exact wpAny_bind (wpAny_rule (wpAny_pure ⟨_,rfl,wpAny_pure h⟩))
end
end L2
namespace D
open PySem L2
abbrev Fg:=PySem.W.Frag
inductive T where
 | a (v:V)
 | t (xs:List T)
 | l (xs:List T)
 | f (n:Str)
 | x (c:Str) (fs:List (Str×V))
abbrev Dk:=Sum (List (Key×T)) (List (List Key×T))
inductive G where
 | v (t:T)
 | l (xs:List T)
 | r (xs:List T)
 | k (xs:List T)
 | d (kvs:Dk)
 | e (kvs:Dk)
def isMut:G->Bool
 | .l _=>true
 | .d _=>true
 | _=>false
inductive S where
 | v (t:T)
 | l (xs:List T)
 | s (i:Nat)
 | d (kvs:Dk)
abbrev En:=List (Option G)
abbrev DE:=En->Option (S×En)
abbrev DT:=En->Option (Bool×En)
abbrev DA:=En->Option (List S×En)
inductive O where
 | nx (g:En) | rt (s:S) (g:En) | bk (g:En) | ct (g:En)
abbrev DS:=En->Option O
def cOk:List V->Bool
 | .int _::_=>true
 | .ref _::_=>true
 | [.str x]=>decide (x="yes") || decide (x="no")
 | _=>false
def KT(K:Fg)(a:Addr)(xs:List V):Prop:=∃ (o:Obj) (its:Array Value) (n:Nat),K.lookup a=some o/\o.cls=.type "tuple"/\o.dict=none/\o.data=.seq its n/\its.size<=sizeLine/\Vals xs its.toList/\cOk xs=true
def Tp(K:Fg)(H:Hp)(p:Addr)(vs:List V):Prop:=H p=some (.tup vs)\/KT K p vs
theorem Tp.sq{K:Fg}{H:Hp}{p:Addr}{vs:List V}(h:Tp K H p vs):SqT K H p vs:=by
 rcases h with h | ⟨o,its,n,a,b,c,d,e,f,_⟩
 ·exact SqT.of h
 ·exact .inr ⟨o,its,n,a,b,d,e,f⟩
theorem Tp.of{K:Fg}{H:Hp}{p:Addr}{vs:List V}(h:H p=some (.tup vs)):Tp K H p vs:=.inl h
def KL(K:Fg)(a:Addr)(xs:List V):Prop:=∃ (o:Obj) (its:Array Value) (n:Nat),K.lookup a=some o/\o.cls=.type "list"/\o.dict=none/\o.data=.seq its n/\its.size<=sizeLine/\Vals xs its.toList
def KF(K:Fg)(H:Hp)(p:Addr)(vs:List V):Prop:=(∃ o,H p=some (.frz o (.lst vs)))\/KL K p vs
def XOk(K:Fg)(H:Hp)(p:Addr)(c:Str)(fs:List (Str×V)):Prop:=∃ (C:Addr) (d:Option Addr),PySem.W.nsIn K mainGlobals c=some (some (.ref C)) /\
 H p=some (.ext fun h=>∃ o,h.get? p=some o/\o.cls=.ref C/\o.dict=d/\PySem.W.notCls o=true)/\((d=none/\fs=[])\/∃ dx,d=some dx/\H dx=some (.xd fs))
def FOk(K:Fg)(v:V)(n:Str):Prop:=∃ p,v=.ref p/\PySem.W.nsIn K mainGlobals n=some (some (.ref p))
mutual
def Im(K:Fg)(H:Hp):V->T->Prop
 | v,.a u=>v=u
 | v,.t ts=>∃ p vs,v=.ref p/\Tp K H p vs/\Ims K H vs ts
 | v,.l ts=>∃ p vs,v=.ref p/\KF K H p vs/\Ims K H vs ts
 | v,.f n=>FOk K v n
 | v,.x c fs=>∃ p,v=.ref p/\XOk K H p c fs
def Ims(K:Fg)(H:Hp):List V->List T->Prop
 | vs,[]=>vs=[]
 | vs,t::ts=>∃ v r,vs=v::r/\Im K H v t/\Ims K H r ts
end
structure W where
 L:List Addr
 R:Addr->Prop
structure Fr where
 H0:Hp
 fx:List Addr
 pins:List (Nat×Addr)
def Evo(L:List Addr)(H H':Hp):Prop:=∀ b o,H b=some o->b∉L->H' b=some o
def Mu:HO->Prop
 | .lst _=>True
 | .dK _=>True
 | .dT _=>True
 | _=>False
def LL(L:List Addr)(H:Hp):Prop:=∀ p∈L,∃ o,H p=some o/\Mu o
theorem Evo.refl{L:List Addr}{H:Hp}:Evo L H H:=fun _ _ h _=>h
theorem Evo.trans{L:List Addr}{H H1 H2:Hp}(a:Evo L H H1)(b:Evo L H1 H2):Evo L H H2:=fun c o h n=>b c o (a c o h n) n
theorem Evo.wide{L L':List Addr}{H H':Hp}(a:Evo L' H H')(h:∀ p∈L',p∈L):Evo L H H':=fun c o e n=>a c o e fun z=>n (h c z)
theorem Evo.new{L:List Addr}{H:Hp}{p:Addr}{o:HO}(h:H p=none):Evo L H (upd H p o):=fun b u e _=>by rw[zAK (zAV e h)]; exact e
theorem Evo.of_same{L:List Addr}{H H':Hp}(h:Same H H'):Evo L H H':=fun b u e _=>h b u e
theorem zD7{K:Fg}{L:List Addr}{H H':Hp}{p:Addr}{vs:List V}(e:Evo L H H')(hL:LL L H)(h:Tp K H p vs):Tp K H' p vs:=by
 rcases h with h | h
 ·refine .inl (e _ _ h fun z=>?_)
  obtain⟨o,q,m⟩:=hL p z
  rw[h]at q; cases q; exact m
 ·exact .inr h
theorem KF.evo{K:Fg}{L:List Addr}{H H':Hp}{p:Addr}{vs:List V}(e:Evo L H H')(hL:LL L H)(h:KF K H p vs):KF K H' p vs:=by
 rcases h with ⟨o,h⟩ | h
 ·refine .inl ⟨o,e _ _ h fun z=>?_⟩
  obtain⟨o,q,m⟩:=hL p z
  rw[h]at q; cases q; exact m
 ·exact .inr h
theorem XOk.evo{K:Fg}{L:List Addr}{H H':Hp}{p:Addr}{c:Str}{fs:List (Str×V)}(e:Evo L H H')(hL:LL L H)(h:XOk K H p c fs):XOk K H' p c fs:=by
 obtain⟨C,d,h1,h2,h3⟩:=h
 refine⟨C,d,h1,e _ _ h2 fun z=>?_,h3.imp id fun ⟨dx,a,b⟩=>⟨dx,a,e _ _ b fun z=>?_⟩⟩
 ·obtain⟨o,q,m⟩:=hL p z
  rw[h2]at q; cases q; exact m
 ·obtain⟨o,q,m⟩:=hL dx z
  rw[b]at q; cases q; exact m
mutual
theorem Im.evo{K:Fg}{L:List Addr}{H H':Hp}(e:Evo L H H')(hL:LL L H):∀ {v:V} {t:T},Im K H v t->Im K H' v t
 | _,.a _,h=>h
 | _,.t _,h=>by
  unfold Im at h ⊢
  obtain⟨p,vs,rfl,hs,hi⟩:=h
  exact⟨p,vs,rfl,zD7 e hL hs,Ims.evo e hL hi⟩
 | _,.l _,h=>by
  unfold Im at h ⊢
  obtain⟨p,vs,rfl,hs,hi⟩:=h
  exact⟨p,vs,rfl,hs.evo e hL,Ims.evo e hL hi⟩
 | _,.f _,h=>by
  unfold Im at h ⊢
  exact h
 | _,.x _ _,h=>by
  unfold Im at h ⊢
  obtain⟨p,rfl,hs⟩:=h
  exact⟨p,rfl,hs.evo e hL⟩
theorem Ims.evo{K:Fg}{L:List Addr}{H H':Hp}(e:Evo L H H')(hL:LL L H):∀ {vs:List V} {ts:List T},Ims K H vs ts->Ims K H' vs ts
 | _,[],h=>h
 | _,_::_,h=>by
  unfold Ims at h ⊢
  obtain⟨v,r,rfl,h1,h2⟩:=h
  exact⟨v,r,rfl,Im.evo e hL h1,Ims.evo e hL h2⟩
end
section
variable {K:Fg}{H H':Hp}
theorem Ims.nil:Ims K H [] []:=by unfold Ims; rfl
theorem Ims.cons{v:V}{vs:List V}{t:T}{ts:List T}(h:Im K H v t)(hs:Ims K H vs ts):Ims K H (v::vs) (t::ts):=by unfold Ims; exact⟨v,vs,rfl,h,hs⟩
theorem Ims.inv{vs:List V}{t:T}{ts:List T}(h:Ims K H vs (t::ts)):∃ v r,vs=v::r/\Im K H v t/\Ims K H r ts:=by unfold Ims at h; exact h
theorem Ims.inv0{vs:List V}(h:Ims K H vs []):vs=[]:=by unfold Ims at h; exact h
theorem Ims.len:∀ {vs:List V} {ts:List T},Ims K H vs ts->vs.length=ts.length
 | _,[],h=>by rw[h.inv0]; rfl
 | _,_::_,h=>by obtain⟨v,r,rfl,_,h2⟩:=h.inv; simp[h2.len]
theorem Ims.app:∀ {vs us:List V} {ts ss:List T},Ims K H vs ts->Ims K H us ss->Ims K H (vs++us) (ts++ss)
 | _,_,[],_,h,h'=>by rw[h.inv0]; exact h'
 | _,_,_::_,_,h,h'=>by obtain⟨v,r,rfl,h1,h2⟩:=h.inv; exact .cons h1 (h2.app h')
theorem Ims.one{v:V}{t:T}(h:Im K H v t):Ims K H [v] [t]:=.cons h .nil
theorem Ims.get:∀ {vs:List V} {ts:List T} {i:Nat} {t:T},Ims K H vs ts->ts[i]?=some t->∃ v,vs[i]?=some v/\Im K H v t
 | _,[],_,_,_,e=>by simp at e
 | _,_::_,0,_,h,e=>by obtain⟨v,r,rfl,h1,h2⟩:=h.inv; simp at e; subst e; exact⟨v,rfl,h1⟩
 | _,_::_,i+1,_,h,e=>by obtain⟨v,r,rfl,h1,h2⟩:=h.inv; simpa using h2.get (i:=i) (by simpa using e)
theorem Ims.take:∀ (n:Nat) {vs:List V} {ts:List T},Ims K H vs ts->Ims K H (vs.take n) (ts.take n)
 | 0,_,_,_=>by simp; exact .nil
 | _+1,_,[],h=>by rw[h.inv0]; exact .nil
 | n+1,_,_::_,h=>by obtain⟨v,r,rfl,h1,h2⟩:=h.inv; exact .cons h1 (h2.take n)
theorem Ims.drop:∀ (n:Nat) {vs:List V} {ts:List T},Ims K H vs ts->Ims K H (vs.drop n) (ts.drop n)
 | 0,_,_,h=>h
 | _+1,_,[],h=>by rw[h.inv0]; exact .nil
 | n+1,_,_::_,h=>by obtain⟨v,r,rfl,h1,h2⟩:=h.inv; exact h2.drop n
theorem Ims.set:∀ {vs:List V} {ts:List T} (i:Nat) {v:V} {t:T},Ims K H vs ts->Im K H v t->Ims K H (vs.set i v) (ts.set i t)
 | _,[],_,_,_,h,_=>by rw[h.inv0]; exact .nil
 | _,_::_,0,_,_,h,h'=>by obtain⟨v,r,rfl,h1,h2⟩:=h.inv; exact .cons h' h2
 | _,_::_,i+1,_,_,h,h'=>by obtain⟨v,r,rfl,h1,h2⟩:=h.inv; exact .cons h1 (h2.set i h')
theorem Ims.erase:∀ {vs:List V} {ts:List T} (i:Nat),Ims K H vs ts->Ims K H (vs.eraseIdx i) (ts.eraseIdx i)
 | _,[],_,h=>by rw[h.inv0]; exact .nil
 | _,_::_,0,h=>by obtain⟨v,r,rfl,h1,h2⟩:=h.inv; exact h2
 | _,_::_,i+1,h=>by obtain⟨v,r,rfl,h1,h2⟩:=h.inv; exact .cons h1 (h2.erase i)
theorem Ims.rev:∀ {vs:List V} {ts:List T},Ims K H vs ts->Ims K H vs.reverse ts.reverse
 | _,[],h=>by rw[h.inv0]; exact .nil
 | _,_::_,h=>by obtain⟨v,r,rfl,h1,h2⟩:=h.inv; simp only[List.reverse_cons]; exact h2.rev.app (.one h1)
theorem Ims.atoms:∀ (vs:List V),Ims K H vs (vs.map T.a)
 | []=>.nil
 | v::r=>.cons (by unfold Im; rfl) (Ims.atoms r)
theorem Ims.of_atoms:∀ {vs:List V} {us:List V},Ims K H vs (us.map T.a)->vs=us
 | _,[],h=>h.inv0
 | _,_::_,h=>by obtain⟨v,r,rfl,h1,h2⟩:=h.inv; unfold Im at h1; rw[h1,Ims.of_atoms h2]
theorem Im.atom{v:V}:Im K H v (.a v):=by unfold Im; rfl
theorem Im.tup{p:Addr}{vs:List V}{ts:List T}(h:H p=some (.tup vs))(hs:Ims K H vs ts):Im K H (.ref p) (.t ts):=by unfold Im; exact⟨p,vs,rfl,Tp.of h,hs⟩
theorem Im.inv{v:V}{ts:List T}(h:Im K H v (.t ts)):∃ p vs,v=.ref p/\Tp K H p vs/\Ims K H vs ts:=by unfold Im at h; exact h
theorem Im.invl{v:V}{ts:List T}(h:Im K H v (.l ts)):∃ p vs,v=.ref p/\KF K H p vs/\Ims K H vs ts:=by unfold Im at h; exact h
theorem Im.fn{v:V}{n:Str}(h:FOk K v n):Im K H v (.f n):=by unfold Im; exact h
theorem Im.invf{v:V}{n:Str}(h:Im K H v (.f n)):FOk K v n:=by unfold Im at h; exact h
theorem Im.invx{v:V}{c:Str}{fs:List (Str×V)}(h:Im K H v (.x c fs)):∃ p,v=.ref p/\XOk K H p c fs:=by unfold Im at h; exact h
theorem Im.inva{v u:V}(h:Im K H v (.a u)):v=u:=by unfold Im at h; exact h
end
theorem KF.sq{K:Fg}{H:Hp}{p:Addr}{vs:List V}(h:KF K H p vs):SqL K H p vs:=by
 rcases h with h | h
 ·exact .inl (.inr h)
 ·exact .inr h
theorem KF.of{K:Fg}{H:Hp}{p:Addr}{vs:List V}(h:SqL K H p vs)(n:∀ us,H p≠some (.lst us)):KF K H p vs:=by
 rcases h with (h | h) | h
 ·exact absurd h (n vs)
 ·exact .inl h
 ·exact .inr h
def DOk(K:Fg)(H:Hp):HO->Dk->Prop
 | .dK l,.inl kvs=>Paired (fun (a:Key×V) (b:Key×T)=>a.1=b.1/\Im K H a.2 b.2) l kvs
 | .dT l,.inr kvs=>Paired (fun (a:List Key×V) (b:List Key×T)=>a.1=b.1/\Im K H a.2 b.2) l kvs
 | _,_=>False
theorem DOk.mu{K:Fg}{H:Hp}{o:HO}{kvs:Dk}(h:DOk K H o kvs):Mu o:=by
 unfold DOk at h
 split at h
 ·trivial
 ·trivial
 ·exact h.elim
theorem DOk.evo{K:Fg}{L:List Addr}{H H':Hp}{o:HO}{kvs:Dk}(e:Evo L H H')(hL:LL L H)(h:DOk K H o kvs):DOk K H' o kvs:=by
 unfold DOk at h ⊢
 split at h
 ·exact Paired.mapP h fun _ _ z=>⟨z.1,z.2.evo e hL⟩
 ·exact Paired.mapP h fun _ _ z=>⟨z.1,z.2.evo e hL⟩
 ·exact h.elim
def GOk(K:Fg)(w:W)(H:Hp)(v:V):G->Prop
 | .v t=>Im K H v t
 | .l xs=>∃ p vs,v=.ref p/\p∈w.L/\H p=some (.lst vs)/\Ims K H vs xs
 | .r xs=>∃ p vs,v=.ref p/\Ims K H vs xs/\H p=some (.lst vs)/\p∉w.L/\w.R p
 | .k xs=>∃ p vs,v=.ref p/\Ims K H vs xs/\KF K H p vs
 | .d kvs=>∃ p o,v=.ref p/\p∈w.L/\H p=some o/\DOk K H o kvs
 | .e kvs=>∃ p o,v=.ref p/\DOk K H o kvs/\H p=some o/\p∉w.L/\w.R p
theorem GOk.own{K:Fg}{w:W}{H:Hp}{v:V}{g:G}(m:isMut g=true)(h:GOk K w H v g):∃ p,v=.ref p/\p∈w.L:=by
 cases g with
 | l xs=>obtain⟨p,vs,e,m,_⟩:=h; exact⟨p,e,m⟩
 | d xs=>obtain⟨p,vs,e,m,_⟩:=h; exact⟨p,e,m⟩
 | v _=>cases m
 | r _=>cases m
 | k _=>cases m
 | e _=>cases m
def Ow(C:Fr)(p:Addr):Prop:=p∈C.fx\/C.H0 p=none
structure Rep(K:Fg)(C:Fr)(w:W)(Γ:En)(σ:St)(H:Hp):Prop where
 len:σ.length=Γ.length
 val:∀ (i:Nat) g,Γ[i]?=some (some g)->∃ v,σ[i]?=some (some v)/\GOk K w H v g
 apart:∀ (i j:Nat) p g g',isMut g=true->isMut g'=true->Γ[i]?=some (some g)->Γ[j]?=some (some g')->σ[i]?=some (some (.ref p))->σ[j]?=some (some (.ref p))->i=j
 lst:LL w.L H
 own:∀ p∈w.L,Ow C p
 ra:∀ p,w.R p->∃ o,H p=some o
 rl:∀ p,w.R p->p∉w.L
 frame:∀ b o,C.H0 b=some o->b∉C.fx->H b=some o
 pin:∀ q∈C.pins,σ[q.1]?=some (some (.ref q.2))/\∃ xs,Γ[q.1]?=some (some (.l xs))
def SOk(K:Fg)(C:Fr)(w:W)(σ:St)(H:Hp)(v:V):S->Prop
 | .v t=>Im K H v t
 | .l xs=>∃ p vs,v=.ref p/\p∉w.L/\¬ w.R p/\Ow C p/\H p=some (.lst vs)/\Ims K H vs xs
 | .s i=>σ[i]?=some (some v)
 | .d kvs=>∃ p o,v=.ref p/\p∉w.L/\¬ w.R p/\Ow C p/\H p=some o/\DOk K H o kvs
section
variable {K:Fg}{C:Fr}{w:W}{Γ Γ':En}{σ:St}{H H':Hp}
theorem GOk.evo{v:V}{g:G}(e:Evo w.L H H')(hL:LL w.L H)(hl:isMut g=false)(h:GOk K w H v g):GOk K w H' v g:=by
 cases g with
 | v t=>exact Im.evo e hL h
 | l xs=>cases hl
 | d xs=>cases hl
 | e kvs =>
  obtain⟨p,o,rfl,hi,h⟩:=h
  exact⟨p,o,rfl,hi.evo e hL,e _ _ h.1 h.2.1,h.2⟩
 | r xs =>
  obtain⟨p,vs,rfl,hi,h⟩:=h
  exact⟨p,vs,rfl,hi.evo e hL,e _ _ h.1 h.2.1,h.2⟩
 | k xs =>
  obtain⟨p,vs,rfl,hi,h⟩:=h
  exact⟨p,vs,rfl,hi.evo e hL,h.evo e hL⟩
theorem SOk.evo{v:V}{s:S}(e:Evo w.L H H')(hL:LL w.L H)(h:SOk K C w σ H v s):SOk K C w σ H' v s:=by
 cases s with
 | v t=>exact Im.evo e hL h
 | l xs =>
  obtain⟨p,vs,rfl,n1,n2,o,h1,h2⟩:=h
  exact⟨p,vs,rfl,n1,n2,o,e _ _ h1 n1,h2.evo e hL⟩
 | s i=>exact h
 | d kvs =>
  obtain⟨p,o,rfl,n1,n2,ow,h1,h2⟩:=h
  exact⟨p,o,rfl,n1,n2,ow,e _ _ h1 n1,h2.evo e hL⟩
theorem SOk.atom{v:V}:SOk K C w σ H v (.v (.a v)):=by show Im K H v (.a v); exact Im.atom
theorem SOk.inva{v u:V}(h:SOk K C w σ H v (.v (.a u))):v=u:=by
 have h':Im K H v (.a u):=h
 exact h'.inva
theorem SOk.invt{v:V}{ts:List T}(h:SOk K C w σ H v (.v (.t ts))):∃ p vs,v=.ref p/\Tp K H p vs/\Ims K H vs ts:=by
 have h':Im K H v (.t ts):=h
 exact h'.inv
theorem Rep.evo0(r:Rep K C w Γ σ H)(e:∀ b o,H b=some o->H' b=some o):Rep K C w Γ σ H' where
 len:=r.len
 val:=fun i g h=>by
  obtain⟨v,e1,e2⟩:=r.val i g h
  refine⟨v,e1,?_⟩
  cases g with
  | l xs =>
   obtain⟨p,vs,rfl,hp,h1,h2⟩:=e2
   exact⟨p,vs,rfl,hp,e _ _ h1,h2.evo (L:=w.L) (fun b o h _=>e b o h) r.lst⟩
  | d xs =>
   obtain⟨p,o,rfl,hp,h1,h2⟩:=e2
   exact⟨p,o,rfl,hp,e _ _ h1,h2.evo (L:=w.L) (fun b o h _=>e b o h) r.lst⟩
  | v t=>exact GOk.evo (fun b o h _=>e b o h) r.lst rfl e2
  | r xs=>exact GOk.evo (fun b o h _=>e b o h) r.lst rfl e2
  | k xs=>exact GOk.evo (fun b o h _=>e b o h) r.lst rfl e2
  | e xs=>exact GOk.evo (fun b o h _=>e b o h) r.lst rfl e2
 apart:=r.apart
 lst:=fun p hp=>by obtain⟨o,h,m⟩:=r.lst p hp; exact⟨o,e _ _ h,m⟩
 own:=r.own
 ra:=fun p hp=>by obtain⟨o,h⟩:=r.ra p hp; exact⟨o,e _ _ h⟩
 rl:=r.rl
 frame:=fun b o h n=>e _ _ (r.frame b o h n)
 pin:=r.pin
theorem Rep.same(r:Rep K C w Γ σ H)(e:Same H H'):Rep K C w Γ σ H':=r.evo0 e
theorem Rep.new{p:Addr}{o:HO}(r:Rep K C w Γ σ H)(h:H p=none):Rep K C w Γ σ (upd H p o):=r.evo0 fun b u e=>by rw[zAK (zAV e h)]; exact e
theorem Rep.fresh{p:Addr}(r:Rep K C w Γ σ H)(h:H p=none):p∉w.L/\¬ w.R p/\Ow C p:=by
 refine⟨fun z=>?_,fun z=>?_,?_⟩
 ·obtain⟨vs,e,_⟩:=r.lst p z; rw[h]at e; cases e
 ·obtain⟨o,e⟩:=r.ra p z; rw[h]at e; cases e
 ·by_cases q:p∈C.fx
  ·exact .inl q
  ·refine .inr ?_
   cases e:C.H0 p with
   | none=>rfl
   | some o=>rw[r.frame p o e q]at h; cases h
theorem Rep.newl{p:Addr}{vs:List V}{ts:List T}(r:Rep K C w Γ σ H)(h:H p=none)(hi:Ims K H vs ts):SOk K C w σ (upd H p (.lst vs)) (.ref p) (.l ts):=by
 obtain⟨a,b,c⟩:=r.fresh h
 exact⟨p,vs,rfl,a,b,c,zAg,hi.evo (Evo.new h) r.lst⟩
theorem Rep.newt{p:Addr}{vs:List V}{ts:List T}(r:Rep K C w Γ σ H)(h:H p=none)(hi:Ims K H vs ts):SOk K C w σ (upd H p (.tup vs)) (.ref p) (.v (.t ts)):=by
 exact Im.tup zAg (hi.evo (L:=w.L) (Evo.new h) r.lst)
theorem Rep.put3{i:Nat}{p:Addr}{g0 g1:G}{ob:HO}(r:Rep K C w Γ σ H)(m0:isMut g0=true)(m1:isMut g1=true)(hpin:∀ xs,g0=.l xs->∃ ys,g1=.l ys)(hi:Γ[i]?=some (some g0))(hp:σ[i]?=some (some (.ref p)))(ev1:Evo [p] H H')(hp':H' p=some ob)(mb:Mu ob)(hq:p∈w.L)(hu:GOk K w H' (.ref p) g1) :
  Rep K C w (Γ.set i (some g1)) σ H'/\Evo w.L H H':=by
 have hiΓ:i < Γ.length:=(List.getElem?_eq_some_iff.mp hi).1
 have ev:Evo w.L H H':=ev1.wide fun q hq'=>List.mem_singleton.mp hq' ▸ hq
 have ne:∀ {c:Addr} {o:HO},c≠p->H c=some o->H' c=some o:=fun n e=>ev1 _ _ e fun z=>n (List.mem_singleton.mp z)
 refine⟨⟨by simpa using r.len,fun j g h=>?_,fun j k c g g' mg mg' h1 h2 h3 h4=>?_,fun c hc=>?_,r.own,fun c hc=>?_,r.rl,fun b o h n=>?_,fun c hc=>?_⟩,ev⟩
 ·by_cases hj:j=i
  ·subst hj
   rw[List.getElem?_set_self hiΓ]at h
   cases h
   exact⟨_,hp,hu⟩
  ·rw[List.getElem?_set_ne (Ne.symm hj)]at h
   obtain⟨v,e1,e2⟩:=r.val j g h
   refine⟨v,e1,?_⟩
   cases g with
   | l zs =>
    obtain⟨c,vs',rfl,hc,h1,h2⟩:=e2
    have:c≠p:=fun z=>hj (r.apart j i p _ _ rfl m0 h hi (z ▸ e1) hp)
    exact⟨c,vs',rfl,hc,ne this h1,h2.evo ev r.lst⟩
   | d zs =>
    obtain⟨c,vs',rfl,hc,h1,h2⟩:=e2
    have:c≠p:=fun z=>hj (r.apart j i p _ _ rfl m0 h hi (z ▸ e1) hp)
    exact⟨c,vs',rfl,hc,ne this h1,h2.evo ev r.lst⟩
   | v t=>exact GOk.evo ev r.lst rfl e2
   | r zs=>exact GOk.evo ev r.lst rfl e2
   | k zs=>exact GOk.evo ev r.lst rfl e2
   | e zs=>exact GOk.evo ev r.lst rfl e2
 ·have back:∀ (m:Nat) (g:G),isMut g=true->(Γ.set i (some g1))[m]?=some (some g)->∃ g',isMut g'=true/\Γ[m]?=some (some g'):=fun m g mg h=>by
   by_cases hm:m=i
   ·subst hm; exact⟨g0,m0,hi⟩
   ·rw[List.getElem?_set_ne (Ne.symm hm)]at h; exact⟨g,mg,h⟩
  obtain⟨z1,y1,g1⟩:=back j g mg h1
  obtain⟨z2,y2,g2⟩:=back k g' mg' h2
  exact r.apart j k c z1 z2 y1 y2 g1 g2 h3 h4
 ·by_cases hcp:c=p
  ·subst hcp; exact⟨ob,hp',mb⟩
  ·obtain⟨o,e,m⟩:=r.lst c hc; exact⟨o,ne hcp e,m⟩
 ·have:c≠p:=fun z=>r.rl c hc (z ▸ hq)
  obtain⟨o,e⟩:=r.ra c hc
  exact⟨o,ne this e⟩
 ·by_cases hb:b=p
  ·subst hb
   rcases r.own b hq with z | z
   ·exact absurd z n
   ·rw[z]at h; cases h
  ·exact ne hb (r.frame b o h n)
 ·obtain⟨h1,zs,h2⟩:=r.pin c hc
  refine⟨h1,?_⟩
  by_cases hm:c.1=i
  ·rw[hm,hi]at h2
   cases h2
   obtain⟨ys,e⟩:=hpin zs rfl
   exact⟨ys,by rw[hm,List.getElem?_set_self hiΓ,e]⟩
  ·exact⟨zs,by rw[List.getElem?_set_ne (Ne.symm hm)]; exact h2⟩
theorem Rep.put2{i:Nat}{p:Addr}{xs ys:List T}{us:List V}(r:Rep K C w Γ σ H)(hi:Γ[i]?=some (some (.l xs)))(hp:σ[i]?=some (some (.ref p)))(ev1:Evo [p] H H')(hp':H' p=some (.lst us))(hu:Ims K H' us ys) :
  Rep K C w (Γ.set i (some (.l ys))) σ H'/\Evo w.L H H':=by
 obtain⟨v,e1,q,vs,rfl,hq,hv,_⟩:=r.val i _ hi
 rw[hp]at e1; cases e1
 exact r.put3 rfl rfl (fun _ _=>⟨ys,rfl⟩) hi hp ev1 hp' trivial hq ⟨p,us,rfl,hq,hp',hu⟩
theorem Rep.put{i:Nat}{p:Addr}{xs ys:List T}{us:List V}(r:Rep K C w Γ σ H)(hi:Γ[i]?=some (some (.l xs)))(hp:σ[i]?=some (some (.ref p)))(hu:Ims K H us ys) :
  Rep K C w (Γ.set i (some (.l ys))) σ (upd H p (.lst us))/\Evo w.L H (upd H p (.lst us)):=by
 obtain⟨v,e1,q,vs,rfl,hq,hv,_⟩:=r.val i _ hi
 rw[hp]at e1; cases e1
 have ev1:Evo [p] H (upd H p (.lst us)):=fun b o e n=>by rw[zAK (show b≠p from fun z=>n (List.mem_singleton.mpr z))]; exact e
 exact r.put2 hi hp ev1 zAg (hu.evo (ev1.wide fun q hq'=>List.mem_singleton.mp hq' ▸ hq) r.lst)
theorem Rep.temp{p:Addr}(r:Rep K C w Γ σ H)(n1:p∉w.L)(n2:¬ w.R p)(ow:Ow C p)(hl:∃ o,H p=some o/\Mu o)(ev1:Evo [p] H H'):Rep K C w Γ σ H':=by
 have ne:∀ {c:Addr} {o:HO},c≠p->H c=some o->H' c=some o:=fun n e=>ev1 _ _ e fun z=>n (List.mem_singleton.mp z)
 have hL:LL [p] H:=fun q hq=>by rw[List.mem_singleton.mp hq]; exact hl
 refine⟨r.len,fun j g h=>?_,r.apart,fun c hc=>?_,r.own,fun c hc=>?_,r.rl,fun b o h n=>?_,r.pin⟩
 ·obtain⟨v,e1,e2⟩:=r.val j g h
  refine⟨v,e1,?_⟩
  cases g with
  | v t=>exact Im.evo ev1 hL e2
  | l zs =>
   obtain⟨c,vs',rfl,hc,h1,h2⟩:=e2
   exact⟨c,vs',rfl,hc,ne (fun z=>n1 (z ▸ hc)) h1,h2.evo ev1 hL⟩
  | r zs =>
   obtain⟨c,vs',rfl,h1,h2⟩:=e2
   exact⟨c,vs',rfl,h1.evo ev1 hL,ne (fun z=>n2 (z ▸ h2.2.2)) h2.1,h2.2⟩
  | k zs =>
   obtain⟨c,vs',rfl,h1,h2⟩:=e2
   exact⟨c,vs',rfl,h1.evo ev1 hL,h2.evo ev1 hL⟩
  | d zs =>
   obtain⟨c,vs',rfl,hc,h1,h2⟩:=e2
   exact⟨c,vs',rfl,hc,ne (fun z=>n1 (z ▸ hc)) h1,h2.evo ev1 hL⟩
  | e zs =>
   obtain⟨c,vs',rfl,h1,h2⟩:=e2
   exact⟨c,vs',rfl,h1.evo ev1 hL,ne (fun z=>n2 (z ▸ h2.2.2)) h2.1,h2.2⟩
 ·obtain⟨o,e,m⟩:=r.lst c hc; exact⟨o,ne (fun z=>n1 (z ▸ hc)) e,m⟩
 ·obtain⟨o,e⟩:=r.ra c hc; exact⟨o,ne (fun z=>n2 (z ▸ hc)) e⟩
 ·by_cases hb:b=p
  ·subst hb
   rcases ow with z | z
   ·exact absurd z n
   ·rw[z]at h; cases h
  ·exact ne hb (r.frame b o h n)
theorem Rep.setv{i:Nat}{v:V}{g:G}(r:Rep K C w Γ σ H)(hg:isMut g=false)(h:GOk K w H v g)(hn:∀ q∈C.pins,q.1≠i):Rep K C w (Γ.set i (some g)) (σ.set i (some v)) H where
 len:=by simpa using r.len
 val:=fun j g' hj=>by
  by_cases hji:j=i
  ·subst hji
   have hjl:j < Γ.length:=by
    rcases Nat.lt_or_ge j Γ.length with z | z
    ·exact z
    ·rw[List.getElem?_eq_none (by simpa using z)]at hj; cases hj
   rw[List.getElem?_set_self hjl]at hj
   cases hj
   exact⟨v,by rw[List.getElem?_set_self (by rw[r.len]; exact hjl)],h⟩
  ·rw[List.getElem?_set_ne (Ne.symm hji)]at hj
   rw[List.getElem?_set_ne (Ne.symm hji)]
   exact r.val j g' hj
 apart:=fun j k p ga gb ma mb h1 h2 h3 h4=>by
  have ne:∀ (m:Nat) (gc:G),isMut gc=true->(Γ.set i (some g))[m]?=some (some gc)->m≠i/\Γ[m]?=some (some gc):=fun m gc mc hm=>by
   by_cases e:m=i
   ·subst e
    rcases Nat.lt_or_ge m Γ.length with z | z
    ·rw[List.getElem?_set_self z]at hm; cases hm; rw[hg]at mc; cases mc
    ·rw[List.getElem?_eq_none (by simpa using z)]at hm; cases hm
   ·rw[List.getElem?_set_ne (Ne.symm e)]at hm; exact⟨e,hm⟩
  obtain⟨n1,g1⟩:=ne j ga ma h1
  obtain⟨n2,g2⟩:=ne k gb mb h2
  rw[List.getElem?_set_ne (Ne.symm n1)]at h3
  rw[List.getElem?_set_ne (Ne.symm n2)]at h4
  exact r.apart j k p ga gb ma mb g1 g2 h3 h4
 lst:=r.lst
 own:=r.own
 ra:=r.ra
 rl:=r.rl
 frame:=r.frame
 pin:=fun q hq=>by
  obtain⟨h1,xs,h2⟩:=r.pin q hq
  have:=hn q hq
  exact⟨by rw[List.getElem?_set_ne (Ne.symm this)]; exact h1,xs,by rw[List.getElem?_set_ne (Ne.symm this)]; exact h2⟩
theorem Rep.setm{i:Nat}{p:Addr}{ob:HO}{g:G}(r:Rep K C w Γ σ H)(mg:isMut g=true)(n1:p∉w.L)(n2:¬ w.R p)(ow:Ow C p)(hp:H p=some ob)(mb:Mu ob)(hv:GOk K ⟨p::w.L,w.R⟩ H (.ref p) g)(hn:∀ q∈C.pins,q.1≠i) :
  Rep K C ⟨p::w.L,w.R⟩ (Γ.set i (some g)) (σ.set i (some (.ref p))) H where
 len:=by simpa using r.len
 val:=fun j g' hj=>by
  by_cases hji:j=i
  ·subst hji
   have hjl:j < Γ.length:=by
    rcases Nat.lt_or_ge j Γ.length with z | z
    ·exact z
    ·rw[List.getElem?_eq_none (by simpa using z)]at hj; cases hj
   rw[List.getElem?_set_self hjl]at hj
   cases hj
   exact⟨_,by rw[List.getElem?_set_self (by rw[r.len]; exact hjl)],hv⟩
  ·rw[List.getElem?_set_ne (Ne.symm hji)]at hj
   rw[List.getElem?_set_ne (Ne.symm hji)]
   obtain⟨v,e1,e2⟩:=r.val j g' hj
   refine⟨v,e1,?_⟩
   cases g' with
   | v t=>exact e2
   | l ys=>obtain⟨c,us,rfl,hc,h1,h2⟩:=e2; exact⟨c,us,rfl,List.mem_cons_of_mem _ hc,h1,h2⟩
   | d ys=>obtain⟨c,us,rfl,hc,h1,h2⟩:=e2; exact⟨c,us,rfl,List.mem_cons_of_mem _ hc,h1,h2⟩
   | r ys =>
    obtain⟨c,us,rfl,hi,h⟩:=e2
    refine⟨c,us,rfl,hi,h.1,fun z=>?_,h.2.2⟩
    rcases List.mem_cons.mp z with z | z
    ·exact n2 (z ▸ h.2.2)
    ·exact h.2.1 z
   | e ys =>
    obtain⟨c,us,rfl,hi,h⟩:=e2
    refine⟨c,us,rfl,hi,h.1,fun z=>?_,h.2.2⟩
    rcases List.mem_cons.mp z with z | z
    ·exact n2 (z ▸ h.2.2)
    ·exact h.2.1 z
   | k ys=>exact e2
 apart:=fun j k c ga gb ma mb' h1 h2 h3 h4=>by
  have ne:∀ (m:Nat) (gc:G),isMut gc=true->m≠i->(Γ.set i (some g))[m]?=some (some gc)->(σ.set i (some (.ref p)))[m]?=some (some (.ref c))->Γ[m]?=some (some gc)/\σ[m]?=some (some (.ref c))/\c≠p:=fun m gc mc e h h'=>by
   rw[List.getElem?_set_ne (Ne.symm e)]at h
   rw[List.getElem?_set_ne (Ne.symm e)]at h'
   refine⟨h,h',fun z=>?_⟩
   obtain⟨v,e1,hg⟩:=r.val m _ h
   obtain⟨q,rfl,hq⟩:=hg.own mc
   rw[h']at e1; cases e1
   exact n1 (z ▸ hq)
  have at_i:∀ (m:Nat),m=i->(σ.set i (some (.ref p)))[m]?=some (some (.ref c))->c=p:=fun m e h=>by
   subst e
   rcases Nat.lt_or_ge m σ.length with z | z
   ·rw[List.getElem?_set_self z]at h; cases h; rfl
   ·rw[List.getElem?_eq_none (by simpa using z)]at h; cases h
  by_cases e1:j=i
  ·by_cases e2:k=i
   ·rw[e1,e2]
   ·obtain⟨_,_,n⟩:=ne k gb mb' e2 h2 h4
    exact absurd (at_i j e1 h3) n
  ·obtain⟨g1,s1,n⟩:=ne j ga ma e1 h1 h3
   by_cases e2:k=i
   ·exact absurd (at_i k e2 h4) n
   ·obtain⟨g2,s2,_⟩:=ne k gb mb' e2 h2 h4
    exact r.apart j k c ga gb ma mb' g1 g2 s1 s2
 lst:=fun c hc=>by
  rcases List.mem_cons.mp hc with e | e
  ·subst e; exact⟨ob,hp,mb⟩
  ·exact r.lst c e
 own:=fun c hc=>by
  rcases List.mem_cons.mp hc with e | e
  ·subst e; exact ow
  ·exact r.own c e
 ra:=r.ra
 rl:=fun c hc z=>by
  rcases List.mem_cons.mp z with e | e
  ·subst e; exact n2 hc
  ·exact r.rl c hc e
 frame:=r.frame
 pin:=fun q hq=>by
  obtain⟨h1,xs',h2⟩:=r.pin q hq
  have:=hn q hq
  exact⟨by rw[List.getElem?_set_ne (Ne.symm this)]; exact h1,xs',by rw[List.getElem?_set_ne (Ne.symm this)]; exact h2⟩
theorem Rep.setl{i:Nat}{p:Addr}{vs:List V}{xs:List T}(r:Rep K C w Γ σ H)(n1:p∉w.L)(n2:¬ w.R p)(ow:Ow C p)(hp:H p=some (.lst vs))(hv:Ims K H vs xs)(hn:∀ q∈C.pins,q.1≠i) :
  Rep K C ⟨p::w.L,w.R⟩ (Γ.set i (some (.l xs))) (σ.set i (some (.ref p))) H :=
 r.setm rfl n1 n2 ow hp trivial ⟨p,vs,rfl,List.mem_cons_self,hp,hv⟩ hn
theorem Rep.setd{i:Nat}{p:Addr}{ob:HO}{kvs:Dk}(r:Rep K C w Γ σ H)(n1:p∉w.L)(n2:¬ w.R p)(ow:Ow C p)(hp:H p=some ob)(hv:DOk K H ob kvs)(hn:∀ q∈C.pins,q.1≠i) :
  Rep K C ⟨p::w.L,w.R⟩ (Γ.set i (some (.d kvs))) (σ.set i (some (.ref p))) H :=
 r.setm rfl n1 n2 ow hp hv.mu ⟨p,ob,rfl,List.mem_cons_self,hp,hv⟩ hn
theorem Rep.newd{p:Addr}{ob:HO}{kvs:Dk}(r:Rep K C w Γ σ H)(h:H p=none)(hi:DOk K H ob kvs):SOk K C w σ (upd H p ob) (.ref p) (.d kvs):=by
 obtain⟨a,b,c⟩:=r.fresh h
 exact⟨p,ob,rfl,a,b,c,zAg,hi.evo (Evo.new h) r.lst⟩
end
def SOks(K:Fg)(C:Fr)(w:W)(σ:St)(H:Hp):List V->List S->Prop
 | [],[]=>True
 | v::vs,s::ss=>SOk K C w σ H v s/\SOks K C w σ H vs ss
 | _,_=>False
def Nw(H:Hp)(v:V):S->Prop
 | .l _=>∃ p,v=.ref p/\H p=none
 | .d _=>∃ p,v=.ref p/\H p=none
 | _=>True
def Nws(H:Hp):List V->List S->Prop
 | v::vs,s::ss=>Nw H v s/\Nws H vs ss
 | _,_=>True
theorem zAz{L:List Addr}{H H':Hp}{p:Addr}(e:Evo L H H')(hL:LL L H')(h:H' p=none):H p=none:=by
 cases q:H p with
 | none=>rfl
 | some o =>
  by_cases z:p∈L
  ·obtain⟨vs,u,_⟩:=hL p z; rw[h]at u; cases u
  ·rw[e p o q z]at h; cases h
theorem Nw.back{L:List Addr}{H H':Hp}{v:V}{s:S}(n:Nw H' v s)(e:Evo L H H')(hL:LL L H'):Nw H v s:=by
 cases s with
 | l xs=>obtain⟨p,a,b⟩:=n; exact⟨p,a,zAz e hL b⟩
 | d xs=>obtain⟨p,a,b⟩:=n; exact⟨p,a,zAz e hL b⟩
 | v t=>trivial
 | s i=>trivial
theorem Nws.back{L:List Addr}{H H':Hp}(e:Evo L H H')(hL:LL L H'):∀ {vs:List V} {ss:List S},Nws H' vs ss->Nws H vs ss
 | [],[],_=>trivial
 | [],_::_,_=>trivial
 | _::_,[],_=>trivial
 | _::_,_::_,h=>⟨h.1.back e hL,Nws.back e hL h.2⟩
theorem Nws.get{H:Hp}:∀ {vs:List V} {ss:List S} {k:Nat} {v:V} {s:S},Nws H vs ss->vs[k]?=some v->ss[k]?=some s->Nw H v s
 | [],_,_,_,_,_,e,_=>by simp at e
 | _::_,[],_,_,_,_,_,e=>by simp at e
 | _::_,_::_,0,_,_,h,e,e'=>by simp at e e'; subst e e'; exact h.1
 | _::_,_::_,k+1,_,_,h,e,e'=>Nws.get (k:=k) h.2 (by simpa using e) (by simpa using e')
def SimE(K:Fg)(te:TE)(f:DE):Prop:=∀ (C:Fr) (w:W) (Γ:En) (σ:St) (H:Hp) (s:S) (Γ':En) (Q:VK),Rep K C w Γ σ H->f Γ=some (s,Γ') ->
 (∀ v H',Rep K C w Γ' σ H'->Evo w.L H H'->SOk K C w σ H' v s->Nw H v s->Q v H')->te σ H Q
def SimT(K:Fg)(tt:TT)(f:DT):Prop:=∀ (C:Fr) (w:W) (Γ:En) (σ:St) (H:Hp) (b:Bool) (Γ':En) (Q:Bool->Hp->Prop),Rep K C w Γ σ H->f Γ=some (b,Γ') ->
 (∀ H',Rep K C w Γ' σ H'->Evo w.L H H'->Q b H')->tt σ H Q
def SimA(K:Fg)(ta:TA)(f:DA):Prop:=∀ (C:Fr) (w:W) (Γ:En) (σ:St) (H:Hp) (ss:List S) (Γ':En) (Q:List V->Hp->Prop),Rep K C w Γ σ H->f Γ=some (ss,Γ') ->
 (∀ vs H',Rep K C w Γ' σ H'->Evo w.L H H'->SOks K C w σ H' vs ss->Nws H vs ss->Q vs H')->ta σ H Q
def OkO(K:Fg)(C:Fr)(D:Ends):O->Prop
 | .nx Γ=>∀ w σ H,Rep K C w Γ σ H->D.nx σ H
 | .rt s Γ=>∀ w σ H v,Rep K C w Γ σ H->SOk K C w σ H v s->D.rt v H
 | .bk Γ=>∀ w σ H,Rep K C w Γ σ H->D.bk σ H
 | .ct Γ=>∀ w σ H,Rep K C w Γ σ H->D.ct σ H
def SimS(K:Fg)(ip:Option Nat)(ts:TS)(g:DS):Prop:=∀ (C:Fr) (w:W) (Γ:En) (σ:St) (H:Hp) (D:Ends) (o:O),C.pins.map (·.1)=ip.toList->Rep K C w Γ σ H->g Γ=some o->OkO K C D o->ts D σ H
def SimR2(K:Fg)(r:R2)(h:En->S->S->Option S):Prop:=∀ (C:Fr) (w:W) (Γ:En) (σ:St) (H:Hp) (x y:V) (a b s:S) (Q:VK),Rep K C w Γ σ H->SOk K C w σ H x a->SOk K C w σ H y b->h Γ a b=some s ->
 (∀ v H',Rep K C w Γ σ H'->Evo w.L H H'->SOk K C w σ H' v s->Nw H v s->Q v H')->r x y H Q
def SimR1(K:Fg)(r:V->Hp->VK->Prop)(h:En->S->Option S):Prop:=∀ (C:Fr) (w:W) (Γ:En) (σ:St) (H:Hp) (x:V) (a s:S) (Q:VK),Rep K C w Γ σ H->SOk K C w σ H x a->h Γ a=some s ->
 (∀ v H',Rep K C w Γ σ H'->Evo w.L H H'->SOk K C w σ H' v s->Nw H v s->Q v H')->r x H Q
def SimRs(K:Fg)(r:List V->Hp->VK->Prop)(h:En->List S->Option S):Prop:=∀ (C:Fr) (w:W) (Γ:En) (σ:St) (H:Hp) (xs:List V) (as:List S) (s:S) (Q:VK),Rep K C w Γ σ H->SOks K C w σ H xs as->h Γ as=some s ->
 (∀ v H',Rep K C w Γ σ H'->Evo w.L H H'->SOk K C w σ H' v s->Nw H v s->Q v H')->r xs H Q
def jV(i:Nat):DE:=fun Γ=>match Γ[i]? with
 | some (some (.v t))=>some (.v t,Γ)
 | some (some (.l _))=>some (.s i,Γ)
 | some (some (.r _))=>some (.s i,Γ)
 | some (some (.k _))=>some (.s i,Γ)
 | some (some (.d _))=>some (.s i,Γ)
 | some (some (.e _))=>some (.s i,Γ)
 | _=>none
def dC(v:V):DE:=fun Γ=>some (.v (.a v),Γ)
def dOp(h:En->S->S->Option S)(fa fb:DE):DE:=fun Γ=>(fa Γ).bind fun p=>(fb p.2).bind fun q=>(h q.2 p.1 q.1).map fun s=>(s,q.2)
def dUn(h:En->S->Option S)(fa:DE):DE:=fun Γ=>(fa Γ).bind fun p=>(h p.2 p.1).map fun s=>(s,p.2)
def dCB(h:En->List S->Option S)(fa:DA):DE:=fun Γ=>(fa Γ).bind fun p=>(h p.2 p.1).map fun s=>(s,p.2)
def qQ:DA:=fun Γ=>some ([],Γ)
def jW(fa:DE)(fr:DA):DA:=fun Γ=>(fa Γ).bind fun p=>(fr p.2).bind fun q=>some (p.1::q.1,q.2)
def S.tree:S->Option T
 | .v t=>some t
 | _=>none
def trees:List S->Option (List T)
 | []=>some []
 | s::r=>s.tree.bind fun t=>(trees r).map fun ts=>t::ts
def gd{α:Type}(n:Nat)(x:α):Option α:=if n<=sizeLine then some x else none
theorem zBP{α:Type}{n:Nat}{x y:α}(h:gd n x=some y):n<=sizeLine/\x=y:=by
 unfold gd at h; split at h
 ·exact⟨by assumption,Option.some.inj h⟩
 ·cases h
def dTup(fa:DA):DE:=fun Γ=>(fa Γ).bind fun p=>(trees p.1).bind fun ts=>gd ts.length (.v (.t ts),p.2)
def dLst(fa:DA):DE:=fun Γ=>(fa Γ).bind fun p=>(trees p.1).bind fun ts=>gd ts.length (.l ts,p.2)
def dTest(f:DE):DT:=fun Γ=>(f Γ).bind fun p=>match p.1 with
 | .v (.a (.bl b))=>some (b,p.2)
 | _=>none
def dAnd(f g:DT):DT:=fun Γ=>(f Γ).bind fun p=>if p.1=true then g p.2 else some (false,p.2)
def dOr(f g:DT):DT:=fun Γ=>(f Γ).bind fun p=>if p.1=true then some (true,p.2) else g p.2
def dNot(f:DT):DT:=fun Γ=>(f Γ).bind fun p=>some (!p.1,p.2)
def dAndV(f g:DE):DE:=fun Γ=>(dTest f Γ).bind fun p=>if p.1=true then g p.2 else some (.v (.a (.bl false)),p.2)
def dOrV(f g:DE):DE:=fun Γ=>(dTest f Γ).bind fun p=>if p.1=true then some (.v (.a (.bl true)),p.2) else g p.2
def dNotV(f:DE):DE:=fun Γ=>(dTest f Γ).bind fun p=>some (.v (.a (.bl !p.1)),p.2)
def dIfE(c:DT)(f g:DE):DE:=fun Γ=>(c Γ).bind fun p=>if p.1=true then f p.2 else g p.2
section
variable {K:Fg}{ip:Option Nat}
theorem bind_some{α β:Type}{x:Option α}{f:α->Option β}{y:β}(h:x.bind f=some y):∃ a,x=some a/\f a=some y:=by
 cases x with
 | none=>cases h
 | some a=>exact⟨a,rfl,h⟩
theorem zAH{α β:Type}{x:Option α}{f:α->β}{y:β}(h:x.map f=some y):∃ a,x=some a/\f a=y:=by
 cases x with
 | none=>cases h
 | some a=>exact⟨a,rfl,Option.some.inj h⟩
theorem zMP{i:Nat}:SimE K (tVar i) (jV i):=by
 intro C w Γ σ H s Γ' Q R h k
 unfold jV at h
 split at h
 ·rename_i t e
  cases h
  obtain⟨v,e1,e2⟩:=R.val i _ e
  exact⟨v,e1,k v H R .refl e2 trivial⟩
 ·rename_i xs e
  cases h
  obtain⟨v,e1,e2⟩:=R.val i _ e
  exact⟨v,e1,k v H R .refl e1 trivial⟩
 ·rename_i xs e
  cases h
  obtain⟨v,e1,e2⟩:=R.val i _ e
  exact⟨v,e1,k v H R .refl e1 trivial⟩
 ·rename_i xs e
  cases h
  obtain⟨v,e1,e2⟩:=R.val i _ e
  exact⟨v,e1,k v H R .refl e1 trivial⟩
 ·rename_i xs e
  cases h
  obtain⟨v,e1,e2⟩:=R.val i _ e
  exact⟨v,e1,k v H R .refl e1 trivial⟩
 ·rename_i xs e
  cases h
  obtain⟨v,e1,e2⟩:=R.val i _ e
  exact⟨v,e1,k v H R .refl e1 trivial⟩
 ·cases h
theorem zDw{v:V}:SimE K (tC v) (dC v):=by
 intro C w Γ σ H s Γ' Q R h k
 cases h
 exact k v H R .refl SOk.atom trivial
theorem zC9{r:R2}{h:En->S->S->Option S}{ta tb:TE}{fa fb:DE}(hr:SimR2 K r h)(ha:SimE K ta fa)(hb:SimE K tb fb):SimE K (tOp r ta tb) (dOp h fa fb):=by
 intro C w Γ σ H s Γ' Q R e k
 obtain⟨p,e1,e⟩:=bind_some e
 obtain⟨q,e2,e⟩:=bind_some e
 obtain⟨z,e3,e⟩:=zAH e
 cases e
 refine ha C w Γ σ H p.1 p.2 _ R e1 fun v1 H1 R1 ev1 o1 n1=>?_
 refine hb C w p.2 σ H1 q.1 q.2 _ R1 e2 fun v2 H2 R2 ev2 o2 n2=>?_
 exact hr C w q.2 σ H2 v1 v2 _ _ _ Q R2 (o1.evo ev2 R1.lst) o2 e3 fun v H3 R3 ev3 o3 n3=>k v H3 R3 ((ev1.trans ev2).trans ev3) o3 (n3.back (ev1.trans ev2) R2.lst)
theorem zOD{r:V->Hp->VK->Prop}{h:En->S->Option S}{ta:TE}{fa:DE}(hr:SimR1 K r h)(ha:SimE K ta fa):SimE K (tUn r ta) (dUn h fa):=by
 intro C w Γ σ H s Γ' Q R e k
 obtain⟨p,e1,e⟩:=bind_some e
 obtain⟨z,e3,e⟩:=zAH e
 cases e
 refine ha C w Γ σ H p.1 p.2 _ R e1 fun v1 H1 R1 ev1 o1 n1=>?_
 exact hr C w p.2 σ H1 v1 _ _ Q R1 o1 e3 fun v H3 R3 ev3 o3 n3=>k v H3 R3 (ev1.trans ev3) o3 (n3.back ev1 R1.lst)
theorem zJz{r:List V->Hp->VK->Prop}{h:En->List S->Option S}{ta:TA}{fa:DA}(hr:SimRs K r h)(ha:SimA K ta fa):SimE K (tCB r ta) (dCB h fa):=by
 intro C w Γ σ H s Γ' Q R e k
 obtain⟨p,e1,e⟩:=bind_some e
 obtain⟨z,e3,e⟩:=zAH e
 cases e
 refine ha C w Γ σ H p.1 p.2 _ R e1 fun v1 H1 R1 ev1 o1 n1=>?_
 exact hr C w p.2 σ H1 v1 _ _ Q R1 o1 e3 fun v H3 R3 ev3 o3 n3=>k v H3 R3 (ev1.trans ev3) o3 (n3.back ev1 R1.lst)
theorem zHF:SimA K tNil qQ:=by
 intro C w Γ σ H s Γ' Q R e k
 cases e
 exact k [] H R .refl trivial trivial
theorem zLY{ta:TE}{tr:TA}{fa:DE}{fr:DA}(ha:SimE K ta fa)(hr:SimA K tr fr):SimA K (tCons ta tr) (jW fa fr):=by
 intro C w Γ σ H s Γ' Q R e k
 obtain⟨p,e1,e⟩:=bind_some e
 obtain⟨q,e2,e⟩:=bind_some e
 cases e
 refine ha C w Γ σ H p.1 p.2 _ R e1 fun v1 H1 R1 ev1 o1 n1=>?_
 exact hr C w p.2 σ H1 q.1 q.2 _ R1 e2 fun vs H2 R2 ev2 o2 n2=>k (v1::vs) H2 R2 (ev1.trans ev2) ⟨o1.evo ev2 R1.lst,o2⟩ ⟨n1,n2.back ev1 R1.lst⟩
theorem zCk{C:Fr}{w:W}{σ:St}{H:Hp}:∀ {vs:List V} {ss:List S} {ts:List T},SOks K C w σ H vs ss->trees ss=some ts->Ims K H vs ts
 | [],[],_,_,e=>by cases e; exact .nil
 | v::vs,s::ss,_,h,e=>by
  obtain⟨t,e1,e⟩:=bind_some e
  obtain⟨ts,e2,e⟩:=zAH e
  cases e
  cases s with
  | v t'=>cases e1; exact .cons h.1 (zCk h.2 e2)
  | l _=>cases e1
  | s _=>cases e1
  | d _=>cases e1
 | [],_::_,_,h,_=>h.elim
 | _::_,[],_,h,_=>h.elim
theorem zMH{ta:TA}{fa:DA}(ha:SimA K ta fa):SimE K (tTup ta) (dTup fa):=by
 intro C w Γ σ H s Γ' Q R e k
 obtain⟨p,e1,e⟩:=bind_some e
 obtain⟨ts,e2,e⟩:=bind_some e
 obtain⟨hn,e⟩:=zBP e
 cases e
 refine ha C w Γ σ H p.1 p.2 _ R e1 fun vs H1 R1 ev1 o1 _=>?_
 have hi:=zCk o1 e2
 exact⟨by rw[hi.len]; exact hn,fun q hq=>k _ _ (R1.new hq) (ev1.trans (Evo.new hq)) (R1.newt hq hi) trivial⟩
theorem zL4{ta:TA}{fa:DA}(ha:SimA K ta fa):SimE K (tLst ta) (dLst fa):=by
 intro C w Γ σ H s Γ' Q R e k
 obtain⟨p,e1,e⟩:=bind_some e
 obtain⟨ts,e2,e⟩:=bind_some e
 obtain⟨hn,e⟩:=zBP e
 cases e
 refine ha C w Γ σ H p.1 p.2 _ R e1 fun vs H1 R1 ev1 o1 _=>?_
 have hi:=zCk o1 e2
 exact⟨by rw[hi.len]; exact hn,fun q hq=>k _ _ (R1.new hq) (ev1.trans (Evo.new hq)) (R1.newl hq hi) ⟨_,rfl,zAz ev1 R1.lst hq⟩⟩
theorem zCF{ta:TE}{fa:DE}(ha:SimE K ta fa):SimT K (tTest ta) (dTest fa):=by
 intro C w Γ σ H s Γ' Q R e k
 obtain⟨p,e1,e⟩:=bind_some e
 obtain⟨p1,p2⟩:=p
 dsimp only at e
 split at e
 ·cases e
  refine ha C w Γ σ H _ _ _ R e1 fun v H1 R1 ev1 o1 _=>?_
  exact⟨_,SOk.inva o1,k H1 R1 ev1⟩
 ·cases e
theorem zNW{ta tb:TT}{fa fb:DT}(ha:SimT K ta fa)(hb:SimT K tb fb):SimT K (tAnd ta tb) (dAnd fa fb):=by
 intro C w Γ σ H s Γ' Q R e k
 obtain⟨⟨p,G1⟩,e1,e⟩:=bind_some e
 refine ha C w Γ σ H p G1 _ R e1 fun H1 R1 ev1=>?_
 cases p with
 | true=>exact (if_pos rfl).mpr (hb C w G1 σ H1 s Γ' Q R1 (by simpa using e) fun H2 R2 ev2=>k H2 R2 (ev1.trans ev2))
 | false =>
  have e':(false,G1)=(s,Γ'):=by simpa using e
  cases e'
  exact (if_neg Bool.false_ne_true).mpr (k H1 R1 ev1)
theorem zOg{ta tb:TT}{fa fb:DT}(ha:SimT K ta fa)(hb:SimT K tb fb):SimT K (tOr ta tb) (dOr fa fb):=by
 intro C w Γ σ H s Γ' Q R e k
 obtain⟨⟨p,G1⟩,e1,e⟩:=bind_some e
 refine ha C w Γ σ H p G1 _ R e1 fun H1 R1 ev1=>?_
 cases p with
 | false=>exact (if_neg Bool.false_ne_true).mpr (hb C w G1 σ H1 s Γ' Q R1 (by simpa using e) fun H2 R2 ev2=>k H2 R2 (ev1.trans ev2))
 | true =>
  have e':(true,G1)=(s,Γ'):=by simpa using e
  cases e'
  exact (if_pos rfl).mpr (k H1 R1 ev1)
theorem zL3{ta:TT}{fa:DT}(ha:SimT K ta fa):SimT K (tNot ta) (dNot fa):=by
 intro C w Γ σ H s Γ' Q R e k
 obtain⟨p,e1,e⟩:=bind_some e
 cases e
 exact ha C w Γ σ H p.1 p.2 _ R e1 fun H1 R1 ev1=>k H1 R1 ev1
theorem zK1{ta tb:TE}{fa fb:DE}(ha:SimE K ta fa)(hb:SimE K tb fb):SimE K (tAndV ta tb) (dAndV fa fb):=by
 intro C w Γ σ H s Γ' Q R e k
 obtain⟨⟨p,G1⟩,e1,e⟩:=bind_some e
 refine (zCF ha) C w Γ σ H p G1 (fun c H1=>if c=true then tb σ H1 Q else Q (.bl false) H1) R e1 fun H1 R1 ev1=>?_
 cases p with
 | true=>exact (if_pos rfl).mpr (hb C w G1 σ H1 s Γ' Q R1 (by simpa using e) fun v H2 R2 ev2 o n=>k v H2 R2 (ev1.trans ev2) o (n.back ev1 R1.lst))
 | false =>
  have e':(S.v (.a (.bl false)),G1)=(s,Γ'):=by simpa using e
  cases e'
  exact (if_neg Bool.false_ne_true).mpr (k _ H1 R1 ev1 SOk.atom trivial)
theorem zNU{ta tb:TE}{fa fb:DE}(ha:SimE K ta fa)(hb:SimE K tb fb):SimE K (tOrV ta tb) (dOrV fa fb):=by
 intro C w Γ σ H s Γ' Q R e k
 obtain⟨⟨p,G1⟩,e1,e⟩:=bind_some e
 refine (zCF ha) C w Γ σ H p G1 (fun c H1=>if c=true then Q (.bl true) H1 else tb σ H1 Q) R e1 fun H1 R1 ev1=>?_
 cases p with
 | false=>exact (if_neg Bool.false_ne_true).mpr (hb C w G1 σ H1 s Γ' Q R1 (by simpa using e) fun v H2 R2 ev2 o n=>k v H2 R2 (ev1.trans ev2) o (n.back ev1 R1.lst))
 | true =>
  have e':(S.v (.a (.bl true)),G1)=(s,Γ'):=by simpa using e
  cases e'
  exact (if_pos rfl).mpr (k _ H1 R1 ev1 SOk.atom trivial)
theorem zLL{ta:TE}{fa:DE}(ha:SimE K ta fa):SimE K (tNotV ta) (dNotV fa):=by
 intro C w Γ σ H s Γ' Q R e k
 obtain⟨⟨p,G1⟩,e1,e⟩:=bind_some e
 cases e
 exact (zCF ha) C w Γ σ H p G1 (fun c H1=>Q (.bl (!c)) H1) R e1 fun H1 R1 ev1=>k _ H1 R1 ev1 SOk.atom trivial
theorem zNV{tc:TT}{ta tb:TE}{fc:DT}{fa fb:DE}(hc:SimT K tc fc)(ha:SimE K ta fa)(hb:SimE K tb fb):SimE K (tIf tc ta tb) (dIfE fc fa fb):=by
 intro C w Γ σ H s Γ' Q R e k
 obtain⟨⟨p,G1⟩,e1,e⟩:=bind_some e
 refine hc C w Γ σ H p G1 _ R e1 fun H1 R1 ev1=>?_
 cases p with
 | true=>exact (if_pos rfl).mpr (ha C w G1 σ H1 s Γ' Q R1 (by simpa using e) fun v H2 R2 ev2 o n=>k v H2 R2 (ev1.trans ev2) o (n.back ev1 R1.lst))
 | false=>exact (if_neg Bool.false_ne_true).mpr (hb C w G1 σ H1 s Γ' Q R1 (by simpa using e) fun v H2 R2 ev2 o n=>k v H2 R2 (ev1.trans ev2) o (n.back ev1 R1.lst))
end
def dNext:DS:=fun Γ=>some (.nx Γ)
def dSeq(f g:DS):DS:=fun Γ=>(f Γ).bind fun o=>match o with
 | .nx Γ'=>g Γ'
 | o=>some o
def dNever:DS:=fun _=>none
def dDrop(f:DE):DS:=fun Γ=>(f Γ).map fun p=>.nx p.2
def dRet(f:DE):DS:=fun Γ=>(f Γ).map fun p=>.rt p.1 p.2
def dIf(c:DT)(f g:DS):DS:=fun Γ=>(c Γ).bind fun p=>if p.1=true then f p.2 else g p.2
def setS(i:Nat)(s:S)(Γ:En):Option En:=match s with
 | .v t=>some (Γ.set i (some (.v t)))
 | .l xs=>some (Γ.set i (some (.l xs)))
 | .d xs=>some (Γ.set i (some (.d xs)))
 | .s j=>match Γ[j]? with
  | some (some (.r xs))=>some (Γ.set i (some (.r xs)))
  | _=>none
def dSet(i:Nat)(f:DE):DS:=fun Γ=>(f Γ).bind fun p=>(setS i p.1 p.2).map .nx
def dWhile(c:DT)(b:DS):Nat->DS
 | 0=>fun _=>none
 | n+1=>fun Γ=>(c Γ).bind fun p=>if p.1=true then (b p.2).bind fun o=>match o with
   | .nx Γ'=>dWhile c b n Γ'
   | .ct Γ'=>dWhile c b n Γ'
   | .bk Γ'=>some (.nx Γ')
   | .rt s Γ'=>some (.rt s Γ')
  else some (.nx p.2)
section
variable {K:Fg}{ip:Option Nat}
theorem zKT:SimS K ip tNext dNext:=fun C w Γ σ H D o _ R e k=>by cases e; exact k w σ H R
theorem zHv{ts:DS}:SimS K ip tNever dNever:=fun C w Γ σ H D o _ R e k=>by cases e
theorem zLb{t u:TS}{f g:DS}(h1:SimS K ip t f)(h2:SimS K ip u g):SimS K ip (tSeq t u) (dSeq f g):=by
 intro C w Γ σ H D o hp R e k
 obtain⟨o1,e1,e⟩:=bind_some e
 refine h1 C w Γ σ H _ o1 hp R e1 ?_
 cases o1 with
 | nx Γ1=>exact fun w' σ' H' R'=>h2 C w' Γ1 σ' H' D o hp R' e k
 | rt s Γ1=>cases e; exact k
 | bk Γ1=>cases e; exact k
 | ct Γ1=>cases e; exact k
theorem zJ1{te:TE}{f:DE}(h:SimE K te f):SimS K ip (tDrop te) (dDrop f):=by
 intro C w Γ σ H D o hp R e k
 obtain⟨p,e1,e⟩:=zAH e
 subst e
 exact h C w Γ σ H p.1 p.2 _ R e1 fun v H1 R1 _ _ _=>k w σ H1 R1
theorem zK3{te:TE}{f:DE}(h:SimE K te f):SimS K ip (tRet te) (dRet f):=by
 intro C w Γ σ H D o hp R e k
 obtain⟨p,e1,e⟩:=zAH e
 subst e
 exact h C w Γ σ H p.1 p.2 _ R e1 fun v H1 R1 _ o _=>k w σ H1 v R1 o
theorem zLv{tc:TT}{t u:TS}{c:DT}{f g:DS}(hc:SimT K tc c)(h1:SimS K ip t f)(h2:SimS K ip u g):SimS K ip (tIfS tc t u) (dIf c f g):=by
 intro C w Γ σ H D o hp R e k
 obtain⟨⟨p,G1⟩,e1,e⟩:=bind_some e
 refine hc C w Γ σ H p G1 _ R e1 fun H1 R1 _=>?_
 cases p with
 | true=>exact (if_pos rfl).mpr (h1 C w G1 σ H1 D o hp R1 (by simpa using e) k)
 | false=>exact (if_neg Bool.false_ne_true).mpr (h2 C w G1 σ H1 D o hp R1 (by simpa using e) k)
theorem zBT{C:Fr}{i:Nat}(hp:C.pins.map (·.1)=ip.toList)(hi:ip≠some i):∀ q∈C.pins,q.1≠i:=fun q hq e=>by
 have:q.1∈ip.toList:=hp ▸ List.mem_map.mpr ⟨q,hq,rfl⟩
 rw[Option.mem_toList]at this
 exact hi (by rw[this,e])
theorem zNB{C:Fr}{w:W}{Γ Γ':En}{σ:St}{H:Hp}{v:V}{s:S}{i:Nat}(R:Rep K C w Γ σ H)(o:SOk K C w σ H v s)(e:setS i s Γ=some Γ')(hn:∀ q∈C.pins,q.1≠i):∃ w',Rep K C w' Γ' (σ.set i (some v)) H:=by
 cases s with
 | v t=>cases e; exact⟨w,R.setv rfl o hn⟩
 | d xs =>
  cases e
  obtain⟨p,vs,rfl,n1,n2,ow,h1,h2⟩:=o
  exact⟨_,R.setd n1 n2 ow h1 h2 hn⟩
 | l xs =>
  cases e
  obtain⟨p,vs,rfl,n1,n2,ow,h1,h2⟩:=o
  exact⟨_,R.setl n1 n2 ow h1 h2 hn⟩
 | s j =>
  unfold setS at e
  dsimp only at e
  split at e
  ·rename_i xs he
   cases e
   obtain⟨v',e1,e2⟩:=R.val j _ he
   have o':σ[j]?=some (some v):=o
   rw[o']at e1; cases e1
   exact⟨w,R.setv rfl e2 hn⟩
  ·cases e
theorem zFy{te:TE}{f:DE}{i:Nat}(h:SimE K te f)(hi:ip≠some i):SimS K ip (tAsg te (gName i)) (dSet i f):=by
 intro C w Γ σ H D o hp R e k
 obtain⟨p,e1,e⟩:=bind_some e
 obtain⟨Γ1,e2,e⟩:=zAH e
 subst e
 refine h C w Γ σ H p.1 p.2 _ R e1 fun v H1 R1 _ o1 _=>?_
 obtain⟨w',R'⟩:=zNB R1 o1 e2 (zBT hp hi)
 exact k w' _ H1 R'
theorem zIR{tc:TT}{tb:TS}{c:DT}{b:DS}(n:Nat)(hc:SimT K tc c)(hb:SimS K ip tb b):SimS K ip (tWhile tc tb) (dWhile c b n):=by
 intro C w Γ σ H D o hp R e k
 refine⟨fun m σ H=>∃ w Γ,Rep K C w Γ σ H/\dWhile c b m Γ=some o,⟨n,w,Γ,R,e⟩,?_⟩
 rintro m σ1 H1 ⟨w1,Γ1,R1,e1⟩
 cases m with
 | zero=>cases e1
 | succ m =>
  unfold dWhile at e1
  obtain⟨⟨p,G2⟩,e2,e1⟩:=bind_some e1
  refine hc C w1 Γ1 σ1 H1 p G2 _ R1 e2 fun H2 R2 _=>?_
  cases p with
  | false =>
   rw[if_neg Bool.false_ne_true]at e1 ⊢
   cases e1
   exact k w1 σ1 H2 R2
  | true =>
   rw[if_pos rfl]at e1 ⊢
   obtain⟨o2,e3,e1⟩:=bind_some e1
   refine⟨fun σ' H'=>∃ w Γ,Rep K C w Γ σ' H'/\dWhile c b m Γ=some o,fun σ' H' ⟨w',Γ',R',e'⟩=>⟨m,Nat.lt_succ_self _,w',Γ',R',e'⟩,?_⟩
   refine hb C w1 G2 σ1 H2 _ o2 hp R2 e3 ?_
   cases o2 with
   | nx Γ'=>exact fun w' σ' H' R'=>⟨w',Γ',R',e1⟩
   | ct Γ'=>exact fun w' σ' H' R'=>⟨w',Γ',R',e1⟩
   | bk Γ'=>cases e1; exact k
   | rt s Γ'=>cases e1; exact k
end
section
variable {K:Fg}{C:Fr}{w:W}{Γ Γ':En}{σ:St}{H H':Hp}
theorem Rep.base(R:Rep K C w Γ σ H):Rep K ⟨H,w.L,C.pins⟩ w Γ σ H :=
 ⟨R.len,R.val,R.apart,R.lst,fun p hp=>.inl hp,R.ra,R.rl,fun b o h _=>h,R.pin⟩
theorem Rep.back{C1:Fr}{w1:W}{Γ1:En}{σ1:St}{H1:Hp}(R:Rep K C w Γ σ H)(hC:C1=⟨H,w.L,C.pins⟩)(R1:Rep K C1 w1 Γ1 σ1 H1):Rep K C w1 Γ1 σ1 H1:=by
 subst hC
 refine⟨R1.len,R1.val,R1.apart,R1.lst,fun p hp=>?_,R1.ra,R1.rl,fun b o h n=>R1.frame b o (R.frame b o h n) fun z=>?_,R1.pin⟩
 ·rcases R1.own p hp with z | z
  ·exact R.own p z
  ·exact (R.fresh z).2.2
 ·rcases R.own b z with q | q
  ·exact n q
  ·rw[q]at h; cases h
theorem Ow.back{C1:Fr}{p:Addr}(R:Rep K C w Γ σ H)(hC:C1=⟨H,w.L,C.pins⟩)(h:Ow C1 p):Ow C p:=by
 subst hC
 rcases h with z | z
 ·exact R.own p z
 ·exact (R.fresh z).2.2
theorem SOk.back{C1:Fr}{w1:W}{σ1:St}{H1:Hp}{v:V}{s:S}(R:Rep K C w Γ σ H)(hC:C1=⟨H,w.L,C.pins⟩)(o:SOk K C1 w1 σ1 H1 v s):SOk K C w1 σ1 H1 v s:=by
 cases s with
 | v t=>exact o
 | s i=>exact o
 | l xs =>
  obtain⟨p,vs,e,n1,n2,ow,h1,h2⟩:=o
  exact⟨p,vs,e,n1,n2,Ow.back R hC ow,h1,h2⟩
 | d xs =>
  obtain⟨p,vs,e,n1,n2,ow,h1,h2⟩:=o
  exact⟨p,vs,e,n1,n2,Ow.back R hC ow,h1,h2⟩
theorem Rep.freeze{i:Nat}{xs:List T}{p:Addr}(R:Rep K C w Γ σ H)(hi:Γ[i]?=some (some (.l xs)))(hp:σ[i]?=some (some (.ref p)))(hn:∀ q∈C.pins,q.1≠i) :
  Rep K C ⟨w.L.filter (fun q=>decide (q≠p)),fun q=>q=p\/w.R q⟩ (Γ.set i (some (.r xs))) σ H:=by
 have hiΓ:i < Γ.length:=(List.getElem?_eq_some_iff.mp hi).1
 obtain⟨v0,e0,q0,vs0,rfl,hq0,hv0,hi0⟩:=R.val i _ hi
 rw[hp]at e0; cases e0
 have mem:∀ {q:Addr},q∈w.L.filter (fun q=>decide (q≠p)) ↔ q∈w.L/\q≠p:=by intro q; simp
 have back:∀ (m:Nat) (g:G),isMut g=true->(Γ.set i (some (.r xs)))[m]?=some (some g)->m≠i/\Γ[m]?=some (some g):=fun m g mg h=>by
  by_cases hm:m=i
  ·subst hm; rw[List.getElem?_set_self hiΓ]at h; cases h; cases mg
  ·rw[List.getElem?_set_ne (Ne.symm hm)]at h; exact⟨hm,h⟩
 refine⟨by simpa using R.len,fun j g h=>?_,fun j k c ga gb ma mb h1 h2 h3 h4=>?_,fun c hc=>R.lst c (mem.mp hc).1,fun c hc=>R.own c (mem.mp hc).1,fun c hc=>?_,fun c hc z=>?_,R.frame,fun q hq=>?_⟩
 ·by_cases hj:j=i
  ·subst hj
   rw[List.getElem?_set_self hiΓ]at h
   cases h
   exact⟨_,hp,p,vs0,rfl,hi0,hv0,fun z=>(mem.mp z).2 rfl,.inl rfl⟩
  ·rw[List.getElem?_set_ne (Ne.symm hj)]at h
   obtain⟨v,e1,e2⟩:=R.val j g h
   refine⟨v,e1,?_⟩
   cases g with
   | v t=>exact e2
   | l ys =>
    obtain⟨c,us,rfl,hc,h1,h2⟩:=e2
    exact⟨c,us,rfl,mem.mpr ⟨hc,fun z=>hj (R.apart j i p _ _ rfl rfl h hi (z ▸ e1) hp)⟩,h1,h2⟩
   | d ys =>
    obtain⟨c,us,rfl,hc,h1,h2⟩:=e2
    exact⟨c,us,rfl,mem.mpr ⟨hc,fun z=>hj (R.apart j i p _ _ rfl rfl h hi (z ▸ e1) hp)⟩,h1,h2⟩
   | r ys =>
    obtain⟨c,us,rfl,h1,h2⟩:=e2
    exact⟨c,us,rfl,h1,h2.1,fun z=>h2.2.1 (mem.mp z).1,.inr h2.2.2⟩
   | e ys =>
    obtain⟨c,us,rfl,h1,h2⟩:=e2
    exact⟨c,us,rfl,h1,h2.1,fun z=>h2.2.1 (mem.mp z).1,.inr h2.2.2⟩
   | k ys=>exact e2
 ·obtain⟨_,g1⟩:=back j ga ma h1
  obtain⟨_,g2⟩:=back k gb mb h2
  exact R.apart j k c ga gb ma mb g1 g2 h3 h4
 ·rcases hc with e | e
  ·subst e; exact⟨_,hv0⟩
  ·exact R.ra c e
 ·rcases hc with e | e
  ·exact (mem.mp z).2 e
  ·exact R.rl c e (mem.mp z).1
 ·obtain⟨h1,zs,h2⟩:=R.pin q hq
  exact⟨h1,zs,by rw[List.getElem?_set_ne (Ne.symm (hn q hq))]; exact h2⟩
def frz1(Γ:En)(i:Nat):En:=match Γ[i]? with
 | some (some (.l xs))=>Γ.set i (some (.r xs))
 | _=>Γ
def frz(Γ:En)(src:List Nat):En:=src.foldl frz1 Γ
theorem Rep.frz:∀ (src:List Nat) {w:W} {Γ:En},Rep K C w Γ σ H->(∀ i∈src,∀ q∈C.pins,q.1≠i) ->
  ∃ w',Rep K C w' (frz Γ src) σ H/\(∀ p∈w'.L,p∈w.L)/\∀ i∈src,∀ p,σ[i]?=some (some (.ref p))->(∃ xs,Γ[i]?=some (some (.l xs)))->p∉w'.L:=by
 intro src
 induction src with
 | nil=>intro w Γ R _; exact⟨w,R,fun p h=>h,fun i hi=>nomatch hi⟩
 | cons i r ih =>
  intro w Γ R hn
  have step:∃ w1,Rep K C w1 (frz1 Γ i) σ H/\(∀ p∈w1.L,p∈w.L)/\(∀ p,σ[i]?=some (some (.ref p))->(∃ xs,Γ[i]?=some (some (.l xs)))->p∉w1.L):=by
   unfold frz1
   split
   ·rename_i xs e
    obtain⟨v,e1,p,vs,rfl,_⟩:=R.val i _ e
    refine⟨_,R.freeze e e1 (hn i List.mem_cons_self),fun q hq=>(List.mem_filter.mp hq).1,fun q hq _ z=>?_⟩
    rw[e1]at hq; cases hq
    have:=(List.mem_filter.mp z).2
    simp at this
   ·rename_i e
    exact⟨w,R,fun p h=>h,fun p _ ⟨xs,h⟩=>absurd h (e xs)⟩
  obtain⟨w1,R1,s1,n1⟩:=step
  obtain⟨w2,R2,s2,n2⟩:=ih R1 (fun j hj=>hn j (List.mem_cons_of_mem _ hj))
  refine⟨w2,R2,fun p h=>s1 p (s2 p h),fun j hj p hp hx=>?_⟩
  rcases List.mem_cons.mp hj with e | e
  ·subst e; exact fun z=>n1 p hp hx (s2 p z)
  ·by_cases hji:j=i
   ·subst hji; exact fun z=>n1 p hp hx (s2 p z)
   ·refine n2 j e p hp ?_
    obtain⟨xs,hx⟩:=hx
    refine⟨xs,?_⟩
    unfold frz1
    split
    ·rw[List.getElem?_set_ne (Ne.symm hji)]; exact hx
    ·exact hx
end
abbrev DI:=En->Option ((List T×List Nat)×En)
def ItOk(K:Fg)(w:W)(Γ:En)(σ:St)(J:It)(H:Hp)(its:List T)(src:List Nat):Prop:=its.length<=sizeLine/\∀ L',(∀ p∈L',p∈w.L)->(∀ i∈src,∀ p,σ[i]?=some (some (.ref p))->(∃ xs,Γ[i]?=some (some (.l xs)))->p∉L')->∀ H2,Evo L' H H2 ->
 (∀ (i:Nat) t,its[i]?=some t->J.go i H2/\∀ x H3,J.yld i H2 x H3->(∀ b o,H2 b=some o->H3 b=some o)/\Im K H3 x t)/\J.stop its.length H2
def SimI(K:Fg)(wi:TI)(di:DI):Prop:=∀ (C:Fr) (w:W) (Γ:En) (σ:St) (H:Hp) (its:List T) (src:List Nat) (Γ':En) (R:It->Hp->Prop),Rep K C w Γ σ H->di Γ=some ((its,src),Γ') ->
 (∀ J H',Rep K C w Γ' σ H'->Evo w.L H H'->ItOk K w Γ' σ J H' its src->R J H')->wi σ H R
def SimG(K:Fg)(ip:Option Nat)(g:TG)(tg:En->T->Option En):Prop:=∀ (C:Fr) (w:W) (Γ:En) (σ:St) (H:Hp) (v:V) (t:T) (Γ':En) (Q:St->Hp->Prop),C.pins.map (·.1)=ip.toList->Rep K C w Γ σ H->Im K H v t->tg Γ t=some Γ' ->
 (∀ σ',Rep K C w Γ' σ' H->Q σ' H)->g v σ H Q
def SimGs(K:Fg)(ip:Option Nat)(g:TGs)(tg:En->List T->Option En):Prop:=∀ (C:Fr) (w:W) (Γ:En) (σ:St) (H:Hp) (vs:List V) (ts:List T) (Γ':En) (Q:St->Hp->Prop),C.pins.map (·.1)=ip.toList->Rep K C w Γ σ H->Ims K H vs ts->tg Γ ts=some Γ' ->
 (∀ σ',Rep K C w Γ' σ' H->Q σ' H)->g vs σ H Q
def gdName(i:Nat):En->T->Option En:=fun Γ t=>some (Γ.set i (some (.v t)))
def gdNil:En->List T->Option En:=fun Γ ts=>match ts with
 | []=>some Γ
 | _=>none
def gdCons(f:En->T->Option En)(g:En->List T->Option En):En->List T->Option En:=fun Γ ts=>match ts with
 | []=>none
 | t::r=>(f Γ t).bind fun Γ1=>g Γ1 r
def gdTup(n:Nat)(g:En->List T->Option En):En->T->Option En:=fun Γ t=>match t with
 | .t ts=>if ts.length=n then g Γ ts else none
 | _=>none
section
variable {K:Fg}{ip:Option Nat}
theorem zJb{i:Nat}(hi:ip≠some i):SimG K ip (gName i) (gdName i):=by
 intro C w Γ σ H v t Γ' Q hp R h e k
 cases e
 exact k _ (R.setv rfl h (zBT hp hi))
theorem zJY:SimGs K ip gNil gdNil:=by
 intro C w Γ σ H vs ts Γ' Q hp R h e k
 cases ts with
 | nil=>cases e; exact⟨h.inv0,k σ R⟩
 | cons t r=>cases e
theorem zIj{g:TG}{gs:TGs}{f:En->T->Option En}{fs:En->List T->Option En}(h1:SimG K ip g f)(h2:SimGs K ip gs fs):SimGs K ip (gCons g gs) (gdCons f fs):=by
 intro C w Γ σ H vs ts Γ' Q hp R h e k
 cases ts with
 | nil=>cases e
 | cons t r =>
  obtain⟨Γ1,e1,e2⟩:=bind_some e
  obtain⟨v,us,rfl,i1,i2⟩:=h.inv
  exact⟨v,us,rfl,h1 C w Γ σ H v t Γ1 _ hp R i1 e1 fun σ1 R1=>h2 C w Γ1 σ1 H us r Γ' Q hp R1 i2 e2 k⟩
theorem zLS{n:Nat}{gs:TGs}{fs:En->List T->Option En}(h:SimGs K ip gs fs):SimG K ip (gTup K n gs) (gdTup n fs):=by
 intro C w Γ σ H v t Γ' Q hp R hi e k
 cases t with
 | a u=>cases e
 | l u=>cases e
 | f u=>cases e
 | x u v=>cases e
 | t ts =>
  unfold gdTup at e
  dsimp only at e
  split at e
  ·rename_i hn
   obtain⟨p,us,rfl,h1,h2⟩:=hi.inv
   exact⟨p,us,rfl,h1.sq,by rw[h2.len]; exact hn,h C w Γ σ H us ts Γ' Q hp R h2 e k⟩
  ·cases e
end
def forD(tg:En->T->Option En)(b:DS):List T->DS
 | []=>fun Γ=>some (.nx Γ)
 | t::r=>fun Γ=>(tg Γ t).bind fun Γ1=>(b Γ1).bind fun o=>match o with
  | .nx Γ'=>forD tg b r Γ'
  | .ct Γ'=>forD tg b r Γ'
  | .bk Γ'=>some (.nx Γ')
  | .rt s Γ'=>some (.rt s Γ')
def dFor(ip:Option Nat)(di:DI)(tg:En->T->Option En)(b:DS):DS:=fun Γ=>(di Γ).bind fun p=>if p.1.2.all (fun i=>decide (ip≠some i))=true then forD tg b p.1.1 (frz p.2 p.1.2) else none
theorem zKo{K:Fg}{ip:Option Nat}{wi:TI}{g:TG}{tb:TS}{di:DI}{tg:En->T->Option En}{b:DS}(hi:SimI K wi di)(hg:SimG K ip g tg)(hb:SimS K ip tb b):SimS K ip (tFor wi g tb) (dFor ip di tg b):=by
 intro C w Γ σ H D o hp R e k
 obtain⟨⟨⟨its,src⟩,Γ1⟩,e1,e⟩:=bind_some e
 dsimp only at e
 split at e
 rotate_left
 ·cases e
 rename_i hsrc
 refine hi C w Γ σ H its src Γ1 _ R e1 fun J H1 R1 _ ⟨hl,hJ⟩=>?_
 have hs:∀ i∈src,∀ q∈C.pins,q.1≠i:=fun i hi'=>zBT hp (by have:=List.all_eq_true.mp hsrc i hi'; simpa using this)
 obtain⟨w2,R2,sub,avoid⟩:=R1.frz src hs
 have hC:∃ C1:Fr,C1=⟨H1,w2.L,C.pins⟩:=⟨_,rfl⟩
 obtain⟨C1,hC⟩:=hC
 have R3:Rep K C1 w2 (frz Γ1 src) σ H1:=hC ▸ R2.base
 have hp1:C1.pins.map (·.1)=ip.toList:=by rw[hC]; exact hp
 refine⟨fun i m σ H=>m=its.length - i/\i<=its.length/\∃ w Γ,Rep K C1 w Γ σ H/\forD tg b (its.drop i) Γ=some o,⟨_,rfl,Nat.zero_le _,w2,_,R3,e⟩,?_⟩
 rintro i m σ' H' ⟨rfl,hi',w',Γ',R',e'⟩
 have ev:Evo w2.L H1 H':=fun b o h n=>R'.frame b o (by rw[hC]; exact h) (by rw[hC]; exact n)
 obtain⟨go,stop⟩:=hJ w2.L sub avoid H' ev
 by_cases hlt:i < its.length
 ·obtain⟨t,ht⟩:∃ t,its[i]?=some t:=⟨its[i],by simp[hlt]⟩
  have hd:its.drop i=t::its.drop (i+1):=by
   obtain⟨h1,h2⟩:=List.getElem?_eq_some_iff.mp ht
   rw[← h2]; exact List.drop_eq_getElem_cons h1
  rw[hd]at e'
  unfold forD at e'
  obtain⟨Γ2,e2,e'⟩:=bind_some e'
  obtain⟨o2,e3,e'⟩:=bind_some e'
  obtain⟨g1,g2⟩:=go i t ht
  refine .inr ⟨g1,fun σ H=>∃ w Γ,Rep K C1 w Γ σ H/\forD tg b (its.drop (i+1)) Γ=some o,fun σ2 H2 ⟨w2,Γ2,R2,e2⟩=>⟨_,by omega,rfl,hlt,w2,Γ2,R2,e2⟩,fun x H3 hx=>?_⟩
  obtain⟨k1,k2⟩:=g2 x H3 hx
  refine hg C1 w' Γ' σ' H3 x t Γ2 _ hp1 (R'.evo0 k1) k2 e2 fun σ4 R4=>?_
  refine hb C1 w' Γ2 σ4 H3 _ o2 hp1 R4 e3 ?_
  cases o2 with
  | nx Γ5=>exact fun w5 σ5 H5 R5=>⟨w5,Γ5,R5,e'⟩
  | ct Γ5=>exact fun w5 σ5 H5 R5=>⟨w5,Γ5,R5,e'⟩
  | bk Γ5=>cases e'; exact fun w5 σ5 H5 R5=>k w5 σ5 H5 (R2.back hC R5)
  | rt s Γ5=>cases e'; exact fun w5 σ5 H5 v R5 o5=>k w5 σ5 H5 v (R2.back hC R5) (o5.back R2 hC)
 ·have:i=its.length:=by omega
  subst this
  rw[List.drop_length]at e'
  cases e'
  exact .inl ⟨stop,k w' σ' H' (R2.back hC R')⟩
def pick1(mu:Option Nat)(k:Nat):Option G->Option G
 | some (.l xs)=>if mu=some k then some (.l xs) else some (.r xs)
 | some (.d xs)=>some (.e xs)
 | o=>o
def pick(mu:Option Nat)(ix:List (Option Nat))(Γ:En):En:=ix.map fun o=>o.bind fun k=>pick1 mu k (Γ[k]?).join
def compD(tg:En->T->Option En)(dc:DT)(de:DE):List T->En->Option (List T×En)
 | [],Γ=>some ([],Γ)
 | t::r,Γ=>(tg Γ t).bind fun Γ1=>(dc Γ1).bind fun p=>if p.1=true then (de p.2).bind fun q=>q.1.tree.bind fun t'=>(compD tg dc de r q.2).map fun z=>(t'::z.1,z.2) else compD tg dc de r p.2
def cback(mu:Option (Nat×Nat))(Γ Γo:En):En:=match mu with
 | none=>Γ
 | some (j,i)=>match Γo[j]? with
  | some (some (.l xs))=>Γ.set i (some (.l xs))
  | _=>Γ
def dComp(mu:Option (Nat×Nat))(ix:List (Option Nat))(di:DI)(tg:En->T->Option En)(dc:DT)(de:DE):DE:=fun Γ=>(di Γ).bind fun p =>
 match mu with
 | none=>(compD tg dc de p.1.1 (pick none ix p.2)).map fun z=>(.l z.1,p.2)
 | some (j,i)=>if i∈p.1.2 then none else match p.2[i]? with
  | some (some (.l _))=>(compD tg dc de p.1.1 (pick (some i) ix p.2)).map fun z=>(.l z.1,cback mu p.2 z.2)
  | _=>none
section
variable {K:Fg}
theorem zEB{C1:Fr}{w1:W}{J:It}{H1:Hp}{its:List T}{ix:List (Option Nat)}{g:TG}{tc:TT}{te:TE}{tg:En->T->Option En}{dc:DT}{de:DE}{jp:Option Nat}{σ:St}{Γ0 Γe:En}{ts:List T}{Q:VK}
  (hp:C1.pins.map (·.1)=jp.toList) (hg:SimG K jp g tg) (hc:SimT K tc dc) (he:SimE K te de) (hl:its.length<=sizeLine) (hC:C1.H0=H1)
  (hJ:∀ H2,Evo C1.fx H1 H2->(∀ (i:Nat) t,its[i]?=some t->J.go i H2/\∀ x H3,J.yld i H2 x H3->(∀ b o,H2 b=some o->H3 b=some o)/\Im K H3 x t)/\J.stop its.length H2)
  (hfx:∀ p,p∈w1.L->p∈C1.fx)
  (R:Rep K C1 w1 Γ0 (frm ix σ) H1) (e:compD tg dc de its Γ0=some (ts,Γe))
  (k:∀ σ' H' ys,Rep K C1 w1 Γe σ' H'->Ims K H' ys ts->ys.length<=sizeLine->∀ D,H' D=none->Q (.ref D) (upd H' D (.lst ys))):CompW J ix g tc te σ H1 Q:=by
 refine⟨fun i m ys σ' H'=>m=its.length - i/\i<=its.length/\ys.length<=i/\∃ Γ pre post,Rep K C1 w1 Γ σ' H'/\Ims K H' ys pre/\compD tg dc de (its.drop i) Γ=some (post,Γe)/\ts=pre++post,⟨_,rfl,Nat.zero_le _,Nat.zero_le _,Γ0,[],ts,R,.nil,e,rfl⟩,?_⟩
 rintro i m ys σ' H' ⟨rfl,hi,hy,Γ,pre,post,R',hpre,e',rfl⟩
 have ev:Evo C1.fx H1 H':=fun b o h n=>R'.frame b o (by rw[hC]; exact h) n
 obtain⟨go,stop⟩:=hJ H' ev
 by_cases hlt:i < its.length
 ·obtain⟨t,ht⟩:∃ t,its[i]?=some t:=⟨its[i],by simp[hlt]⟩
  have hd:its.drop i=t::its.drop (i+1):=by
   obtain⟨h1,h2⟩:=List.getElem?_eq_some_iff.mp ht
   rw[← h2]; exact List.drop_eq_getElem_cons h1
  rw[hd]at e'
  unfold compD at e'
  obtain⟨Γ1,e1,e'⟩:=bind_some e'
  obtain⟨⟨b,Γ2⟩,e2,e'⟩:=bind_some e'
  obtain⟨g1,g2⟩:=go i t ht
  refine .inr ⟨g1,by omega,fun ys' σ2 H2=>ys'.length<=i+1/\∃ Γ pre' post',Rep K C1 w1 Γ σ2 H2/\Ims K H2 ys' pre'/\compD tg dc de (its.drop (i+1)) Γ=some (post',Γe)/\pre++post=pre'++post',fun ys' σ2 H2 ⟨a,b⟩=>⟨_,by omega,rfl,hlt,a,b⟩,fun x H2 hx=>?_⟩
  obtain⟨k1,k2⟩:=g2 x H2 hx
  have ev1:Evo w1.L H' H2:=fun b o h _=>k1 b o h
  have R2:=R'.evo0 k1
  refine hg C1 w1 Γ σ' H2 x t Γ1 _ hp R2 k2 e1 fun σ3 R3=>?_
  refine hc C1 w1 Γ1 σ3 H2 b Γ2 _ R3 e2 fun H4 R4 ev4=>?_
  have hpre4:Ims K H4 ys pre:=(hpre.evo ev1 R'.lst).evo ev4 R3.lst
  cases b with
  | true =>
   rw[if_pos rfl]at e' ⊢
   obtain⟨⟨s,Γ3⟩,e3,e'⟩:=bind_some e'
   obtain⟨t',e4,e'⟩:=bind_some e'
   obtain⟨⟨ts',Γ4⟩,e5,e'⟩:=zAH e'
   cases e'
   refine he C1 w1 Γ2 σ3 H4 s Γ3 _ R4 e3 fun v H5 R5 ev5 o5 _=>?_
   cases s with
   | l _=>cases e4
   | s _=>cases e4
   | d _=>cases e4
   | v t'' =>
    cases e4
    exact⟨by simp; omega,Γ3,pre++[t'],ts',R5,(hpre4.evo ev5 R4.lst).app (.one o5),e5,by simp⟩
  | false =>
   rw[if_neg Bool.false_ne_true]at e' ⊢
   exact⟨by omega,Γ2,pre,post,R4,hpre4,e',rfl⟩
 ·have:i=its.length:=by omega
  subst this
  rw[List.drop_length]at e'
  cases e'
  rw[List.append_nil]at k
  exact .inl ⟨stop,by omega,k σ' H' ys R' hpre (by omega)⟩
theorem zCf{mu:Option Nat}{ix:List (Option Nat)}{Γ:En}{j:Nat}{g:G}(h:(pick mu ix Γ)[j]?=some (some g)):∃ k g',ix[j]?=some (some k)/\Γ[k]?=some (some g')/\pick1 mu k (some g')=some g:=by
 unfold pick at h
 rw[List.getElem?_map]at h
 cases e:ix[j]? with
 | none=>rw[e]at h; cases h
 | some o =>
  rw[e]at h
  cases o with
  | none=>cases h
  | some k =>
   have h':pick1 mu k (Γ[k]?).join=some g:=Option.some.inj h
   cases e2:Γ[k]? with
   | none=>rw[e2]at h'; cases h'
   | some o2 =>
    cases o2 with
    | none=>rw[e2]at h'; cases h'
    | some g'=>rw[e2]at h'; exact⟨k,g',rfl,e2,h'⟩
theorem zEE{ix:List (Option Nat)}{σ:St}{j k:Nat}{v:V}(h:ix[j]?=some (some k))(hv:σ[k]?=some (some v)):(frm ix σ)[j]?=some (some v):=by
 unfold frm
 rw[List.getElem?_map,h]
 show some ((σ[k]?).join)=_
 rw[hv]; rfl
theorem zF4{mu:Option (Nat×Nat)}{ix:List (Option Nat)}{wi:TI}{g:TG}{tc:TT}{te:TE}{di:DI}{tg:En->T->Option En}{dc:DT}{de:DE}(hi:SimI K wi di)(hg:SimG K (mu.map (·.1)) g tg)(hc:SimT K tc dc)(he:SimE K te de)
  (hmu:∀ j i,mu=some (j,i)->ix[j]?=some (some i)) (hix:∀ (j j' i:Nat),mu.map (·.2)=some i->ix[j]?=some (some i)->ix[j']?=some (some i)->j=j'):SimE K (tComp wi ix g tc te) (dComp mu ix di tg dc de):=by
 intro C w Γ σ H s Γ' Q R e k
 obtain⟨⟨⟨its,src⟩,Γ1⟩,e1,e⟩:=bind_some e
 refine hi C w Γ σ H its src Γ1 _ R e1 fun J H1 R1 ev1 ⟨hl,hJ⟩=>?_
 cases mu with
 | none =>
  obtain⟨⟨ts,Γe⟩,e2,e⟩:=zAH e
  cases e
  have Rin:Rep K ⟨H1,[],[]⟩ ⟨[],fun q=>w.R q\/q∈w.L⟩ (pick none ix Γ1) (frm ix σ) H1:=by
   refine⟨by simp[pick,frm],fun j g h=>?_,fun i j p ga gb ma mb h1 h2 h3 h4=>?_,fun p hp=>(nomatch hp),fun p hp=>(nomatch hp),fun p hp=>?_,fun p hp=>(nofun),fun b o h _=>h,fun q hq=>(nomatch hq)⟩
   ·obtain⟨k',g',a1,a2,a3⟩:=zCf h
    obtain⟨v,b1,b2⟩:=R1.val k' g' a2
    refine⟨v,zEE a1 b1,?_⟩
    cases g' with
    | v t=>cases a3; exact b2
    | l xs =>
     have:g=.r xs:=by simpa [pick1] using a3.symm
     subst this
     obtain⟨p,vs,rfl,c1,c2,c3⟩:=b2
     exact⟨p,vs,rfl,c3,c2,nofun,.inr c1⟩
    | r xs =>
     cases a3
     obtain⟨p,vs,rfl,c1,c2⟩:=b2
     exact⟨p,vs,rfl,c1,c2.1,nofun,.inl c2.2.2⟩
    | d xs =>
     cases a3
     obtain⟨p,vs,rfl,c1,c2,c3⟩:=b2
     exact⟨p,vs,rfl,c3,c2,nofun,.inr c1⟩
    | e xs =>
     cases a3
     obtain⟨p,vs,rfl,c1,c2⟩:=b2
     exact⟨p,vs,rfl,c1,c2.1,nofun,.inl c2.2.2⟩
    | k xs=>cases a3; exact b2
   ·obtain⟨k',g',a1,a2,a3⟩:=zCf h1
    cases g' with
    | v t=>cases a3; cases ma
    | l xs =>
     have:ga=.r xs:=by simpa [pick1] using a3.symm
     subst this; cases ma
    | r xs=>cases a3; cases ma
    | k xs=>cases a3; cases ma
    | d xs=>cases a3; cases ma
    | e xs=>cases a3; cases ma
   ·rcases hp with z | z
    ·exact R1.ra p z
    ·obtain⟨o,z,_⟩:=R1.lst p z; exact⟨o,z⟩
  refine zEB (jp:=none) (C1:=⟨H1,[],[]⟩) rfl hg hc he hl rfl (fun H2 ev=>hJ [] (fun p hp=>nomatch hp) (fun _ _ _ _ _=>nofun) H2 ev) (fun p hp=>hp) Rin e2 fun σ' H' ys R' hy hz D hD=>?_
  have R2:Rep K C w Γ1 σ H':=R1.evo0 fun b o h=>R'.frame b o h nofun
  exact k _ _ (R2.new hD) ((ev1.trans fun b o h _=>R'.frame b o h nofun).trans (Evo.new hD)) (R2.newl hD hy) ⟨_,rfl,zAz (L:=w.L) (ev1.trans fun b o h _=>R'.frame b o h nofun) R2.lst hD⟩
 | some m =>
  obtain⟨j,i⟩:=m
  dsimp only at e
  split at e
  ·cases e
  rename_i hsrc
  split at e
  rotate_left
  ·cases e
  rename_i xs0 hx0
  obtain⟨⟨ts,Γe⟩,e2,e⟩:=zAH e
  cases e
  obtain⟨v0,s0,p,vs0,rfl,m0,h0,i0⟩:=R1.val i _ hx0
  have hij:=hmu j i rfl
  have Rin:Rep K ⟨H1,[p],[(j,p)]⟩ ⟨[p],fun q=>w.R q\/(q∈w.L/\q≠p)⟩ (pick (some i) ix Γ1) (frm ix σ) H1:=by
   refine⟨by simp[pick,frm],fun j' g h=>?_,fun i1 i2 p' ga gb ma mb h1 h2 h3 h4=>?_,fun q hq=>?_,fun q hq=>.inl hq,fun q hq=>?_,fun q hq z=>?_,fun b o h _=>h,fun q hq=>?_⟩
   ·obtain⟨k',g',a1,a2,a3⟩:=zCf h
    obtain⟨v,b1,b2⟩:=R1.val k' g' a2
    refine⟨v,zEE a1 b1,?_⟩
    cases g' with
    | v t=>cases a3; exact b2
    | l xs =>
     obtain⟨p',vs,rfl,c1,c2,c3⟩:=b2
     by_cases hk:i=k'
     ·subst hk
      have:g=.l xs:=by simpa [pick1] using a3.symm
      subst this
      rw[s0]at b1; cases b1
      exact⟨p,vs,rfl,List.mem_singleton.mpr rfl,c2,c3⟩
     ·have:g=.r xs:=by simpa [pick1,hk] using a3.symm
      subst this
      have hne:p'≠p:=fun z=>hk (R1.apart i k' p _ _ rfl rfl hx0 a2 s0 (z ▸ b1))
      exact⟨p',vs,rfl,c3,c2,fun z=>hne (List.mem_singleton.mp z),.inr ⟨c1,hne⟩⟩
    | d xs =>
     cases a3
     obtain⟨p',o',rfl,c1,c2,c3⟩:=b2
     have hne:p'≠p:=fun z=>by
      subst z
      rw[h0]at c2; cases c2
      exact c3
     exact⟨p',o',rfl,c3,c2,fun z=>hne (List.mem_singleton.mp z),.inr ⟨c1,hne⟩⟩
    | r xs =>
     cases a3
     obtain⟨p',vs,rfl,c1,c2⟩:=b2
     exact⟨p',vs,rfl,c1,c2.1,fun z=>c2.2.1 (List.mem_singleton.mp z ▸ m0),.inl c2.2.2⟩
    | e xs =>
     cases a3
     obtain⟨p',vs,rfl,c1,c2⟩:=b2
     exact⟨p',vs,rfl,c1,c2.1,fun z=>c2.2.1 (List.mem_singleton.mp z ▸ m0),.inl c2.2.2⟩
    | k xs=>cases a3; exact b2
   ·have only:∀ (n:Nat) (gc:G),isMut gc=true->(pick (some i) ix Γ1)[n]?=some (some gc)->ix[n]?=some (some i):=fun n gc mc h=>by
     obtain⟨k',g',a1,a2,a3⟩:=zCf h
     cases g' with
     | v t=>cases a3; cases mc
     | l xs =>
      by_cases hk:i=k'
      ·subst hk; exact a1
      ·have:gc=.r xs:=by simpa [pick1,hk] using a3.symm
       subst this; cases mc
     | r xs=>cases a3; cases mc
     | k xs=>cases a3; cases mc
     | d xs=>cases a3; cases mc
     | e xs=>cases a3; cases mc
    exact hix i1 i2 i rfl (only i1 ga ma h1) (only i2 gb mb h2)
   ·rw[List.mem_singleton.mp hq]; exact⟨_,h0,trivial⟩
   ·rcases hq with z | z
    ·exact R1.ra q z
    ·obtain⟨o,z,_⟩:=R1.lst q z.1; exact⟨o,z⟩
   ·have e:=List.mem_singleton.mp z
    rcases hq with z | z
    ·exact R1.rl q z (e ▸ m0)
    ·exact z.2 e
   ·rw[List.mem_singleton.mp hq]
    refine⟨zEE hij s0,xs0,?_⟩
    unfold pick
    rw[List.getElem?_map,hij]
    show some (pick1 (some i) i (Γ1[i]?).join)=_
    rw[hx0]; simp[pick1,Option.join]
  have av:∀ i'∈src,∀ q,σ[i']?=some (some (.ref q))->(∃ xs,Γ1[i']?=some (some (.l xs)))->q∉[p]:=fun i' hi' q hq ⟨xs,hx⟩ z=>by
   rw[List.mem_singleton.mp z]at hq
   have:=R1.apart i i' p _ _ rfl rfl hx0 hx s0 hq
   subst this
   exact hsrc hi'
  refine zEB (jp:=some j) (C1:=⟨H1,[p],[(j,p)]⟩) rfl hg hc he hl rfl (fun H2 ev=>hJ [p] (fun q hq=>List.mem_singleton.mp hq ▸ m0) av H2 ev) (fun p hp=>hp) Rin e2 fun σ' H' ys R' hy hz D hD=>?_
  obtain⟨q1,xs',q2⟩:=R'.pin (j,p) (List.mem_singleton.mpr rfl)
  obtain⟨v',s',p',us',rfl,_,h',i'⟩:=R'.val j _ q2
  have s'':σ'[j]?=some (some (.ref p)):=q1
  rw[s'']at s'; cases s'
  have evp:Evo [p] H1 H':=fun b o h n=>R'.frame b o h n
  have R2:Rep K C w (Γ1.set i (some (.l xs'))) σ H':=(R1.put2 hx0 s0 evp h' i').1
  have eb:cback (some (j,i)) Γ1 Γe=Γ1.set i (some (.l xs')):=by unfold cback; dsimp only; rw[q2]
  rw[eb]at k
  exact k _ _ (R2.new hD) ((ev1.trans (evp.wide fun q hq=>List.mem_singleton.mp hq ▸ m0)).trans (Evo.new hD)) (R2.newl hD hy) ⟨_,rfl,zAz (L:=w.L) (ev1.trans (evp.wide fun q hq=>List.mem_singleton.mp hq ▸ m0)) R2.lst hD⟩
end
abbrev DF:=List G->Option (G×List T)
def ROk(K:Fg)(H H':Hp)(v:V):G->Prop
 | .v t=>Im K H' v t
 | .l xs=>∃ p us,v=.ref p/\H p=none/\H' p=some (.lst us)/\Ims K H' us xs
 | .r _=>False
 | .k _=>False
 | .d kvs=>∃ p o,v=.ref p/\H p=none/\H' p=some o/\DOk K H' o kvs
 | .e _=>False
theorem zEP{K:Fg}{H:Hp}{vs:List V}{kvs:Dk}(h:DOk K H (.lst vs) kvs):False:=h
def pinsG(ip:Option Nat)(vs:List V):List (Nat×Addr):=match ip with
 | none=>[]
 | some k=>match vs[k]? with
  | some (.ref p)=>[(k,p)]
  | _=>[]
def spD(K:Fg)(ip:Option Nat)(n:Nat)(F:DF):Sp:=fun vs H Q _=>vs.length=n/\∃ (w:W) (gs:List G) (r:G) (ys:List T),F gs=some (r,ys)/\Rep K ⟨H,w.L,pinsG ip vs⟩ w (gs.map some) (vs.map some) H /\
 (pinsG ip vs).map (·.1)=ip.toList/\(∀ p∈w.L,p∈(pinsG ip vs).map (·.2)) /\
 ∀ v H',Evo w.L H H'->(∀ q∈pinsG ip vs,∃ us,H' q.2=some (.lst us)/\Ims K H' us ys)->ROk K H H' v r->Q v H'
def outl(ip:Option Nat)(Γ:En):List T:=match ip with
 | none=>[]
 | some k=>match Γ[k]? with
  | some (some (.l xs))=>xs
  | _=>[]
def resG(ip:Option Nat)(Γ:En):S->Option G
 | .v t=>some (.v t)
 | .l xs=>some (.l xs)
 | .s i=>if ip=some i then none else match Γ[i]? with
  | some (some (.l xs))=>some (.l xs)
  | some (some (.d xs))=>some (.d xs)
  | _=>none
 | .d xs=>some (.d xs)
def fnD(ip:Option Nat)(np nN:Nat)(g:DS):DF:=fun gs=>if gs.length=np then (g (gs.map some++List.replicate (nN - np) none)).bind fun o=>match o with
  | .nx Γ=>some (.v (.a .non),outl ip Γ)
  | .rt s Γ=>(resG ip Γ s).map fun r=>(r,outl ip Γ)
  | _=>none
 else none
section
variable {K:Fg}
theorem Rep.more{C:Fr}{w:W}{Γ:En}{σ:St}{H:Hp}(R:Rep K C w Γ σ H)(n:Nat):Rep K C w (Γ++List.replicate n none) (σ++List.replicate n none) H:=by
 have get:∀ {j:Nat} {g:G},(Γ++List.replicate n none)[j]?=some (some g)->Γ[j]?=some (some g):=fun {j g} h=>by
  rcases Nat.lt_or_ge j Γ.length with z | z
  ·rw[List.getElem?_append_left z]at h; exact h
  ·rw[List.getElem?_append_right z,List.getElem?_replicate]at h; split at h <;> cases h
 have put:∀ {j:Nat} {o:Option V},j < σ.length->(σ++List.replicate n none)[j]?=σ[j]?:=fun z=>List.getElem?_append_left z
 have lt:∀ {j:Nat} {g:G},Γ[j]?=some (some g)->j < σ.length:=fun h=>by rw[R.len]; exact (List.getElem?_eq_some_iff.mp h).1
 refine⟨by simp[R.len],fun i g h=>?_,fun i j p ga gb ma mb h1 h2 h3 h4=>?_,R.lst,R.own,R.ra,R.rl,R.frame,fun q hq=>?_⟩
 ·have h':=get h
  obtain⟨v,e1,e2⟩:=R.val i g h'
  exact⟨v,by rw[put (o:=none) (lt h')]; exact e1,e2⟩
 ·have g1:=get h1
  have g2:=get h2
  rw[put (o:=none) (lt g1)]at h3
  rw[put (o:=none) (lt g2)]at h4
  exact R.apart i j p ga gb ma mb g1 g2 h3 h4
 ·obtain⟨h1,xs,h2⟩:=R.pin q hq
  exact⟨by rw[put (o:=none) (lt h2)]; exact h1,xs,by rw[List.getElem?_append_left (List.getElem?_eq_some_iff.mp h2).1]; exact h2⟩
theorem zED{ip:Option Nat}{ts:TS}{g:DS}{N:List Str}{np:Nat}{vs:List V}{H:Hp}{Q:VK}{E:XK}(hb:SimS K ip ts g)(h:spD K ip np (fnD ip np N.length g) vs H Q E):ts { nx:=fun _ H'=>Q .non H',rt:=Q } (L2.start N vs) H:=by
 obtain⟨hn,w,gs,r,ys,e,R,hp,hL,k⟩:=h
 unfold fnD at e
 have hg:gs.length=np:=by
  have:=R.len
  simp at this
  omega
 rw[if_pos hg]at e
 obtain⟨o,e1,e⟩:=bind_some e
 have R0:Rep K ⟨H,w.L,pinsG ip vs⟩ w (gs.map some++List.replicate (N.length - np) none) (L2.start N vs) H:=by
  unfold L2.start
  rw[hn]
  exact R.more _
 have fin:∀ {w':W} {Γ':En} {σ':St} {H':Hp},Rep K ⟨H,w.L,pinsG ip vs⟩ w' Γ' σ' H'->outl ip Γ'=ys->∀ v,ROk K H H' v r->Q v H':=fun {w' Γ' σ' H'} R' eo v hr=>by
  refine k v H' (fun b o h n=>R'.frame b o h n) (fun q hq=>?_) hr
  obtain⟨h1,xs,h2⟩:=R'.pin q hq
  obtain⟨v',e1,p,us,rfl,_,h3,h4⟩:=R'.val q.1 _ h2
  rw[h1]at e1; cases e1
  refine⟨us,h3,?_⟩
  have hq1:q.1∈ip.toList:=hp ▸ List.mem_map.mpr ⟨q,hq,rfl⟩
  rw[Option.mem_toList]at hq1
  unfold outl at eo
  rw[hq1]at eo
  dsimp only at eo
  rw[h2]at eo
  dsimp only at eo
  rw[← eo]; exact h4
 have notpin:∀ {w':W} {Γ':En} {σ':St} {H':Hp} {p:Addr},Rep K ⟨H,w.L,pinsG ip vs⟩ w' Γ' σ' H'->(∀ q∈pinsG ip vs,q.2≠p)->Ow ⟨H,w.L,pinsG ip vs⟩ p->H p=none:=fun {w' Γ' σ' H' p} R' hne ow=>by
  rcases ow with z | z
  ·obtain⟨q,hq,e⟩:=List.mem_map.mp (hL p z)
   exact absurd e (hne q hq)
  ·exact z
 refine hb _ w _ _ H _ o hp R0 e1 ?_
 cases o with
 | nx Γ' =>
  cases e
  exact fun w' σ' H' R'=>fin R' rfl _ (by show Im K H' V.non (.a .non); exact Im.atom)
 | rt s Γ' =>
  obtain⟨r',e2,e⟩:=zAH e
  cases e
  refine fun w' σ' H' v R' o'=>fin R' rfl v ?_
  have inL:∀ q∈pinsG ip vs,q.2∈w'.L:=fun q hq=>by
   obtain⟨h1,xs,h2⟩:=R'.pin q hq
   obtain⟨v',e1,p,us,rfl,h3,_⟩:=R'.val q.1 _ h2
   rw[h1]at e1; cases e1
   exact h3
  cases s with
  | v t=>cases e2; exact o'
  | l xs =>
   cases e2
   obtain⟨p,us,rfl,n1,n2,ow,h1,h2⟩:=o'
   exact⟨p,us,rfl,notpin R' (fun q hq z=>n1 (z ▸ inL q hq)) ow,h1,h2⟩
  | d xs =>
   cases e2
   obtain⟨p,us,rfl,n1,n2,ow,h1,h2⟩:=o'
   exact⟨p,us,rfl,notpin R' (fun q hq z=>n1 (z ▸ inL q hq)) ow,h1,h2⟩
  | s i =>
   unfold resG at e2
   dsimp only at e2
   split at e2
   ·cases e2
   rename_i hi
   split at e2
   ·rename_i xs hx
    cases e2
    obtain⟨v',e3,p,us,rfl,h3,h4,h5⟩:=R'.val i _ hx
    have o'':σ'[i]?=some (some v):=o'
    rw[o'']at e3; cases e3
    refine⟨p,us,rfl,notpin R' (fun q hq z=>?_) (R'.own p h3),h4,h5⟩
    obtain⟨h1,ys',h2⟩:=R'.pin q hq
    have:=R'.apart q.1 i q.2 _ _ rfl rfl h2 hx h1 (z ▸ o'')
    have hq1:q.1∈ip.toList:=hp ▸ List.mem_map.mpr ⟨q,hq,rfl⟩
    rw[Option.mem_toList]at hq1
    exact hi (by rw[hq1,this])
   ·rename_i xs hx
    cases e2
    obtain⟨v',e3,p,us,rfl,h3,h4,h5⟩:=R'.val i _ hx
    have o'':σ'[i]?=some (some v):=o'
    rw[o'']at e3; cases e3
    refine⟨p,us,rfl,notpin R' (fun q hq z=>?_) (R'.own p h3),h4,h5⟩
    obtain⟨h1,ys',h2⟩:=R'.pin q hq
    have:=R'.apart q.1 i q.2 _ _ rfl rfl h2 hx h1 (z ▸ o'')
    have hq1:q.1∈ip.toList:=hp ▸ List.mem_map.mpr ⟨q,hq,rfl⟩
    rw[Option.mem_toList]at hq1
    exact hi (by rw[hq1,this])
   ·cases e2
 | bk Γ'=>cases e
 | ct Γ'=>cases e
def argG(ip:Option Nat)(Γ:En)(k:Nat):S->Option G
 | .v t=>some (.v t)
 | .l xs=>some (if ip=some k then .l xs else .r xs)
 | .s i=>match Γ[i]? with
  | some (some (.l xs))=>some (if ip=some k then .l xs else .r xs)
  | some (some (.r xs))=>if ip=some k then none else some (.r xs)
  | some (some (.k xs))=>if ip=some k then none else some (.k xs)
  | some (some (.d xs))=>if ip=some k then none else some (.e xs)
  | some (some (.e xs))=>if ip=some k then none else some (.e xs)
  | _=>none
 | .d xs=>if ip=some k then none else some (.e xs)
def argsG(ip:Option Nat)(Γ:En):Nat->List S->Option (List G)
 | _,[]=>some []
 | k,s::r=>(argG ip Γ k s).bind fun g=>(argsG ip Γ (k+1) r).map fun gs=>g::gs
def isSl(i:Nat):S->Bool
 | .s j=>j == i
 | _=>false
def isTmp:S->Bool
 | .l _=>true
 | _=>false
def onceS(ip:Option Nat)(ss:List S):Bool:=match ip with
 | none=>true
 | some k=>match ss[k]? with
  | some (.s i)=>(ss.eraseIdx k).all fun s=>!isSl i s
  | some (.l _)=>(ss.eraseIdx k).all fun s=>!isTmp s
  | _=>false
def backS(ip:Option Nat)(Γ:En)(ss:List S)(ys:List T):En:=match ip with
 | none=>Γ
 | some k=>match ss[k]? with
  | some (.s i)=>Γ.set i (some (.l ys))
  | _=>Γ
def toS:G->S
 | .v t=>.v t
 | .l xs=>.l xs
 | .r xs=>.l xs
 | .k xs=>.l xs
 | .d xs=>.d xs
 | .e xs=>.d xs
def dCall(ip:Option Nat)(F:DF)(ds:List V)(fa:DA):DE:=fun Γ=>(fa Γ).bind fun p=>if onceS ip p.1=true then (argsG ip p.2 0 (p.1++ds.map fun v=>.v (.a v))).bind fun gs=>(F gs).map fun q=>(toS q.1,backS ip p.2 p.1 q.2) else none
theorem SOks.app{C:Fr}{w:W}{σ:St}{H:Hp}:∀ {vs:List V} {ss:List S},SOks K C w σ H vs ss->∀ ds:List V,SOks K C w σ H (vs++ds) (ss++ds.map fun v=>.v (.a v))
 | [],[],_,[]=>trivial
 | [],[],_,d::ds=>⟨SOk.atom,SOks.app (vs:=[]) (ss:=[]) trivial ds⟩
 | _::_,_::_,h,ds=>⟨h.1,SOks.app h.2 ds⟩
 | [],_::_,h,_=>h.elim
 | _::_,[],h,_=>h.elim
theorem SOks.len{C:Fr}{w:W}{σ:St}{H:Hp}:∀ {vs:List V} {ss:List S},SOks K C w σ H vs ss->vs.length=ss.length
 | [],[],_=>rfl
 | _::_,_::_,h=>by simp[SOks.len h.2]
 | [],_::_,h=>h.elim
 | _::_,[],h=>h.elim
theorem SOks.get{C:Fr}{w:W}{σ:St}{H:Hp}:∀ {vs:List V} {ss:List S} {k:Nat} {s:S},SOks K C w σ H vs ss->ss[k]?=some s->∃ v,vs[k]?=some v/\SOk K C w σ H v s
 | [],[],_,_,_,e=>by simp at e
 | v::_,_::_,0,_,h,e=>by simp at e; subst e; exact⟨v,rfl,h.1⟩
 | _::_,_::_,k+1,_,h,e=>by simpa using SOks.get (k:=k) h.2 (by simpa using e)
 | [],_::_,_,_,h,_=>h.elim
 | _::_,[],_,_,h,_=>h.elim
theorem zEy{ip:Option Nat}{Γ:En}:∀ {ss:List S} {k:Nat} {gs:List G},argsG ip Γ k ss=some gs->gs.length=ss.length
 | [],_,_,e=>by cases e; rfl
 | s::r,k,_,e=>by
  obtain⟨g,e1,e⟩:=bind_some e
  obtain⟨gs,e2,e⟩:=zAH e
  cases e
  simp[zEy e2]
theorem zBZ{ip:Option Nat}{Γ:En}:∀ {ss:List S} {k:Nat} {gs:List G} {j:Nat} {g:G},argsG ip Γ k ss=some gs->gs[j]?=some g->∃ s,ss[j]?=some s/\argG ip Γ (k+j) s=some g
 | [],_,_,_,_,e,h=>by cases e; simp at h
 | s::r,k,_,j,g,e,h=>by
  obtain⟨g',e1,e⟩:=bind_some e
  obtain⟨gs,e2,e⟩:=zAH e
  cases e
  cases j with
  | zero=>simp at h; subst h; exact⟨s,rfl,e1⟩
  | succ j =>
   obtain⟨s',a,b⟩:=zBZ (j:=j) e2 (by simpa using h)
   exact⟨s',by simpa using a,by rw[← b]; congr 1; omega⟩
theorem zDT{ip:Option Nat}{n:Nat}{F:DF}{ds:List V}{E:XK}{ta:TA}{fa:DA}(hF:∀ gs r,F gs=some r->gs.length=n)(ha:SimA K ta fa):SimE K (tCall (spD K ip n F) ds E ta) (dCall ip F ds fa):=by
 intro C w Γ σ H s Γ' Q R e k
 obtain⟨⟨ss,Γ1⟩,e1,e⟩:=bind_some e
 dsimp only at e
 split at e
 rotate_left
 ·cases e
 rename_i honce
 obtain⟨gs,e2,e⟩:=bind_some e
 obtain⟨⟨r,ys⟩,e3,e⟩:=zAH e
 cases e
 refine ha C w Γ σ H ss Γ1 _ R e1 fun vs0 H1 R1 ev1 o0 n0=>?_
 have o1:=o0.app ds
 have hl0:=o0.len
 generalize hvs:vs0++ds=vs at o1 ⊢
 generalize hss:ss++(ds.map fun v=>S.v (.a v))=ss' at o1 e2
 have hl:=o1.len
 have hgl:=zEy e2
 have hn:vs.length=n:=by rw[hl,← hgl]; exact hF _ _ e3
 have resOk:∀ {H2:Hp} {v:V} {L:List Addr},Evo L H1 H2->ROk K H1 H2 v r->Rep K C w Γ1 σ H1->SOk K C w σ H2 v (toS r):=fun {H2 v L} ev hr R=>by
  cases r with
  | v t=>exact hr
  | l xs =>
   obtain⟨p,us,rfl,h1,h2,h3⟩:=hr
   obtain⟨a,b,c⟩:=R.fresh h1
   exact⟨p,us,rfl,a,b,c,h2,h3⟩
  | r xs=>exact hr.elim
  | k xs=>exact hr.elim
  | d xs =>
   obtain⟨p,us,rfl,h1,h2,h3⟩:=hr
   obtain⟨a,b,c⟩:=R.fresh h1
   exact⟨p,us,rfl,a,b,c,h2,h3⟩
  | e xs=>exact hr.elim
 have resNew:∀ {H2:Hp} {v:V},ROk K H1 H2 v r->Nw H v (toS r):=fun {H2 v} hr=>by
  cases r with
  | v t=>trivial
  | l xs =>
   obtain⟨p,us,rfl,h1,h2,h3⟩:=hr
   exact⟨p,rfl,zAz ev1 R1.lst h1⟩
  | r xs=>exact hr.elim
  | k xs=>exact hr.elim
  | d xs =>
   obtain⟨p,us,rfl,h1,h2,h3⟩:=hr
   exact⟨p,rfl,zAz ev1 R1.lst h1⟩
  | e xs=>exact hr.elim
 cases ip with
 | none =>
  have Rc:Rep K ⟨H1,[],[]⟩ ⟨[],fun q=>∃ o,H1 q=some o⟩ (gs.map some) (vs.map some) H1:=by
   refine⟨by simp[hl,hgl],fun j g h=>?_,fun i j p ga gb ma mb h1 h2 h3 h4=>?_,fun p hp=>(nomatch hp),fun p hp=>(nomatch hp),fun p hp=>hp,fun p hp=>nofun,fun b o h _=>h,fun q hq=>(nomatch hq)⟩
   ·rw[List.getElem?_map]at h
    obtain⟨g',h',h⟩:=zAH h
    cases h
    obtain⟨s,a1,a2⟩:=zBZ e2 h'
    obtain⟨v,b1,b2⟩:=o1.get a1
    refine⟨v,by rw[List.getElem?_map,b1]; rfl,?_⟩
    cases s with
    | v t=>cases a2; exact b2
    | l xs =>
     simp only[argG,reduceCtorEq,if_false,Option.some.injEq]at a2
     subst a2
     obtain⟨p,us,rfl,n1,n2,ow,h1,h2⟩:=b2
     exact⟨p,us,rfl,h2,h1,nofun,⟨_,h1⟩⟩
    | d xs =>
     simp only[argG,reduceCtorEq,if_false,Option.some.injEq]at a2
     subst a2
     obtain⟨p,us,rfl,n1,n2,ow,h1,h2⟩:=b2
     exact⟨p,us,rfl,h2,h1,nofun,⟨_,h1⟩⟩
    | s i =>
     unfold argG at a2
     dsimp only at a2
     split at a2
     ·rename_i xs hx
      simp only[reduceCtorEq,if_false,Option.some.injEq]at a2
      subst a2
      obtain⟨v',c1,p,us,rfl,c2,c3,c4⟩:=R1.val i _ hx
      have b2':σ[i]?=some (some v):=b2
      rw[b2']at c1; cases c1
      exact⟨p,us,rfl,c4,c3,nofun,⟨_,c3⟩⟩
     ·rename_i xs hx
      simp only[reduceCtorEq,if_false,Option.some.injEq]at a2
      subst a2
      obtain⟨v',c1,p,us,rfl,c2,c3⟩:=R1.val i _ hx
      have b2':σ[i]?=some (some v):=b2
      rw[b2']at c1; cases c1
      exact⟨p,us,rfl,c2,c3.1,nofun,R1.ra p c3.2.2⟩
     ·rename_i xs hx
      simp only[reduceCtorEq,if_false,Option.some.injEq]at a2
      subst a2
      obtain⟨v',c1,c2⟩:=R1.val i _ hx
      have b2':σ[i]?=some (some v):=b2
      rw[b2']at c1; cases c1
      exact c2
     ·rename_i xs hx
      simp only[reduceCtorEq,if_false,Option.some.injEq]at a2
      subst a2
      obtain⟨v',c1,p,us,rfl,c2,c3,c4⟩:=R1.val i _ hx
      have b2':σ[i]?=some (some v):=b2
      rw[b2']at c1; cases c1
      exact⟨p,us,rfl,c4,c3,nofun,⟨_,c3⟩⟩
     ·rename_i xs hx
      simp only[reduceCtorEq,if_false,Option.some.injEq]at a2
      subst a2
      obtain⟨v',c1,p,us,rfl,c2,c3⟩:=R1.val i _ hx
      have b2':σ[i]?=some (some v):=b2
      rw[b2']at c1; cases c1
      exact⟨p,us,rfl,c2,c3.1,nofun,R1.ra p c3.2.2⟩
     ·cases a2
   ·rw[List.getElem?_map]at h1
    obtain⟨g',h',h⟩:=zAH h1
    cases h
    obtain⟨s,a1,a2⟩:=zBZ e2 h'
    cases s with
    | v t=>cases a2; cases ma
    | l xs=>simp[argG]at a2; subst a2; cases ma
    | d xs=>simp[argG]at a2; subst a2; cases ma
    | s i =>
     unfold argG at a2
     dsimp only at a2
     split at a2 <;> simp at a2 <;> (subst a2; cases ma)
  refine⟨hn,⟨[],fun q=>∃ o,H1 q=some o⟩,gs,r,ys,e3,Rc,rfl,(fun p hp=>nomatch hp),fun v H2 ev _ hr=>?_⟩
  have R2:Rep K C w Γ1 σ H2:=R1.evo0 fun b o h=>ev b o h nofun
  exact k v H2 R2 (ev1.trans fun b o h _=>ev b o h nofun) (resOk ev hr R1) (resNew hr)
 | some kk =>
  have hkk:∃ s,ss[kk]?=some s:=by
   unfold onceS at honce
   dsimp only at honce
   cases z:ss[kk]? with
   | none=>rw[z]at honce; cases honce
   | some s=>exact⟨s,rfl⟩
  obtain⟨sk,hsk⟩:=hkk
  have hkl:kk < ss.length:=(List.getElem?_eq_some_iff.mp hsk).1
  have hsk':ss'[kk]?=some sk:=by rw[← hss,List.getElem?_append_left hkl]; exact hsk
  obtain⟨vk,hvk,ok⟩:=o1.get hsk'
  have at_k:∃ p us xs,vk=.ref p/\H1 p=some (.lst us)/\Ims K H1 us xs/\argG (some kk) Γ1 kk sk=some (.l xs)/\((∃ i,sk=.s i/\Γ1[i]?=some (some (.l xs))/\σ[i]?=some (some (.ref p))/\p∈w.L)\/(sk=.l xs/\p∉w.L/\¬ w.R p/\Ow C p)):=by
   obtain⟨gk,hgk⟩:∃ g,gs[kk]?=some g:=⟨gs[kk]'(by rw[hgl,← hss]; simp; omega),by simp⟩
   obtain⟨s,a1,a2⟩:=zBZ e2 hgk
   rw[hsk']at a1; cases a1
   rw[Nat.zero_add]at a2
   cases sk with
   | v t=>unfold onceS at honce; dsimp only at honce; rw[hsk]at honce; cases honce
   | l xs =>
    obtain⟨p,us,rfl,n1,n2,ow,h1,h2⟩:=ok
    exact⟨p,us,xs,rfl,h1,h2,by simp[argG],.inr ⟨rfl,n1,n2,ow⟩⟩
   | s i =>
    unfold argG at a2
    dsimp only at a2
    have ok':σ[i]?=some (some vk):=ok
    split at a2
    ·rename_i xs hx
     obtain⟨v',c1,p,us,rfl,c2,c3,c4⟩:=R1.val i _ hx
     rw[ok']at c1; cases c1
     exact⟨p,us,xs,rfl,c3,c4,by simp[argG,hx],.inl ⟨i,rfl,hx,ok',c2⟩⟩
    ·rw[if_pos rfl]at a2; cases a2
    ·rw[if_pos rfl]at a2; cases a2
    ·rw[if_pos rfl]at a2; cases a2
    ·rw[if_pos rfl]at a2; cases a2
    ·cases a2
   | d xs=>unfold onceS at honce; dsimp only at honce; rw[hsk]at honce; cases honce
  obtain⟨p,us,xs,rfl,hpu,hus,hag,hsort⟩:=at_k
  have other:∀ (j:Nat) s,j≠kk->ss'[j]?=some s->(∀ i xs',s=.s i->Γ1[i]?=some (some (.l xs'))->σ[i]?≠some (some (.ref p)))/\(∀ xs' q,s=.l xs'->SOk K C w σ H1 (.ref q) s->q≠p):=fun j s hj hs=>by
   rcases hsort with ⟨i0,rfl,g0,s0,m0⟩ | ⟨rfl,n1,n2,ow⟩
   ·refine⟨fun i xs' e hx z=>?_,fun xs' q e h z=>?_⟩
    ·subst e
     have:=R1.apart i0 i p _ _ rfl rfl g0 hx s0 z
     subst this
     have hjl:j < ss.length:=by
      rcases Nat.lt_or_ge j ss.length with z | z
      ·exact z
      ·rw[← hss,List.getElem?_append_right z,List.getElem?_map]at hs
       obtain⟨d,_,hs⟩:=zAH hs
       cases hs
     rw[← hss,List.getElem?_append_left hjl]at hs
     unfold onceS at honce
     dsimp only at honce
     rw[hsk]at honce
     have:=List.all_eq_true.mp honce (.s i0) (List.mem_eraseIdx_iff_getElem?.mpr ⟨j,hj,hs⟩)
     simp[isSl]at this
    ·subst e
     obtain⟨q',us'',e,n1,_⟩:=h
     cases e
     exact n1 (z ▸ m0)
   ·refine⟨fun i xs' e hx z=>?_,fun xs' q e h z=>?_⟩
    ·obtain⟨v',c1,p',us2,rfl,c2,_⟩:=R1.val i _ hx
     rw[z]at c1; cases c1
     exact n1 c2
    ·subst e
     have hjl:j < ss.length:=by
      rcases Nat.lt_or_ge j ss.length with z | z
      ·exact z
      ·rw[← hss,List.getElem?_append_right z,List.getElem?_map]at hs
       obtain⟨d,_,hs⟩:=zAH hs
       cases hs
     rw[← hss,List.getElem?_append_left hjl]at hs
     unfold onceS at honce
     dsimp only at honce
     rw[hsk]at honce
     have:=List.all_eq_true.mp honce _ (List.mem_eraseIdx_iff_getElem?.mpr ⟨j,hj,hs⟩)
     simp[isTmp]at this
  have hpins:pinsG (some kk) vs=[(kk,p)]:=by unfold pinsG; dsimp only; rw[hvk]
  have Rc:Rep K ⟨H1,[p],[(kk,p)]⟩ ⟨[p],fun q=>(∃ o,H1 q=some o)/\q≠p⟩ (gs.map some) (vs.map some) H1:=by
   have get:∀ {j:Nat} {g:G},(gs.map some)[j]?=some (some g)->∃ s,ss'[j]?=some s/\argG (some kk) Γ1 j s=some g:=fun {j g} h=>by
    rw[List.getElem?_map]at h
    obtain⟨g',h',h⟩:=zAH h
    cases h
    obtain⟨s,a1,a2⟩:=zBZ e2 h'
    exact⟨s,a1,by rw[Nat.zero_add]at a2; exact a2⟩
   have only:∀ {j:Nat} {gc:G},isMut gc=true->(gs.map some)[j]?=some (some gc)->j=kk:=fun {j gc} mc h=>by
    obtain⟨s,a1,a2⟩:=get h
    by_cases hj:kk=j
    ·exact hj.symm
    ·cases s with
     | v t=>cases a2; cases mc
     | l xs=>simp[argG,hj]at a2; subst a2; cases mc
     | d xs=>simp[argG,hj]at a2; subst a2; cases mc
     | s i =>
      unfold argG at a2
      dsimp only at a2
      split at a2 <;> simp[hj]at a2 <;> (subst a2; cases mc)
   refine⟨by simp[hl,hgl],fun j g h=>?_,fun i j p' ga gb ma mb h1 h2 h3 h4=>(only ma h1).trans (only mb h2).symm,fun q hq=>?_,fun q hq=>.inl hq,fun q hq=>hq.1,fun q hq z=>hq.2 (List.mem_singleton.mp z),fun b o h _=>h,fun q hq=>?_⟩
   ·obtain⟨s,a1,a2⟩:=get h
    obtain⟨v,b1,b2⟩:=o1.get a1
    refine⟨v,by rw[List.getElem?_map,b1]; rfl,?_⟩
    by_cases hj:j=kk
    ·subst hj
     rw[hsk']at a1; cases a1
     rw[hag]at a2; cases a2
     rw[hvk]at b1; cases b1
     exact⟨p,us,rfl,List.mem_singleton.mpr rfl,hpu,hus⟩
    ·have hj':¬ kk=j:=fun z=>hj z.symm
     obtain⟨x1,x2⟩:=other j s hj a1
     cases s with
     | v t=>cases a2; exact b2
     | l xs' =>
      simp only[argG,Option.some.injEq,hj',if_false]at a2
      subst a2
      have b3:=b2
      obtain⟨q,us',rfl,n1,n2,ow,h1,h2⟩:=b2
      have hne:q≠p:=x2 xs' q rfl b3
      exact⟨q,us',rfl,h2,h1,fun z=>hne (List.mem_singleton.mp z),⟨_,h1⟩,hne⟩
     | s i =>
      have b2':σ[i]?=some (some v):=b2
      unfold argG at a2
      dsimp only at a2
      split at a2
      ·rename_i xs' hx
       simp only[Option.some.injEq,hj',if_false]at a2
       subst a2
       obtain⟨v',c1,q,us',rfl,c2,c3,c4⟩:=R1.val i _ hx
       rw[b2']at c1; cases c1
       have hne:q≠p:=fun z=>x1 i xs' rfl hx (z ▸ b2')
       exact⟨q,us',rfl,c4,c3,fun z=>hne (List.mem_singleton.mp z),⟨_,c3⟩,hne⟩
      ·rename_i xs' hx
       simp only[Option.some.injEq,hj',if_false]at a2
       subst a2
       obtain⟨v',c1,q,us',rfl,c2,c3⟩:=R1.val i _ hx
       rw[b2']at c1; cases c1
       have hne:q≠p:=fun z=>by
        subst z
        rcases hsort with ⟨_,_,_,_,m0⟩ | ⟨_,n1,n2,ow⟩
        ·exact c3.2.1 m0
        ·exact n2 c3.2.2
       exact⟨q,us',rfl,c2,c3.1,fun z=>hne (List.mem_singleton.mp z),R1.ra q c3.2.2,hne⟩
      ·rename_i xs' hx
       simp only[Option.some.injEq,hj',if_false]at a2
       subst a2
       obtain⟨v',c1,c2⟩:=R1.val i _ hx
       rw[b2']at c1; cases c1
       exact c2
      ·rename_i xs' hx
       simp only[Option.some.injEq,hj',if_false]at a2
       subst a2
       obtain⟨v',c1,q,us',rfl,c2,c3,c4⟩:=R1.val i _ hx
       rw[b2']at c1; cases c1
       have hne:q≠p:=fun z=>by subst z; rw[hpu]at c3; cases c3; exact zEP c4
       exact⟨q,us',rfl,c4,c3,fun z=>hne (List.mem_singleton.mp z),⟨_,c3⟩,hne⟩
      ·rename_i xs' hx
       simp only[Option.some.injEq,hj',if_false]at a2
       subst a2
       obtain⟨v',c1,q,us',rfl,c2,c3⟩:=R1.val i _ hx
       rw[b2']at c1; cases c1
       have hne:q≠p:=fun z=>by subst z; have c4:=c3.1; rw[hpu]at c4; cases c4; exact zEP c2
       exact⟨q,us',rfl,c2,c3.1,fun z=>hne (List.mem_singleton.mp z),R1.ra q c3.2.2,hne⟩
      ·cases a2
     | d xs' =>
      simp only[argG,Option.some.injEq,hj',if_false]at a2
      subst a2
      obtain⟨q,us',rfl,n1,n2,ow,h1,h2⟩:=b2
      have hne:q≠p:=fun z=>by subst z; rw[hpu]at h1; cases h1; exact zEP h2
      exact⟨q,us',rfl,h2,h1,fun z=>hne (List.mem_singleton.mp z),⟨_,h1⟩,hne⟩
   ·rw[List.mem_singleton.mp hq]; exact⟨_,hpu,trivial⟩
   ·rw[List.mem_singleton.mp hq]
    refine⟨by rw[List.getElem?_map,hvk]; rfl,xs,?_⟩
    obtain⟨gk,hgk⟩:∃ g,gs[kk]?=some g:=⟨gs[kk]'(by rw[hgl,← hss]; simp; omega),by simp⟩
    obtain⟨s,a1,a2⟩:=zBZ e2 hgk
    rw[hsk']at a1; cases a1
    rw[Nat.zero_add,hag]at a2; cases a2
    rw[List.getElem?_map,hgk]; rfl
  refine⟨hn,⟨[p],fun q=>(∃ o,H1 q=some o)/\q≠p⟩,gs,r,ys,e3,by rw[hpins]; exact Rc,by rw[hpins]; rfl,by rw[hpins]; exact fun q hq=>hq,fun v H2 ev hch hr=>?_⟩
  rw[hpins]at hch
  obtain⟨us2,hp2,hu2⟩:=hch (kk,p) (List.mem_singleton.mpr rfl)
  rcases hsort with ⟨i0,rfl,g0,s0,m0⟩ | ⟨rfl,n1,n2,ow⟩
  ·obtain⟨R2,ev2⟩:=R1.put2 g0 s0 ev hp2 hu2
   have hb:backS (some kk) Γ1 ss ys=Γ1.set i0 (some (.l ys)):=by unfold backS; dsimp only; rw[hsk]
   dsimp only at k
   rw[hb]at k
   exact k v H2 R2 (ev1.trans ev2) (resOk ev hr R1) (resNew hr)
  ·have hb:backS (some kk) Γ1 ss ys=Γ1:=by unfold backS; dsimp only; rw[hsk]
   dsimp only at k
   rw[hb]at k
   have R2:=R1.temp n1 n2 ow ⟨_,hpu,trivial⟩ ev
   refine k v H2 R2 (fun b o h n=>?_) (resOk ev hr R1) (resNew hr)
   by_cases z:b=p
   ·subst z
    have hv0:vs0[kk]?=some (.ref b):=by
     rw[← hvs,List.getElem?_append_left (by rw[hl0]; exact hkl)]at hvk; exact hvk
    obtain⟨p',e',hn'⟩:=n0.get hv0 hsk
    cases e'
    rw[hn']at h; cases h
   ·exact ev b o (ev1 b o h n) fun q=>z (List.mem_singleton.mp q)
end
def lsOf(Γ:En):S->Option (List T)
 | .l xs=>some xs
 | .s i=>match Γ[i]? with
  | some (some (.l xs))=>some xs
  | some (some (.r xs))=>some xs
  | _=>none
 | .v _=>none
 | .d _=>none
def sqlOf(Γ:En):S->Option (List T)
 | .l xs=>some xs
 | .s i=>match Γ[i]? with
  | some (some (.l xs))=>some xs
  | some (some (.r xs))=>some xs
  | some (some (.k xs))=>some xs
  | _=>none
 | .v (.l xs)=>some xs
 | .v _=>none
 | .d _=>none
section
variable {K:Fg}{C:Fr}{w:W}{Γ:En}{σ:St}{H:Hp}
theorem zFW{x:V}{s:S}{xs:List T}(R:Rep K C w Γ σ H)(o:SOk K C w σ H x s)(e:lsOf Γ s=some xs):∃ p vs,x=.ref p/\H p=some (.lst vs)/\Ims K H vs xs:=by
 cases s with
 | v t=>cases e
 | d _=>cases e
 | l ys=>cases e; obtain⟨p,vs,rfl,_,_,_,h1,h2⟩:=o; exact⟨p,vs,rfl,h1,h2⟩
 | s i =>
  have o':σ[i]?=some (some x):=o
  unfold lsOf at e
  dsimp only at e
  split at e
  ·rename_i ys h
   cases e
   obtain⟨v,e1,p,vs,rfl,_,h1,h2⟩:=R.val i _ h
   rw[o']at e1; cases e1
   exact⟨p,vs,rfl,h1,h2⟩
  ·rename_i ys h
   cases e
   obtain⟨v,e1,p,vs,rfl,h1,h2,_⟩:=R.val i _ h
   rw[o']at e1; cases e1
   exact⟨p,vs,rfl,h2,h1⟩
  ·cases e
theorem zBO{x:V}{s:S}{xs:List T}(R:Rep K C w Γ σ H)(o:SOk K C w σ H x s)(e:sqlOf Γ s=some xs):∃ p vs,x=.ref p/\SqL K H p vs/\Ims K H vs xs:=by
 cases s with
 | v t =>
  cases t with
  | l ys =>
   cases e
   obtain⟨p,vs,rfl,h1,h2⟩:=(show Im K H x (.l xs) from o).invl
   exact⟨p,vs,rfl,h1.sq,h2⟩
  | a _=>cases e
  | t _=>cases e
  | f _=>cases e
  | x _ _=>cases e
 | d _=>cases e
 | l ys=>cases e; obtain⟨p,vs,rfl,_,_,_,h1,h2⟩:=o; exact⟨p,vs,rfl,SqL.of h1,h2⟩
 | s i =>
  have o':σ[i]?=some (some x):=o
  unfold sqlOf at e
  dsimp only at e
  split at e
  ·rename_i ys h
   cases e
   obtain⟨v,e1,p,vs,rfl,_,h1,h2⟩:=R.val i _ h
   rw[o']at e1; cases e1
   exact⟨p,vs,rfl,SqL.of h1,h2⟩
  ·rename_i ys h
   cases e
   obtain⟨v,e1,p,vs,rfl,h1,h2,_⟩:=R.val i _ h
   rw[o']at e1; cases e1
   exact⟨p,vs,rfl,SqL.of h2,h1⟩
  ·rename_i ys h
   cases e
   obtain⟨v,e1,p,vs,rfl,h1,h2⟩:=R.val i _ h
   rw[o']at e1; cases e1
   exact⟨p,vs,rfl,h2.sq,h1⟩
  ·cases e
end
def iS:S->Option Int
 | .v (.a (.int i))=>some i
 | _=>none
def mkI(i:Int):S:=.v (.a (.int i))
def mkB(b:Bool):S:=.v (.a (.bl b))
section
variable {K:Fg}{C:Fr}{w:W}{Γ:En}{σ:St}{H:Hp}
theorem zB5{x:V}{s:S}{i:Int}(o:SOk K C w σ H x s)(e:iS s=some i):x=.int i:=by
 unfold iS at e
 split at e
 ·cases e; exact o.inva
 ·cases e
end
def inR(b:Nat):Int->Bool
 | .ofNat n=>Nat.ble n b
 | .negSucc n=>Nat.ble n b
theorem zDL{b:Nat}{i:Int}:inR b i=true ↔ -((b:Int)+1)<=i/\i<=b:=by
 cases i with
 | ofNat n =>
  simp only[inR,Nat.ble_eq,Int.ofNat_eq_natCast]
  omega
 | negSucc n =>
  simp only[inR,Nat.ble_eq,Int.negSucc_eq]
  omega
theorem inR62{i:Int}(h:inR 4611686018427387903 i=true):-(2 ^ 62)<=i/\i < 2 ^ 62:=by have:=zDL.mp h; omega
theorem inR63{i:Int}(h:inR 9223372036854775807 i=true):-(2 ^ 63)<=i/\i < 2 ^ 63:=by have:=zDL.mp h; omega
theorem zCP{b n:Nat}(h:n<=b):inR b (n:Int)=true:=zDL.mpr ⟨by omega,by omega⟩
def opII(g:Int->Int->V):En->S->S->Option S:=fun _ a b=>(iS a).bind fun i=>(iS b).bind fun j=>some (.v (.a (g i j)))
def opIIc(c:Int->Int->Prop) [∀ i j,Decidable (c i j)] (g:Int->Int->V):En->S->S->Option S:=fun _ a b=>(iS a).bind fun i=>(iS b).bind fun j=>if c i j then some (.v (.a (g i j))) else none
theorem zBz{K:Fg}{g:Int->Int->V}:SimR2 K (rI0 g) (opII g):=by
 intro C w Γ σ H x y a b s Q R ox oy e k
 obtain⟨i,e1,e⟩:=bind_some e
 obtain⟨j,e2,e⟩:=bind_some e
 cases e
 exact⟨i,j,zB5 ox e1,zB5 oy e2,k _ H R .refl SOk.atom trivial⟩
theorem zCc{K:Fg}{c:Int->Int->Prop} [∀ i j,Decidable (c i j)] {g:Int->Int->V}:SimR2 K (rI c g) (opIIc c g):=by
 intro C w Γ σ H x y a b s Q R ox oy e k
 obtain⟨i,e1,e⟩:=bind_some e
 obtain⟨j,e2,e⟩:=bind_some e
 split at e
 ·rename_i hc
  cases e
  exact⟨i,j,zB5 ox e1,zB5 oy e2,hc,k _ H R .refl SOk.atom trivial⟩
 ·cases e
theorem zMq{i j:Int}:((inR 18446744073709551615 i && inR 18446744073709551615 (-i)) || (inR 18446744073709551615 j && inR 18446744073709551615 (-j)))=true ↔ CMul i j:=by
 unfold CMul
 simp only[Bool.or_eq_true,Bool.and_eq_true,zDL]
 omega
instance (i j:Int):Decidable (CMul i j):=decidable_of_iff _ zMq
instance (i j:Int):Decidable (CDiv i j):=by unfold CDiv; infer_instance
instance (i j:Int):Decidable (CPow i j):=by unfold CPow; infer_instance
theorem SimR2.or{K:Fg}{r r':R2}{h h':En->S->S->Option S}(a:SimR2 K r h)(b:SimR2 K r' h'):SimR2 K (fun x y H Q=>r x y H Q\/r' x y H Q) (fun Γ x y=>(h Γ x y).or (h' Γ x y)):=by
 intro C w Γ σ H x y s1 s2 s Q R ox oy e k
 dsimp only at e
 cases q:h Γ s1 s2 with
 | some z =>
  rw[q,Option.some_or]at e
  cases e
  exact .inl (a C w Γ σ H x y s1 s2 _ Q R ox oy q k)
 | none =>
  rw[q,Option.none_or]at e
  exact .inr (b C w Γ σ H x y s1 s2 _ Q R ox oy e k)
def addStr:En->S->S->Option S:=fun _ a b=>match a,b with
 | .v (.a (.str x)),.v (.a (.str y))=>gd (x.length+y.length) (.v (.a (.str (x++y))))
 | _,_=>none
def rAddStr:R2:=fun x y H Q=>∃ i j,x=.str i/\y=.str j/\i.length+j.length<=sizeLine/\Q (.str (i++j)) H
theorem zGd{K:Fg}:SimR2 K rAddStr addStr:=by
 intro C w Γ σ H x y a b s Q R ox oy e k
 unfold addStr at e
 split at e
 ·obtain⟨h,e⟩:=zBP e
  cases e
  exact⟨_,_,ox.inva,oy.inva,h,k _ H R .refl SOk.atom trivial⟩
 ·cases e
def rCatS(K:Fg):R2:=fun x y H Q=>∃ a b xs ys,x=.ref a/\y=.ref b/\Tp K H a xs/\Tp K H b ys/\xs.length+ys.length<=sizeLine/\∀ p H',Same H H'->Tp K H' p (xs++ys)->Q (.ref p) H'
open PySem.Spec PyProof.Rows in
theorem zMA{X:Cx}:OpR X (binaryOp .Add) (rCatS X.K):=by
 intro pins s σ H x y v u Q I rx ry h
 obtain⟨a,b,xs,ys,rfl,rfl,ha,hb,hz,q⟩:=h
 cases rx
 cases ry
 obtain⟨its,r1,t1,z1⟩:=I.tuple ha.sq
 obtain⟨its2,r2,t2,z2⟩:=I.tuple hb.sq
 by_cases hx:xs=[]
 ·subst hx
  have e:its=[]:=by have:=r1.length; simpa using this.symm
  subst e
  obtain⟨⟨cls,dd,data,sl⟩,ho,hc,n,hd⟩:=id t1
  obtain⟨⟨cls2,dd2,data2,sl2⟩,ho2,hc2,n2,hd2⟩:=id t2
  simp only at hc hd hc2 hd2
  subst hc hd hc2 hd2
  refine concat_meets ⟨_,ho,rfl⟩ ⟨_,ho2,rfl⟩ noFill_tuple_add seq_tuple_add PySem.F.slot_tuple_add PySem.F.entry_tuple_add (PySem.F.args_tuple_add_2 _ _)
   (tuple_addW0 a b _ its2.toArray n n2 dd dd2 sl sl2 (by simp)) ⟨ho,ho2,?_⟩
  exact⟨.ref b,H,I,rfl,q b H (Same.refl H) (by simpa using hb)⟩
 ·have hne:its≠[]:=fun e=>hx (by have:=r1.length; rw[e]at this; simpa using this)
  refine HT.cat_tup t1 t2 hne (fun e=>?_) (fun e=>?_) (by rw[← r1.length,← r2.length]; exact hz)
  ·have ey:ys=[]:=by have:=r2.length; rw[e]at this; simpa using this
   subst ey
   exact⟨.ref a,H,I,rfl,q a H (Same.refl H) (by simpa using ha)⟩
  ·have hf:H s.heap.objs.size=none:=I.hok.fresh (Nat.le_refl _)
   refine⟨.ref s.heap.objs.size,_,I.laid (t':=s.toks) (fun b o e=>Heap.get?_push_of_some _ e) (Nat.le_refl _) (show ObjOk X.prog X.w _ _ _ (.tup (xs++ys)) from ⟨by simpa using hz,its++its2,r1.append r2,TupD.new _ _⟩),rfl,q _ _ (Same.upd hf) (.inl zAg)⟩
def addTup:En->S->S->Option S:=fun _ a b=>match a,b with
 | .v (.t xs),.v (.t ys)=>gd (xs.length+ys.length) (.v (.t (xs++ys)))
 | _,_=>none
theorem zFf{K:Fg}:SimR2 K (rCatS K) addTup:=by
 intro C w Γ σ H x y a b s Q R ox oy e k
 unfold addTup at e
 split at e
 ·obtain⟨h,e⟩:=zBP e
  cases e
  obtain⟨p,vs,rfl,h1,i1⟩:=ox.invt
  obtain⟨q,us,rfl,h2,i2⟩:=oy.invt
  refine⟨p,q,vs,us,rfl,rfl,h1,h2,by rw[i1.len,i2.len]; exact h,fun c H' sm hc=>k _ H' (R.same sm) (.of_same sm) ?_ trivial⟩
  have ev:Evo w.L H H':=.of_same sm
  show Im K H' (.ref c) (.t _)
  unfold Im
  exact⟨c,_,rfl,hc,(i1.evo ev R.lst).app (i2.evo ev R.lst)⟩
 ·cases e
def addLst:En->S->S->Option S:=fun Γ a b=>(lsOf Γ a).bind fun xs=>(lsOf Γ b).bind fun ys=>gd (xs.length+ys.length) (.l (xs++ys))
theorem zFg{K:Fg}:SimR2 K rCat addLst:=by
 intro C w Γ σ H x y a b s Q R ox oy e k
 obtain⟨xs,e1,e⟩:=bind_some e
 obtain⟨ys,e2,e⟩:=bind_some e
 obtain⟨h,e⟩:=zBP e
 cases e
 obtain⟨p,vs,rfl,h1,i1⟩:=zFW R ox e1
 obtain⟨q,us,rfl,h2,i2⟩:=zFW R oy e2
 exact⟨p,q,vs,us,rfl,rfl,h1,h2,by rw[i1.len,i2.len]; exact h,fun c hc=>k _ _ (R.new hc) (Evo.new hc) (R.newl hc (i1.app i2)) ⟨c,rfl,hc⟩⟩
def addS:En->S->S->Option S:=fun Γ x y=>((opII fun i j=>.int (i+j)) Γ x y).or ((addTup Γ x y).or ((addLst Γ x y).or (addStr Γ x y)))
def rAddS(K:Fg):R2:=fun x y H Q=>rI0 (fun i j=>.int (i+j)) x y H Q\/rCatS K x y H Q\/rCat x y H Q\/rAddStr x y H Q
theorem zJH{K:Fg}:SimR2 K (rAddS K) addS:=zBz.or (zFf.or (zFg.or zGd))
theorem zNX{X:Cx}:OpR X (binaryOp .Add) (rAddS X.K):=zOI.or (zMA.or (zOC.or zIV))
def fitM(n:Nat)(k:Int):Bool:=inR 9223372036854775807 k && Nat.ble (n * k.toNat) sizeLine
def mulLst:En->S->S->Option S:=fun Γ a b=>(lsOf Γ a).bind fun xs=>(iS b).bind fun k=>if fitM xs.length k=true then some (.l (List.replicate k.toNat xs).flatten) else none
theorem Ims.rep{K:Fg}{H:Hp}{vs:List V}{ts:List T}(h:Ims K H vs ts):∀ n:Nat,Ims K H (List.replicate n vs).flatten (List.replicate n ts).flatten
 | 0=>.nil
 | n+1=>by rw[List.replicate_succ,List.replicate_succ,List.flatten_cons,List.flatten_cons]; exact h.app (h.rep n)
theorem zGN{K:Fg}:SimR2 K rRep mulLst:=by
 intro C w Γ σ H x y a b s Q R ox oy e k
 obtain⟨xs,e1,e⟩:=bind_some e
 obtain⟨n,e2,e⟩:=bind_some e
 split at e
 ·rename_i h
  cases e
  unfold fitM at h
  rw[Bool.and_eq_true]at h
  have h0:=inR63 h.1
  have h3:=Nat.le_of_ble_eq_true h.2
  obtain⟨p,vs,rfl,h1,i1⟩:=zFW R ox e1
  exact⟨p,n,vs,rfl,zB5 oy e2,h1,h0.1,h0.2,by rw[i1.len]; exact h3,fun c hc=>k _ _ (R.new hc) (Evo.new hc) (R.newl hc (i1.rep _)) ⟨c,rfl,hc⟩⟩
 ·cases e
def mulS:En->S->S->Option S:=fun Γ x y=>(opIIc CMul (fun i j=>.int (i * j)) Γ x y).or (mulLst Γ x y)
def rMulS:R2:=fun x y H Q=>rI CMul (fun i j=>.int (i * j)) x y H Q\/rRep x y H Q
theorem zE2{K:Fg}:SimR2 K rMulS mulS:=zCc.or zGN
theorem zHJ{X:Cx}:OpR X (binaryOp .Mult) rMulS:=zOT.or zOa
def modS:En->S->S->Option S:=opIIc (fun _ j=>0 < j) fun i j=>.int (i % j)
def fdivS:En->S->S->Option S:=opIIc CDiv fun i j=>.int (i / j)
def powS:En->S->S->Option S:=opIIc CPow fun i j=>.int (i ^ j.toNat)
def subS:En->S->S->Option S:=opII fun i j=>.int (i - j)
def ltS:En->S->S->Option S:=opII fun i j=>.bl (decide (i < j))
def gtS:En->S->S->Option S:=opII fun i j=>.bl (decide (j < i))
def geS:En->S->S->Option S:=opII fun i j=>.bl (decide (j<=i))
def negS:En->S->Option S:=fun _ a=>(iS a).map fun i=>mkI (-i)
theorem zJI{K:Fg}:SimR1 K (rU fun i=>.int (-i)) negS:=by
 intro C w Γ σ H x a s Q R ox e k
 obtain⟨i,e1,e⟩:=zAH e
 cases e
 exact⟨i,zB5 ox e1,k _ H R .refl SOk.atom trivial⟩
def ixS:En->S->S->Option S:=fun Γ a b=>(iS b).bind fun i=>match a with
 | .v (.t xs)=>(atI xs i).map .v
 | .v (.a (.str z))=>if z.length<=sizeLine then (atI z.cps.toList i).map fun c=>.v (.a (.str ⟨#[c]⟩)) else none
 | a=>(sqlOf Γ a).bind fun xs=>(atI xs i).map .v
theorem zG3{K:Fg}{H:Hp}{vs:List V}{ts:List T}{i:Int}{t:T}(h:Ims K H vs ts)(e:atI ts i=some t):∃ v,atI vs i=some v/\Im K H v t:=by
 unfold atI at e ⊢
 rw[h.len]
 obtain⟨j,e1,e⟩:=bind_some e
 obtain⟨v,e2,hv⟩:=h.get e
 exact⟨v,by rw[e1]; exact e2,hv⟩
theorem zLE{K:Fg}:SimR2 K (rIx K) ixS:=by
 intro C w Γ σ H x y a b s Q R ox oy e k
 obtain⟨i,e1,e⟩:=bind_some e
 have hy:=zB5 oy e1
 split at e
 ·rename_i xs
  obtain⟨t,e2,e⟩:=zAH e
  cases e
  obtain⟨p,vs,rfl,h1,i1⟩:=ox.invt
  obtain⟨v,e3,hv⟩:=zG3 i1 e2
  exact .inr (.inl ⟨p,vs,i,v,rfl,hy,h1.sq,e3,k v H R .refl hv trivial⟩)
 ·rename_i z
  split at e
  ·rename_i hz
   obtain⟨c,e2,e⟩:=zAH e
   cases e
   exact .inr (.inr ⟨_,i,c,ox.inva,hy,hz,e2,k _ H R .refl SOk.atom trivial⟩)
  ·cases e
 ·obtain⟨xs,e2,e⟩:=bind_some e
  obtain⟨t,e3,e⟩:=zAH e
  cases e
  obtain⟨p,vs,rfl,h1,i1⟩:=zBO R ox e2
  obtain⟨v,e4,hv⟩:=zG3 i1 e3
  exact .inl ⟨p,vs,i,v,rfl,hy,h1,e4,k v H R .refl hv trivial⟩
def lenS:En->List S->Option S:=fun Γ as=>match as with
 | [.v (.t xs)]=>some (mkI xs.length)
 | [.v (.a (.str z))]=>if z.length<=sizeLine then some (mkI z.length) else none
 | [a]=>(sqlOf Γ a).map fun xs=>mkI xs.length
 | _=>none
def rLenS(K:Fg):List V->Hp->VK->Prop:=fun xs H Q=>(∃ p ys,xs=[.ref p]/\(SqL K H p ys\/SqT K H p ys)/\Q (.int ys.length) H)\/(∃ z,xs=[.str z]/\z.length<=sizeLine/\Q (.int z.length) H)
theorem soks1{K:Fg}{C:Fr}{w:W}{σ:St}{H:Hp}{vs:List V}{a:S}(h:SOks K C w σ H vs [a]):∃ v,vs=[v]/\SOk K C w σ H v a:=by
 match vs,h with
 | [v],h=>exact⟨v,rfl,h.1⟩
theorem soks2{K:Fg}{C:Fr}{w:W}{σ:St}{H:Hp}{vs:List V}{a b:S}(h:SOks K C w σ H vs [a,b]):∃ v u,vs=[v,u]/\SOk K C w σ H v a/\SOk K C w σ H u b:=by
 match vs,h with
 | [v,u],h=>exact⟨v,u,rfl,h.1,h.2.1⟩
theorem zJU{K:Fg}:SimRs K (rLenS K) lenS:=by
 intro C w Γ σ H vs as s Q R o e k
 unfold lenS at e
 split at e
 ·cases e
  obtain⟨v,rfl,o1⟩:=soks1 o
  obtain⟨p,us,rfl,h1,i1⟩:=o1.invt
  refine .inl ⟨p,us,rfl,.inr h1.sq,?_⟩
  rw[i1.len]
  exact k _ H R .refl SOk.atom trivial
 ·rename_i z
  split at e
  ·rename_i hz
   cases e
   obtain⟨v,rfl,o1⟩:=soks1 o
   exact .inr ⟨z,by rw[o1.inva],hz,k _ H R .refl SOk.atom trivial⟩
  ·cases e
 ·obtain⟨xs,e1,e⟩:=zAH e
  cases e
  obtain⟨v,rfl,o1⟩:=soks1 o
  obtain⟨p,us,rfl,h1,i1⟩:=zBO R o1 e1
  refine .inl ⟨p,us,rfl,.inl h1,?_⟩
  rw[i1.len]
  exact k _ H R .refl SOk.atom trivial
 ·cases e
theorem zJG{X:Cx}:CallR X (.builtin "len") (rLenS X.K):=zF3.or zF5
def seqS(Γ:En):S->Option (List T)
 | .v (.t xs)=>some xs
 | a=>sqlOf Γ a
theorem zDk{K:Fg}{C:Fr}{w:W}{Γ:En}{σ:St}{H:Hp}{x:V}{s:S}{xs:List T}(R:Rep K C w Γ σ H)(o:SOk K C w σ H x s)(e:seqS Γ s=some xs):∃ p vs,x=.ref p/\(SqL K H p vs\/SqT K H p vs)/\Ims K H vs xs:=by
 unfold seqS at e
 split at e
 ·cases e
  obtain⟨p,us,rfl,h1,i1⟩:=o.invt
  exact⟨p,us,rfl,.inr h1.sq,i1⟩
 ·obtain⟨p,us,rfl,h1,i1⟩:=zBO R o e
  exact⟨p,us,rfl,.inl h1,i1⟩
def tupleS:En->List S->Option S:=fun Γ as=>match as with
 | [.v (.t xs)]=>some (.v (.t xs))
 | [a]=>(sqlOf Γ a).map fun xs=>.v (.t xs)
 | _=>none
theorem zGg{K:Fg}:SimRs K (fun xs H Q=>∃ p ys,xs=[.ref p]/\((SqL K H p ys/\∀ l,H l=none->Q (.ref l) (upd H l (.tup ys)))\/(SqT K H p ys/\Q (.ref p) H))) tupleS:=by
 intro C w Γ σ H vs as s Q R o e k
 unfold tupleS at e
 split at e
 ·cases e
  obtain⟨v,rfl,o1⟩:=soks1 o
  have o2:=o1
  obtain⟨p,us,rfl,h1,i1⟩:=o1.invt
  exact⟨p,us,rfl,.inr ⟨h1.sq,k _ H R .refl o2 trivial⟩⟩
 ·obtain⟨xs,e1,e⟩:=zAH e
  cases e
  obtain⟨v,rfl,o1⟩:=soks1 o
  obtain⟨p,us,rfl,h1,i1⟩:=zBO R o1 e1
  exact⟨p,us,rfl,.inl ⟨h1,fun l hl=>k _ _ (R.new hl) (Evo.new hl) (R.newt hl i1) trivial⟩⟩
 ·cases e
abbrev DO:=En->Option (Option Int×En)
def SimO(K:Fg)(t:TO)(f:DO):Prop:=∀ (C:Fr) (w:W) (Γ:En) (σ:St) (H:Hp) (i:Option Int) (Γ':En) (Q:Option Int->Hp->Prop),Rep K C w Γ σ H->f Γ=some (i,Γ')->(∀ H',Rep K C w Γ' σ H'->Evo w.L H H'->Q i H')->t σ H Q
def dNoPart:DO:=fun Γ=>some (none,Γ)
def dPart(f:DE):DO:=fun Γ=>(f Γ).bind fun p=>(iS p.1).map fun i=>(some i,p.2)
theorem zIc{K:Fg}:SimO K tNoPart dNoPart:=fun C w Γ σ H i Γ' Q R e k=>by cases e; exact k H R .refl
theorem zLa{K:Fg}{t:TE}{f:DE}(h:SimE K t f):SimO K (tPart t) (dPart f):=by
 intro C w Γ σ H i Γ' Q R e k
 obtain⟨p,e1,e⟩:=bind_some e
 obtain⟨i,e2,e⟩:=zAH e
 cases e
 exact h C w Γ σ H p.1 p.2 _ R e1 fun v H1 R1 ev o _=>⟨i,zB5 o e2,k H1 R1 ev⟩
def cutT(xs:List T)(lo hi:Option Int):List T:=(xs.drop (HT.sIx xs.length 0 lo)).take (HT.sIx xs.length xs.length hi - HT.sIx xs.length 0 lo)
theorem Ims.cut{K:Fg}{H:Hp}{vs:List V}{ts:List T}(h:Ims K H vs ts)(lo hi:Option Int):Ims K H (cutV vs lo hi) (cutT ts lo hi):=by
 unfold cutV cutT
 rw[h.len]
 exact (h.drop _).take _
def slS(Γ:En)(lo hi:Option Int):S->Option S
 | .v (.t xs)=>some (.v (.t (cutT xs lo hi)))
 | .v (.a _)=>none
 | a=>(sqlOf Γ a).map fun xs=>.l (cutT xs lo hi)
def dSl(f:DE)(lo hi:DO):DE:=fun Γ=>(f Γ).bind fun p=>(lo p.2).bind fun l=>(hi l.2).bind fun h=>(slS h.2 l.1 h.1 p.1).map fun s=>(s,h.2)
def rSlTS(K:Fg):V->Option Int->Option Int->Hp->VK->Prop:=fun x lo hi H Q=>∃ a xs,x=.ref a/\Tp K H a xs/\∀ p H',Same H H'->Tp K H' p (cutV xs lo hi)->Q (.ref p) H'
theorem zLr{X:Cx}:SlR X (rSlTS X.K):=by
 intro pins s σ H x v vl vu lo hi sl Q I rx hs pl pu h
 obtain⟨a,xs,rfl,hx,q⟩:=h
 cases rx
 obtain⟨its,r,ht,hz⟩:=I.tuple hx.sq
 have hlen:its.toArray.size=xs.length:=by rw[List.size_toArray]; exact r.length.symm
 refine⟨"tuple",_,PyProof.Rows.slot_tuple_getitem.lookup,ht.typeIs,?_⟩
 by_cases hw:HT.sIx xs.length 0 lo=0/\HT.sIx xs.length xs.length hi=xs.length
 ·refine zCr ht hs pl pu (by rw[hlen]; exact hw) ⟨.ref a,H,I,rfl,q a H (Same.refl H) ?_⟩
  unfold cutV
  rw[hw.1,hw.2,List.drop_zero,Nat.sub_zero,List.take_of_length_le (Nat.le_refl _)]
  exact hx
 ·refine HT.qY ht hs pl pu (by rw[hlen]; exact hw) ?_ (by rw[hlen]; exact hz)
  rw[hlen]
  have hf:H s.heap.objs.size=none:=I.hok.fresh (Nat.le_refl _)
  refine⟨.ref s.heap.objs.size,_,I.laid (t':=s.toks) (o:=.tup (cutV xs lo hi)) (fun b ob q=>Heap.get?_push_of_some _ q) (Nat.le_refl _) ?_,rfl,q _ _ (Same.upd hf) (.inl zAg)⟩
  exact⟨Nat.le_trans (zDP xs lo hi) hz,_,(r.drop (HT.sIx xs.length 0 lo)).take (HT.sIx xs.length xs.length hi - HT.sIx xs.length 0 lo),TupD.new _ _⟩
def rSlS(K:Fg):V->Option Int->Option Int->Hp->VK->Prop:=fun x lo hi H Q=>rSlTS K x lo hi H Q\/rSlL K x lo hi H Q
theorem sl_S{X:Cx}:SlR X (rSlS X.K):=zLr.or zMx
theorem zN1{K:Fg}{te:TE}{f:DE}{tl th:TO}{lo hi:DO}(he:SimE K te f)(hl:SimO K tl lo)(hh:SimO K th hi):SimE K (tSl (rSlS K) te tl th) (dSl f lo hi):=by
 intro C w Γ σ H s Γ' Q R e k
 obtain⟨⟨a,G1⟩,e1,e⟩:=bind_some e
 obtain⟨⟨i,G2⟩,e2,e⟩:=bind_some e
 obtain⟨⟨j,G3⟩,e3,e⟩:=bind_some e
 obtain⟨z,e4,e⟩:=zAH e
 cases e
 dsimp only at e4
 refine he C w Γ σ H a G1 _ R e1 fun v H1 R1 ev1 o1 n1=>?_
 refine hl C w G1 σ H1 i G2 _ R1 e2 fun H2 R2 ev2=>?_
 refine hh C w G2 σ H2 j G3 _ R2 e3 fun H3 R3 ev3=>?_
 have o3:=(o1.evo ev2 R1.lst).evo ev3 R2.lst
 have ev:=(ev1.trans ev2).trans ev3
 unfold slS at e4
 split at e4
 ·cases e4
  obtain⟨p,us,rfl,h1,i1⟩:=o3.invt
  refine .inl ⟨p,us,rfl,h1,fun c H' sm hc=>k _ H' (R3.same sm) (ev.trans (.of_same sm)) ?_ trivial⟩
  show Im K H' (.ref c) (.t _)
  unfold Im
  exact⟨c,_,rfl,hc,(i1.evo (.of_same sm) R3.lst).cut _ _⟩
 ·cases e4
 ·obtain⟨xs,e5,e4⟩:=zAH e4
  cases e4
  obtain⟨p,us,rfl,h1,i1⟩:=zBO R3 o3 e5
  exact .inr ⟨p,us,rfl,h1,fun c hc=>k _ _ (R3.new hc) (ev.trans (Evo.new hc)) (R3.newl hc (i1.cut _ _)) ⟨c,rfl,zAz ev R3.lst hc⟩⟩
def SimMut(K:Fg)(r:V->List V->Hp->VK->Prop)(h:En->List T->List S->Option (T×List T)):Prop:=∀ (C:Fr) (w:W) (Γ:En) (σ:St) (H:Hp) (l:Addr) (us:List V) (xs:List T) (vs:List V) (as:List S) (t:T) (ys:List T) (Q:VK),Rep K C w Γ σ H->H l=some (.lst us)->Ims K H us xs->us.length<=sizeLine->SOks K C w σ H vs as->h Γ xs as=some (t,ys) ->
 (∀ v us',Ims K H us' ys->Im K H v t->Q v (upd H l (.lst us')))->r (.ref l) vs H Q
def isLs(Γ:En)(i:Nat):Bool:=match Γ[i]? with
 | some (some (.l _))=>true
 | _=>false
def dMut(i:Nat)(h:En->List T->List S->Option (T×List T))(fa:DA):DE:=fun Γ=>if isLs Γ i=true then (fa Γ).bind fun p=>match p.2[i]? with
 | some (some (.l xs))=>(gd xs.length ()).bind fun _=>(h p.2 xs p.1).map fun q=>(.v q.1,p.2.set i (some (.l q.2)))
 | _=>none
 else none
theorem zHL{K:Fg}{C:Fr}{w:W}{Γ:En}{σ:St}{H:Hp}{i:Nat}(R:Rep K C w Γ σ H)(h:isLs Γ i=true):∃ p vs,σ[i]?=some (some (.ref p))/\H p=some (.lst vs):=by
 unfold isLs at h
 split at h
 ·rename_i xs e
  obtain⟨v,e1,p,vs,rfl,_,h1,_⟩:=R.val i _ e
  exact⟨p,vs,e1,h1⟩
 ·cases h
theorem zG7{K:Fg}{i:Nat}{r:V->List V->Hp->VK->Prop}{h:En->List T->List S->Option (T×List T)}{ta:TA}{fa:DA}(hr:SimMut K r h)(ha:SimA K ta fa):SimE K (tBM K "list" r (tVar i) ta) (dMut i h fa):=by
 intro C w Γ σ H s Γ' Q R e k
 unfold dMut at e
 split at e
 rotate_left
 ·cases e
 rename_i hl
 obtain⟨p,vs,e1,e2⟩:=zHL R hl
 obtain⟨⟨as,G1⟩,e3,e⟩:=bind_some e
 dsimp only at e
 split at e
 rotate_left
 ·cases e
 rename_i xs hx
 obtain⟨_,eg,e⟩:=bind_some e
 obtain⟨hsz,_⟩:=zBP eg
 obtain⟨⟨t,ys⟩,e4,e⟩:=zAH e
 cases e
 refine⟨.ref p,e1,.inl ⟨rfl,vs,SqL.of e2⟩,?_⟩
 refine ha C w Γ σ H as G1 _ R e3 fun us H1 R1 ev1 o1 n1=>?_
 obtain⟨v,s1,q,ws,rfl,m1,h1,i1⟩:=R1.val i _ hx
 rw[e1]at s1; cases s1
 refine hr C w G1 σ H1 p ws xs us as t ys _ R1 h1 i1 (by rw[i1.len]; exact hsz) o1 e4 fun v us' hu hv=>?_
 obtain⟨R2,ev2⟩:=R1.put hx e1 hu
 exact k v _ R2 (ev1.trans ev2) (hv.evo ev2 R1.lst) trivial
theorem zLc{K:Fg}{i:Nat}{r:V->List V->Hp->VK->Prop}{h:En->List T->List S->Option (T×List T)}(hr:SimMut K r h):SimE K (tBM0 K "list" r (tVar i)) (dMut i h qQ):=by
 intro C w Γ σ H s Γ' Q R e k
 have:=zG7 (i:=i) hr (zHF (K:=K)) C w Γ σ H s Γ' Q R e k
 obtain⟨v,e1,e2,e3⟩:=this
 exact⟨v,e1,e2,e3⟩
def hAppend:En->List T->List S->Option (T×List T):=fun _ xs as=>match as with
 | [.v t]=>if xs.length < sizeLine then some (.a .non,xs++[t]) else none
 | _=>none
theorem zBh{K:Fg}:SimMut K rAppend hAppend:=by
 intro C w Γ σ H l us xs vs as t ys Q R hl hi hz o e k
 unfold hAppend at e
 split at e
 ·rename_i t'
  split at e
  ·rename_i hn
   cases e
   obtain⟨v,rfl,o1⟩:=soks1 o
   exact⟨l,us,v,rfl,rfl,hl,by rw[hi.len]; exact hn,k _ _ (hi.app (.one o1)) Im.atom⟩
  ·cases e
 ·cases e
def hPop:En->List T->List S->Option (T×List T):=fun _ xs as=>match as with
 | []=>(xs[xs.length - 1]?).map fun t=>(t,xs.dropLast)
 | _=>none
theorem Ims.dropLast{K:Fg}{H:Hp}{vs:List V}{ts:List T}(h:Ims K H vs ts):Ims K H vs.dropLast ts.dropLast:=by
 rw[List.dropLast_eq_take,List.dropLast_eq_take,h.len]; exact h.take _
theorem soks0{K:Fg}{C:Fr}{w:W}{σ:St}{H:Hp}{vs:List V}(h:SOks K C w σ H vs []):vs=[]:=by
 match vs,h with
 | [],_=>rfl
theorem zEc{K:Fg}:SimMut K rPop hPop:=by
 intro C w Γ σ H l us xs vs as t ys Q R hl hi hz o e k
 unfold hPop at e
 split at e
 ·obtain⟨t',e1,e⟩:=zAH e
  cases e
  obtain⟨v,e2,hv⟩:=hi.get e1
  exact⟨l,us,v,rfl,soks0 o,hl,by rw[hi.len]; exact e2,k _ _ hi.dropLast hv⟩
 ·cases e
def hPopAt:En->List T->List S->Option (T×List T):=fun _ xs as=>match as with
 | [.v (.a (.int i))]=>if inR 9223372036854775807 i=true then (seqIndex? i xs.length).bind fun k=>(xs[k]?).map fun t=>(t,xs.eraseIdx k) else none
 | _=>none
theorem zKS{K:Fg}:SimMut K rPopAt hPopAt:=by
 intro C w Γ σ H l us xs vs as t ys Q R hl hi hz o e k
 unfold hPopAt at e
 split at e
 ·rename_i i
  split at e
  ·rename_i hb
   have hb:=inR63 hb
   obtain⟨j,e1,e⟩:=bind_some e
   obtain⟨t',e2,e⟩:=zAH e
   cases e
   obtain⟨v,rfl,o1⟩:=soks1 o
   obtain⟨y,e3,hy⟩:=hi.get e2
   exact⟨l,us,i,j,y,rfl,by rw[o1.inva],hl,hb.1,hb.2,by rw[hi.len]; exact e1,e3,k _ _ (hi.erase _) hy⟩
  ·cases e
 ·cases e
def hExtend:En->List T->List S->Option (T×List T):=fun Γ xs as=>match as with
 | [a]=>(lsOf Γ a).bind fun zs=>gd (xs.length+zs.length) (.a .non,xs++zs)
 | _=>none
theorem zD2{K:Fg}:SimMut K rExtend hExtend:=by
 intro C w Γ σ H l us xs vs as t ys Q R hl hi hz o e k
 unfold hExtend at e
 split at e
 ·obtain⟨zs,e1,e⟩:=bind_some e
  obtain⟨hg,e⟩:=zBP e
  cases e
  obtain⟨v,rfl,o1⟩:=soks1 o
  obtain⟨p,ws,rfl,h1,i1⟩:=zFW R o1 e1
  exact⟨l,p,us,ws,rfl,rfl,hl,h1,by rw[hi.len,i1.len]; exact hg,k _ _ (hi.app i1) Im.atom⟩
 ·cases e
def dSetIx(i:Nat)(fe fi:DE):DS:=fun Γ=>(fe Γ).bind fun p=>p.1.tree.bind fun t=>if isLs p.2 i=true then (fi p.2).bind fun q=>(iS q.1).bind fun k=>match q.2[i]? with
  | some (some (.l xs))=>(ixN xs.length k).map fun j=>.nx (q.2.set i (some (.l (xs.set j t))))
  | _=>none
 else none
theorem zHx{K:Fg}{ip:Option Nat}{i:Nat}{te ti:TE}{fe fi:DE}(he:SimE K te fe)(hi:SimE K ti fi):SimS K ip (tAsg te (gSub (tVar i) ti rSetL)) (dSetIx i fe fi):=by
 intro C w Γ σ H D o hp R e k
 obtain⟨⟨s,G1⟩,e1,e⟩:=bind_some e
 obtain⟨t,e2,e⟩:=bind_some e
 dsimp only at e e2
 split at e
 rotate_left
 ·cases e
 rename_i hl
 obtain⟨⟨s2,G2⟩,e3,e⟩:=bind_some e
 obtain⟨n,e4,e⟩:=bind_some e
 dsimp only at e e4
 split at e
 rotate_left
 ·cases e
 rename_i xs hx
 obtain⟨j,e5,e⟩:=zAH e
 subst e
 cases s with
 | l _=>cases e2
 | s _=>cases e2
 | d _=>cases e2
 | v t' =>
  cases e2
  refine he C w Γ σ H _ G1 _ R e1 fun v H1 R1 ev1 o1 n1=>?_
  obtain⟨p,vs,s1,h1⟩:=zHL R1 hl
  refine⟨.ref p,s1,?_⟩
  refine hi C w G1 σ H1 s2 G2 _ R1 e3 fun v2 H2 R2 ev2 o2 n2=>?_
  obtain⟨v3,s3,q,ws,rfl,m3,h3,i3⟩:=R2.val i _ hx
  rw[s1]at s3; cases s3
  have o1':Im K H1 v t:=o1
  exact⟨p,ws,n,j,rfl,zB5 o2 e4,h3,by rw[i3.len]; exact e5,k w σ _ (R2.put hx s1 (i3.set j (o1'.evo ev2 R1.lst))).1⟩
def boolsOf:List T->Option (List Bool)
 | []=>some []
 | .a (.bl b)::r=>(boolsOf r).map fun bs=>b::bs
 | _=>none
theorem zGO{K:Fg}{H:Hp}:∀ {vs:List V} {ts:List T} {bs:List Bool},Ims K H vs ts->boolsOf ts=some bs->vs=bs.map V.bl
 | _,[],_,h,e=>by cases e; exact h.inv0
 | _,.a (.bl b)::r,_,h,e=>by
  obtain⟨v,us,rfl,h1,h2⟩:=h.inv
  obtain⟨bs,e1,e⟩:=zAH e
  cases e
  rw[h1.inva,zGO h2 e1]; rfl
 | _,.t _::_,_,_,e=>by cases e
 | _,.l _::_,_,_,e=>by cases e
 | _,.f _::_,_,_,e=>by cases e
 | _,.x _ _::_,_,_,e=>by cases e
 | _,.a .non::_,_,_,e=>by cases e
 | _,.a (.int _)::_,_,_,e=>by cases e
 | _,.a (.str _)::_,_,_,e=>by cases e
 | _,.a (.byt _)::_,_,_,e=>by cases e
 | _,.a (.flt _)::_,_,_,e=>by cases e
 | _,.a (.ref _)::_,_,_,e=>by cases e
 | _,.a (.ty _)::_,_,_,e=>by cases e
def allS:En->List S->Option S:=fun Γ as=>match as with
 | [a]=>(sqlOf Γ a).bind fun xs=>(boolsOf xs).map fun bs=>mkB (bs.all id)
 | _=>none
theorem zJm{K:Fg}:SimRs K (fun xs H Q=>∃ (p:Addr) (bs:List Bool),xs=[.ref p]/\SqL K H p (bs.map V.bl)/\Q (.bl (bs.all id)) H) allS:=by
 intro C w Γ σ H vs as s Q R o e k
 unfold allS at e
 split at e
 ·obtain⟨xs,e1,e⟩:=bind_some e
  obtain⟨bs,e2,e⟩:=zAH e
  cases e
  obtain⟨v,rfl,o1⟩:=soks1 o
  obtain⟨p,us,rfl,h1,i1⟩:=zBO R o1 e1
  exact⟨p,bs,rfl,by rw[← zGO i1 e2]; exact h1,k _ H R .refl SOk.atom trivial⟩
 ·cases e
def tyN(Γ:En):S->Option String
 | .v (.t _)=>some "tuple"
 | .v (.a (.int _))=>some "int"
 | .v (.a (.bl _))=>some "bool"
 | .v (.a (.str _))=>some "str"
 | .v (.a .non)=>some "NoneType"
 | .v (.l _)=>some "list"
 | .v _=>none
 | a=>(sqlOf Γ a).map fun _=>"list"
def TyS(K:Fg)(H:Hp)(n:String):V->Prop
 | .int _=>n="int"
 | .bl _=>n="bool"
 | .str _=>n="str"
 | .non=>n="NoneType"
 | .ref p=>(n="list"/\∃ xs,SqL K H p xs)\/(n="tuple"/\∃ xs,SqT K H p xs)
 | _=>False
theorem zJ2{K:Fg}{C:Fr}{w:W}{Γ:En}{σ:St}{H:Hp}{x:V}{s:S}{n:String}(R:Rep K C w Γ σ H)(o:SOk K C w σ H x s)(e:tyN Γ s=some n):TyS K H n x:=by
 unfold tyN at e
 split at e
 ·cases e; obtain⟨p,us,rfl,h1,i1⟩:=o.invt; exact .inr ⟨rfl,us,h1.sq⟩
 ·cases e; rw[o.inva]; exact rfl
 ·cases e; rw[o.inva]; exact rfl
 ·cases e; rw[o.inva]; exact rfl
 ·cases e; rw[o.inva]; exact rfl
 ·rename_i ys; cases e; obtain⟨p,us,rfl,h1,i1⟩:=(show Im K H x (.l ys) from o).invl; exact .inl ⟨rfl,us,h1.sq⟩
 ·cases e
 ·obtain⟨xs,e1,e⟩:=zAH e
  cases e
  obtain⟨p,us,rfl,h1,i1⟩:=zBO R o e1
  exact .inl ⟨rfl,us,h1⟩
theorem zKO{X:Cx}{pins:List (Addr×Obj)}{σ:St}{H:Hp}{s:Shared}{x:V}{u:Value}{n:String}(I:Inv X pins σ H s)(rx:RelV x u)(ty:TyS X.K H n x):∃ P:Heap->Prop,PySem.W.KitX X.K u (.type n) P/\P s.heap/\u≠.builtin "__main__.__loader__#opaque":=by
 cases x with
 | non=>cases ty; cases (show u=Value.none from rx); exact⟨_,PySem.W.kitx_none,True.intro,fun z=>nomatch z⟩
 | bl y=>cases ty; cases (show u=Value.bool y from rx); exact⟨_,PySem.W.kitx_bool,True.intro,fun z=>nomatch z⟩
 | int i=>cases ty; obtain⟨t,q⟩:=(show ∃ t,u=Value.int i t from rx); cases q; exact⟨_,PySem.W.kitx_int,True.intro,fun z=>nomatch z⟩
 | str y=>cases ty; obtain⟨t,q⟩:=(show ∃ t,u=Value.str y t from rx); cases q; exact⟨_,PySem.W.kitx_str,True.intro,fun z=>nomatch z⟩
 | ref p =>
  cases (show u=Value.ref p from rx)
  rcases ty with ⟨rfl,xs,h⟩ | ⟨rfl,xs,h⟩
  ·obtain⟨its,_,pl,_⟩:=I.list h
   obtain⟨o,h1,h2,_⟩:=pl.isList
   exact⟨_,PySem.W.kitx_list,⟨o,h1,h2⟩,fun z=>nomatch z⟩
  ·obtain⟨its,_,pl,_⟩:=I.tuple h
   obtain⟨o,h1,h2,_⟩:=pl
   exact⟨_,PySem.W.kitx_tuple,⟨o,h1,h2⟩,fun z=>nomatch z⟩
 | byt _=>exact ty.elim
 | flt _=>exact ty.elim
 | ty _=>exact ty.elim
def tyIx:String->Option Nat
 | "int"=>some 0
 | "bool"=>some 1
 | "str"=>some 2
 | "list"=>some 3
 | "tuple"=>some 4
 | "NoneType"=>some 5
 | _=>none
def tyNm:Nat->String
 | 0=>"int" | 1=>"bool" | 2=>"str" | 3=>"list" | 4=>"tuple" | _=>"NoneType"
@[simp] theorem zSA:tyIx "int"=some 0:=(rfl)
@[simp] theorem zRi:tyIx "bool"=some 1:=(rfl)
@[simp] theorem zSR:tyIx "tuple"=some 4:=(rfl)
theorem zHG{a:String}{i:Nat}(h:tyIx a=some i):a=tyNm i/\i < 6:=by
 unfold tyIx at h
 split at h <;> first | (cases h; exact⟨rfl,by decide⟩) | cases h
def subTy(a b:String):Option Bool:=(tyIx a).bind fun i=>(tyIx b).bind fun j=>if j=5 then none else some (i == j || (i == 1 && j == 0))
theorem zKe{K:Fg}{a b:String}{c:Bool}(e:subTy a b=some c):PySem.W.kitOne K (.type a) (.type b)=some c:=by
 obtain⟨i,e1,z0⟩:=bind_some e
 obtain⟨j,e2,z⟩:=bind_some z0
 clear z0
 clear e
 obtain⟨rfl,hi⟩:=zHG e1
 obtain⟨rfl,hj⟩:=zHG e2
 clear e1 e2
 by_cases h5:j=5
 ·rw[if_pos h5]at z; cases z
 rw[if_neg h5]at z
 cases z
 have key:∀ i < 6,∀ j < 5,PySem.W.kitOne K (.type (tyNm i)) (.type (tyNm j))=some (i == j || (i == 1 && j == 0)):=fun i hi j hj=>by
  match i,hi,j,hj with
  | 0,_,0,_=>kernel_rfl
  | 0,_,1,_=>kernel_rfl
  | 0,_,2,_=>kernel_rfl
  | 0,_,3,_=>kernel_rfl
  | 0,_,4,_=>kernel_rfl
  | 1,_,0,_=>kernel_rfl
  | 1,_,1,_=>kernel_rfl
  | 1,_,2,_=>kernel_rfl
  | 1,_,3,_=>kernel_rfl
  | 1,_,4,_=>kernel_rfl
  | 2,_,0,_=>kernel_rfl
  | 2,_,1,_=>kernel_rfl
  | 2,_,2,_=>kernel_rfl
  | 2,_,3,_=>kernel_rfl
  | 2,_,4,_=>kernel_rfl
  | 3,_,0,_=>kernel_rfl
  | 3,_,1,_=>kernel_rfl
  | 3,_,2,_=>kernel_rfl
  | 3,_,3,_=>kernel_rfl
  | 3,_,4,_=>kernel_rfl
  | 4,_,0,_=>kernel_rfl
  | 4,_,1,_=>kernel_rfl
  | 4,_,2,_=>kernel_rfl
  | 4,_,3,_=>kernel_rfl
  | 4,_,4,_=>kernel_rfl
  | 5,_,0,_=>kernel_rfl
  | 5,_,1,_=>kernel_rfl
  | 5,_,2,_=>kernel_rfl
  | 5,_,3,_=>kernel_rfl
  | 5,_,4,_=>kernel_rfl
 exact key i hi j (by omega)
def subLT:String->Option Bool
 | "int"=>some false
 | "bool"=>some false
 | "str"=>some false
 | "NoneType"=>some false
 | "list"=>some true
 | "tuple"=>some true
 | _=>none
theorem zLU{K:Fg}{a:String}{c:Bool}(e:subLT a=some c):PySem.W.kitAny K (.type a) [.type "list",.type "tuple"]=some c:=by
 unfold subLT at e
 split at e <;> first | (cases e; kernel_rfl) | cases e
def rIsi(K:Fg):List V->Hp->VK->Prop:=fun xs H Q=>∃ x T n b,xs=[x,.ty T]/\TyS K H n x/\subTy n T=some b/\Q (.bl b) H
theorem zKl{X:Cx}:CallR X (.builtin "isinstance") (rIsi X.K):=by
 intro pins s σ H xs us Q I r h
 obtain⟨x,T,n,b,rfl,ty,e,q⟩:=h
 obtain⟨u,u',rfl,r1,r2⟩:=vals2 r
 cases (show u'=Value.type T from r2)
 obtain⟨P,Z,hP,hx⟩:=zKO I r1 ty
 exact PySem.W.kia_one Z I.kIn hP (zKe e) hx fun tk=>⟨.bl b,H,I.tok tk,rfl,q⟩
def rIsiLT(K:Fg):List V->Hp->VK->Prop:=fun xs H Q=>∃ x p n b,xs=[x,.ref p]/\SqT K H p [.ty "list",.ty "tuple"]/\TyS K H n x/\subLT n=some b/\Q (.bl b) H
theorem zIL{X:Cx}:CallR X (.builtin "isinstance") (rIsiLT X.K):=by
 intro pins s σ H xs us Q I r h
 obtain⟨x,p,n,b,rfl,hp,ty,e,q⟩:=h
 obtain⟨u,u',rfl,r1,r2⟩:=vals2 r
 cases (show u'=Value.ref p from r2)
 obtain⟨its,rv,⟨o,ho,hcl,⟨m,hd⟩⟩,hz⟩:=I.tuple hp
 obtain⟨u1,u2,rfl,q1,q2⟩:=vals2 rv
 cases (show u1=Value.type "list" from q1)
 cases (show u2=Value.type "tuple" from q2)
 obtain⟨P,Z,hP,hx⟩:=zKO I r1 ty
 obtain⟨cls,dd,data,sl⟩:=o
 simp only at hcl hd
 subst hcl hd
 exact PySem.W.kia_tup Z I.kIn hP ho (zLU e) hx fun tk=>⟨.bl b,H,I.tok tk,rfl,q⟩
def isiS:En->List S->Option S:=fun Γ as=>match as with
 | [a,.v (.a (.ty T))]=>(tyN Γ a).bind fun n=>(subTy n T).map mkB
 | [a,.v (.t [.a (.ty "list"),.a (.ty "tuple")])]=>(tyN Γ a).bind fun n=>(subLT n).map mkB
 | _=>none
def rIsiS(K:Fg):List V->Hp->VK->Prop:=fun xs H Q=>rIsi K xs H Q\/rIsiLT K xs H Q
theorem zKN{X:Cx}:CallR X (.builtin "isinstance") (rIsiS X.K):=zKl.or zIL
theorem zJd{K:Fg}:SimRs K (rIsiS K) isiS:=by
 intro C w Γ σ H vs as s Q R o e k
 unfold isiS at e
 split at e
 ·obtain⟨n,e1,e⟩:=bind_some e
  obtain⟨b,e2,e⟩:=zAH e
  cases e
  obtain⟨v,u,rfl,o1,o2⟩:=soks2 o
  exact .inl ⟨v,_,n,b,by rw[o2.inva],zJ2 R o1 e1,e2,k _ H R .refl SOk.atom trivial⟩
 ·obtain⟨n,e1,e⟩:=bind_some e
  obtain⟨b,e2,e⟩:=zAH e
  cases e
  obtain⟨v,u,rfl,o1,o2⟩:=soks2 o
  obtain⟨p,us,rfl,h1,i1⟩:=o2.invt
  have hus:us=[.ty "list",.ty "tuple"]:=Ims.of_atoms (us:=[.ty "list",.ty "tuple"]) i1
  subst hus
  exact .inr ⟨v,p,n,b,rfl,h1.sq,zJ2 R o1 e1,e2,k _ H R .refl SOk.atom trivial⟩
 ·cases e
def intS:En->List S->Option S:=fun _ as=>match as with
 | [.v (.a (.int i))]=>some (mkI i)
 | [.v (.a (.bl b))]=>some (mkI (if b then 1 else 0))
 | _=>none
theorem zJk{K:Fg}:SimRs K (fun xs H Q=>(∃ i,xs=[.int i]/\Q (.int i) H)\/∃ k,xs=[.bl k]/\Q (.int (if k then 1 else 0)) H) intS:=by
 intro C w Γ σ H vs as s Q R o e k
 unfold intS at e
 split at e
 ·cases e
  obtain⟨v,rfl,o1⟩:=soks1 o
  exact .inl ⟨_,by rw[o1.inva],k _ H R .refl SOk.atom trivial⟩
 ·cases e
  obtain⟨v,rfl,o1⟩:=soks1 o
  exact .inr ⟨_,by rw[o1.inva],k _ H R .refl SOk.atom trivial⟩
 ·cases e
def max2S:En->List S->Option S:=fun _ as=>match as with
 | [.v (.a (.int i)),.v (.a (.int j))]=>some (mkI (if j > i then j else i))
 | _=>none
theorem zIs{K:Fg}:SimRs K (fun xs H Q=>∃ i j,xs=[.int i,.int j]/\Q (.int (if j > i then j else i)) H) max2S:=by
 intro C w Γ σ H vs as s Q R o e k
 unfold max2S at e
 split at e
 ·cases e
  obtain⟨v,u,rfl,o1,o2⟩:=soks2 o
  exact⟨_,_,by rw[o1.inva,o2.inva],k _ H R .refl SOk.atom trivial⟩
 ·cases e
def atomsOf:List T->Option (List V)
 | []=>some []
 | .a v::r=>(atomsOf r).map fun vs=>v::vs
 | _=>none
theorem zDe{K:Fg}{H:Hp}:∀ {vs:List V} {ts:List T} {us:List V},Ims K H vs ts->atomsOf ts=some us->vs=us
 | _,[],_,h,e=>by cases e; exact h.inv0
 | _,.a b::r,_,h,e=>by
  obtain⟨v,us,rfl,h1,h2⟩:=h.inv
  obtain⟨bs,e1,e⟩:=zAH e
  cases e
  rw[h1.inva,zDe h2 e1]
 | _,.t _::_,_,_,e=>by cases e
 | _,.l _::_,_,_,e=>by cases e
 | _,.f _::_,_,_,e=>by cases e
 | _,.x _ _::_,_,_,e=>by cases e
def tBMS(K:Fg)(r:V->List V->Hp->VK->Prop)(to:TE)(t:TA):TE:=fun σ H Q=>to σ H fun x H1=>(∃ p xs,x=.ref p/\Tp K H1 p xs)/\t σ H1 fun xs H2=>r x xs H2 Q
open PySem.Spec PyProof.Rows in
theorem zOF{X:Cx}{o e:Expr}{es:List Expr}{to:TE}{t:TA}{name:Str}{apos cpos:Pos}{id:String}{r:V->List V->Hp->VK->Prop}(slot:Slot "tuple" name id)(hty:typeOf (.builtin id)=pure (.type "method_descriptor"))(hm:MtM X id r)(ho:PE X o to)(ha:PA X (e::es) t)
  (hbase:attributeBase o name X.env (eval o X.env)=eval o X.env:=by rfl)
  (hfew:((backTo cpos (starEach (e::es) X.env)).all (fun x=>!x.1) && (backToKw cpos (keywordEach [] X.env)).all (fun x=>x.1.isSome) && decide ((e::es).length+([]:List Keyword).length+(if ([]:List Keyword).isEmpty then 0 else 1) < 30))=true:=by rfl)
  (hline:(apos.endLine == cpos.line)=true:=by rfl) (hs:starEach (e::es) X.env=(false,eval e X.env)::starEach es X.env:=by rfl) (hplain:(backTo cpos (starEach es X.env)).any (·.1)=false:=by rfl) :
  PE X (.Call (.Attribute o name apos) (e::es) [] cpos) (tBMS X.K r to t):=by
 intro pins s σ H Q I h
 refine wpAny_Call_method_late hbase hfew hline rfl (thn (ho pins s σ H _ I h) fun v s1 ⟨x,H1,I1,r1,⟨p,xs,ex,hp⟩,q1⟩=>?_)
 subst ex
 cases r1
 have key:∃ o',s1.heap.get? p=some o'/\o'.cls=.type "tuple"/\o'.dict=none:=by
  rcases hp with hp | ⟨o',its,n,a1,a2,a3,a4⟩
  ·obtain⟨_,its,_,o',ho',hc',_,hd'⟩:=(show ObjOk X.prog X.w H1 s1.heap p (.tup xs) from I1.hok p _ hp)
   exact⟨o',ho',hc',hd'⟩
  ·exact⟨o',I1.kIn p o' a1,a2,a3⟩
 obtain⟨o',ho',hc',hd'⟩:=key
 refine⟨"tuple",id,F.plainAttrs_tuple,slot,hty,⟨o',ho',hc'⟩,fun a e=>by cases e; exact⟨o',ho',hd'⟩,?_⟩
 have hA:=ha cpos pins s1 σ H1 _ I1 q1
 rw[hs]at hA ⊢
 refine Calls.callWith_builtin (by show (false || (backTo cpos (starEach es X.env)).any (·.1))=false; rw[hplain] <;> rfl) (Calls.evalArgs_plain ?_)
 exact thn hA fun us s2 ⟨vs,H2,I2,r2,q2⟩=>hm pins s2 σ H2 (.ref p) vs (.ref p) us Q I2 (show RelV (.ref p) (.ref p) from rfl) r2 q2
def dIndex(fo:DE)(fa:DA):DE:=fun Γ=>(fo Γ).bind fun p=>(fa p.2).bind fun q=>match p.1,q.1 with
 | .v (.t xs),[.v (.a y)]=>(atomsOf xs).bind fun vs=>if flatV y=true/\vs.all flatV=true then (vs.findIdx? fun z=>eqV z y).map fun j=>(mkI (j:Nat),q.2) else none
 | _,_=>none
theorem zKD{K:Fg}{to:TE}{ta:TA}{fo:DE}{fa:DA}(ho:SimE K to fo)(ha:SimA K ta fa):SimE K (tBMS K (rTupIndex K) to ta) (dIndex fo fa):=by
 intro C w Γ σ H s Γ' Q R e k
 obtain⟨⟨a,G1⟩,e1,e⟩:=bind_some e
 obtain⟨⟨as,G2⟩,e2,e⟩:=bind_some e
 dsimp only at e
 split at e
 ·rename_i xs y
  obtain⟨vs,e3,e⟩:=bind_some e
  split at e
  ·rename_i hf
   obtain⟨j,e4,e⟩:=zAH e
   cases e
   refine ho C w Γ σ H _ G1 _ R e1 fun v H1 R1 ev1 o1 n1=>?_
   have o1':=o1
   obtain⟨p,us,rfl,h1,i1⟩:=o1.invt
   refine⟨⟨p,us,rfl,h1⟩,?_⟩
   refine ha C w G1 σ H1 _ _ _ R1 e2 fun ws H2 R2 ev2 o2 n2=>?_
   obtain⟨u,rfl,o3⟩:=soks1 o2
   obtain⟨p',us',e5,h1',i1'⟩:=(o1'.evo ev2 R1.lst).invt
   cases e5
   have hus:=zDe i1' e3
   subst hus
   exact⟨p,us',_,j,rfl,by rw[o3.inva],h1'.sq,hf.1,hf.2,e4,k _ H2 R2 (ev1.trans ev2) SOk.atom trivial⟩
  ·cases e
 ·cases e
end D
namespace L2
open PySem PySem.Spec PyProof.Rows
section
variable {X:Cx}{tg:Expr}
def iSeq(K:PySem.W.Frag)(tl:TE):TI:=fun σ H R=>tl σ H fun x H1=>∃ a,x=.ref a/\(((∃ xs,SqL K H1 a xs)/\R (Itl K a) H1)\/((∃ xs,SqT K H1 a xs)/\R (Itt K a) H1))
theorem zMz{l:Expr}{tl:TE}(hl:PE X l tl):PI X tg l (iSeq X.K tl):=by
 intro pins s σ H R I h
 refine thn (hl pins s σ H _ I h) fun v s1 ⟨x,H1,I1,r1,q1⟩=>?_
 obtain⟨a,e,q⟩:=q1
 subst e
 cases r1
 rcases q with ⟨⟨xs,hq⟩,q⟩ | ⟨⟨xs,hq⟩,q⟩
 ·obtain⟨its,rv,p,hz⟩:=I1.list hq
  refine wpAny_pyIter_list p.isList ?_
  refine⟨s1.heap.objs.size,[s1.heap.objs.size],_,_,H1,rfl,I1.kept (t':=s1.toks) fun b o e=>Heap.get?_push_of_some _ e,zKL a _,⟨_,Heap.get?_push_size _ rfl,rfl,rfl⟩,fun b hb=>?_,q⟩
  have e:b=s1.heap.objs.size:=by simpa using hb
  subst e
  exact I1.fpOk (Nat.le_refl _) (I1.hok.fresh (Nat.le_refl _))
 ·obtain⟨its,rv,p,hz⟩:=I1.tuple hq
  refine wpAny_pyIter_tuple (show s1.heap.IsTuple a its.toArray from p) ?_
  refine⟨s1.heap.objs.size,[s1.heap.objs.size],_,_,H1,rfl,I1.kept (t':=s1.toks) fun b o e=>Heap.get?_push_of_some _ e,zHX a _,⟨_,Heap.get?_push_size _ rfl,rfl,rfl⟩,fun b hb=>?_,q⟩
  have e:b=s1.heap.objs.size:=by simpa using hb
  subst e
  exact I1.fpOk (Nat.le_refl _) (I1.hok.fresh (Nat.le_refl _))
end
section
variable {X:Cx}{pos:Pos}
def tPar3(i j k:Nat)(ta:TA):TS:=fun D σ H=>ta σ H fun vs H1=>∃ v w z,vs=[v,w,z]/\D.nx (((σ.set i (some v)).set j (some w)).set k (some z)) H1
theorem zND{i j k:Nat}{x y z:Str}{a b c:Expr}{ta:TA}{px py pz pt:Pos}{kt k2 pt2}(hc:X.calm=true)(hN:X.N.Nodup)(hi:X.N[i]?=some x)(hj:X.N[j]?=some y)(hk:X.N[k]?=some z)(hij:i≠j)(hik:i≠k)(hjk:j≠k)
  (hx:X.env.scope.names.lookup x=some .local) (hy:X.env.scope.names.lookup y=some .local) (hz:X.env.scope.names.lookup z=some .local) (ha:PA X [a,b,c] ta)
  (hw:swappedStores [.Tuple [.Name x px,.Name y py,.Name z pz] kt pt] (.Tuple [a,b,c] k2 pt2) X.env=pure (some [x,y,z]))
  (hs:swapsWithSole [.Tuple [.Name x px,.Name y py,.Name z pz] kt pt] (.Tuple [a,b,c] k2 pt2) pos.line X.env=pure false:=by rfl) :
  PS X (.Assign [.Tuple [.Name x px,.Name y py,.Name z pz] kt pt] (.Tuple [a,b,c] k2 pt2) pos) (tPar3 i j k ta):=by
 intro pins s σ H D I h
 rw[exec_Assign_arm]
 refine wpAny_bind (wpAny_standAt ?_)
 rw[hs]
 refine wpAny_bind (wpAny_pure ?_)
 rw[if_neg (by decide)]
 refine wpAny_bind (Tuple_ (thn (ha _ pins s σ H _ I h) fun us s1 ⟨vs,H1,I1,r1,q1⟩=>?_))
 obtain⟨v,w,q,e1,q1⟩:=q1
 subst e1
 obtain⟨u1,u2,u3,rfl,rv,rw',rz⟩:∃ u1 u2 u3,us=[u1,u2,u3]/\RelV v u1/\RelV w u2/\RelV q u3:=by
  cases r1 with
  | cons p q =>
   cases q with
   | cons p' q' =>
    cases q' with
    | cons p'' q'' =>
     cases q''
     exact⟨_,_,_,rfl,p,p',p''⟩
 refine wpAny_newObj_type ?_ (by show 3<=sizeLine; decide)
 have I2:Inv X pins σ H1 { s1 with heap:=s1.heap.push { cls:=.type "tuple",data:=.seq [u1,u2,u3].toArray } }:=I1.kept (t':=s1.toks) fun b o e=>Heap.get?_push_of_some _ e
 rw[hw]
 refine wpAny_bind (wpAny_pure ?_)
 show wpAny (model X.prog X.w) X.A (do rule "assign.swapped-stores"; let items ← unpackItems (.ref s1.heap.objs.size) 3 none; assignInOrder [fun v=>bindName X.env z v,fun v=>bindName X.env y v,fun v=>bindName X.env x v] items.reverse; pure Flow.next) _ _ _
 refine wpAny_bind (wpAny_rule (wpAny_bind (unpackItems_tuple (items:=#[u1,u2,u3]) (I.ok.hd hc) (IsTup.new s1.heap _) fun h' hx'=>?_)))
 have I3:=I2.kept (h':=h') (t':=s1.toks) fun b o e=>hx' b o (Nat.ne_of_lt (Heap.lt_size e)) e
 show wpAny _ _ (assignInOrder [fun v=>bindName X.env z v,fun v=>bindName X.env y v,fun v=>bindName X.env x v] [u3,u2,u1] >>= fun _=>pure Flow.next) _ _ _
 refine wpAny_bind (assignInOrder_cons (wpAny_bindName (zBS I3 hN hk (.inl hz) rz (fun s2 I4=>?_) (.inr hz))))
 refine assignInOrder_cons (wpAny_bindName (zBS I4 hN hj (.inl hy) rw' (fun s3 I5=>?_) (.inr hy)))
 refine assignInOrder_cons (wpAny_bindName (zBS I5 hN hi (.inl hx) rv (fun s4 I6=>assignInOrder_nil (wpAny_pure ?_)) (.inr hx)))
 rw[List.set_comm _ _ (Ne.symm hij),List.set_comm _ _ (Ne.symm hik),List.set_comm _ _ (Ne.symm hjk)]at I6
 exact⟨_,H1,I6,q1⟩
end
end L2
namespace D
open PySem L2
def rngT(lo:Int)(n:Nat):List T:=(List.range n).map fun (i:Nat)=>T.a (.int (lo+(i:Int)))
def dRng1(fa:DA):DI:=fun Γ=>(fa Γ).bind fun p=>match p.1 with
 | [.v (.a (.int j))]=>if (inR 4611686018427387903 j && Nat.ble j.toNat sizeLine)=true then some ((rngT 0 j.toNat,[]),p.2) else none
 | _=>none
def dRng2(fa:DA):DI:=fun Γ=>(fa Γ).bind fun p=>match p.1 with
 | [.v (.a (.int i)),.v (.a (.int j))]=>if (inR 4611686018427387903 i && inR 4611686018427387903 j && Nat.ble (j - i).toNat sizeLine)=true then some ((rngT i (j - i).toNat,[]),p.2) else none
 | _=>none
section
variable {K:Fg}
theorem zGV{w:W}{Γ:En}{σ:St}{H:Hp}{lo:Int}{n:Nat}(h:n<=sizeLine):ItOk K w Γ σ (Itr lo n) H (rngT lo n) []:=by
 refine⟨by simp[rngT]; exact h,fun L' _ _ H2 _=>⟨fun i t e=>?_,by simp[rngT]; exact Nat.le_refl n⟩⟩
 unfold rngT at e
 rw[List.getElem?_map]at e
 obtain⟨j,e1,e⟩:=zAH e
 obtain⟨hi',e1⟩:=List.getElem?_eq_some_iff.mp e1
 have hi:i < n:=by simpa using hi'
 have e1':i=j:=by simpa using e1
 subst e
 subst e1'
 refine⟨hi,fun x H3 y=>?_⟩
 obtain⟨a,b⟩:=y
 subst a b
 exact⟨fun _ _ z=>z,Im.atom⟩
theorem fit1{j:Int}(h:(inR 4611686018427387903 j && Nat.ble j.toNat sizeLine)=true):-(2 ^ 62)<=j/\j < 2 ^ 62/\j.toNat<=sizeLine:=by
 rw[Bool.and_eq_true]at h
 exact⟨(inR62 h.1).1,(inR62 h.1).2,Nat.le_of_ble_eq_true h.2⟩
theorem fit2{i j:Int}(h:(inR 4611686018427387903 i && inR 4611686018427387903 j && Nat.ble (j - i).toNat sizeLine)=true):(-(2 ^ 62)<=i/\i < 2 ^ 62/\-(2 ^ 62)<=j/\j < 2 ^ 62)/\(j - i).toNat<=sizeLine:=by
 rw[Bool.and_eq_true,Bool.and_eq_true]at h
 exact⟨⟨(inR62 h.1.1).1,(inR62 h.1.1).2,(inR62 h.1.2).1,(inR62 h.1.2).2⟩,Nat.le_of_ble_eq_true h.2⟩
theorem zJL{ta:TA}{fa:DA}(ha:SimA K ta fa):SimI K (iRng1 ta) (dRng1 fa):=by
 intro C w Γ σ H its src Γ' R Rp e k
 obtain⟨⟨as,G1⟩,e1,e⟩:=bind_some e
 dsimp only at e
 split at e
 ·split at e
  ·rename_i j hj0
   have hj:=fit1 hj0
   cases e
   refine ha C w Γ σ H _ _ _ Rp e1 fun vs H1 R1 ev1 o1 n1=>?_
   obtain⟨v,rfl,o2⟩:=soks1 o1
   exact⟨_,by rw[o2.inva],hj.1,hj.2.1,k _ H1 R1 ev1 (zGV hj.2.2)⟩
  ·cases e
 ·cases e
theorem zKJ{ta:TA}{fa:DA}(ha:SimA K ta fa):SimI K (iRng2 ta) (dRng2 fa):=by
 intro C w Γ σ H its src Γ' R Rp e k
 obtain⟨⟨as,G1⟩,e1,e⟩:=bind_some e
 dsimp only at e
 split at e
 ·split at e
  ·rename_i j hj0
   have hj:=fit2 hj0
   cases e
   refine ha C w Γ σ H _ _ _ Rp e1 fun vs H1 R1 ev1 o1 n1=>?_
   obtain⟨v,u,rfl,o2,o3⟩:=soks2 o1
   exact⟨_,_,by rw[o2.inva,o3.inva],hj.1,k _ H1 R1 ev1 (zGV hj.2)⟩
  ·cases e
 ·cases e
def srcS(Γ:En):S->List Nat
 | .s i=>match Γ[i]? with
  | some (some (.l _))=>[i]
  | _=>[]
 | _=>[]
def dSeqI(f:DE):DI:=fun Γ=>(f Γ).bind fun p=>(seqS p.2 p.1).bind fun xs=>gd xs.length ((xs,srcS p.2 p.1),p.2)
theorem zCJ{C:Fr}{w:W}{Γ:En}{σ:St}{H:Hp}{x:V}{s:S}{xs:List T}(R:Rep K C w Γ σ H)(o:SOk K C w σ H x s)(e:sqlOf Γ s=some xs):∃ p vs,x=.ref p/\SqL K H p vs/\Ims K H vs xs /\
  ∀ L',(∀ q∈L',q∈w.L)->(∀ i∈srcS Γ s,∀ q,σ[i]?=some (some (.ref q))->(∃ zs,Γ[i]?=some (some (.l zs)))->q∉L')->∀ H2,Evo L' H H2->SqL K H2 p vs:=by
 cases s with
 | v t =>
  cases t with
  | l ys =>
   cases e
   obtain⟨p,vs,rfl,h1,h2⟩:=(show Im K H x (.l xs) from o).invl
   exact⟨p,vs,rfl,h1.sq,h2,fun L' hs _ H2 ev=>(h1.evo ev fun q hq=>R.lst q (hs q hq)).sq⟩
  | a _=>cases e
  | t _=>cases e
  | f _=>cases e
  | x _ _=>cases e
 | d _=>cases e
 | l ys =>
  cases e
  obtain⟨p,vs,rfl,n1,n2,n3,h1,h2⟩:=o
  exact⟨p,vs,rfl,SqL.of h1,h2,fun L' hs _ H2 ev=>SqL.of (ev _ _ h1 fun z=>n1 (hs p z))⟩
 | s i =>
  have o':σ[i]?=some (some x):=o
  unfold sqlOf at e
  dsimp only at e
  split at e
  ·rename_i ys h
   cases e
   obtain⟨v,e1,p,vs,rfl,_,h1,h2⟩:=R.val i _ h
   rw[o']at e1; cases e1
   refine⟨p,vs,rfl,SqL.of h1,h2,fun L' hs av H2 ev=>SqL.of (ev _ _ h1 (av i ?_ p o' ⟨_,h⟩))⟩
   simp[srcS,h]
  ·rename_i ys h
   cases e
   obtain⟨v,e1,p,vs,rfl,h1,h2,h3,_⟩:=R.val i _ h
   rw[o']at e1; cases e1
   exact⟨p,vs,rfl,SqL.of h2,h1,fun L' hs av H2 ev=>SqL.of (ev _ _ h2 fun z=>h3 (hs p z))⟩
  ·rename_i ys h
   cases e
   obtain⟨v,e1,p,vs,rfl,h1,h2⟩:=R.val i _ h
   rw[o']at e1; cases e1
   exact⟨p,vs,rfl,h2.sq,h1,fun L' hs av H2 ev=>(h2.evo ev fun q hq=>R.lst q (hs q hq)).sq⟩
  ·cases e
theorem zLF{tl:TE}{f:DE}(hl:SimE K tl f):SimI K (iSeq K tl) (dSeqI f):=by
 intro C w Γ σ H its src Γ' R Rp e k
 obtain⟨⟨a,G1⟩,e1,e⟩:=bind_some e
 obtain⟨xs,e2,e⟩:=bind_some e
 obtain⟨hz,e⟩:=zBP e
 cases e
 refine hl C w Γ σ H a _ _ Rp e1 fun v H1 R1 ev1 o1 n1=>?_
 dsimp only at e2
 have go:∀ {vs:List V} {H2:Hp} {J:It} (mk:∀ i x,vs[i]?=some x->J.go i H2) (yl:∀ i x H3,J.yld i H2 x H3->H3=H2/\vs[i]?=some x),Ims K H2 vs its->∀ (i:Nat) t,its[i]?=some t->J.go i H2/\∀ x H3,J.yld i H2 x H3->(∀ b o,H2 b=some o->H3 b=some o)/\Im K H3 x t:=fun {vs H2 J} mk yl hi i t e=>by
  obtain⟨v,e3,hv⟩:=hi.get e
  refine⟨mk i v e3,fun x H3 y=>?_⟩
  obtain⟨rfl,e4⟩:=yl i x H3 y
  rw[e3]at e4; cases e4
  exact⟨fun _ _ z=>z,hv⟩
 unfold seqS at e2
 split at e2
 ·cases e2
  obtain⟨p,vs,rfl,h1,i1⟩:=o1.invt
  refine⟨p,rfl,.inr ⟨⟨vs,h1.sq⟩,k _ H1 R1 ev1 ⟨hz,fun L' hs av H2 ev=>?_⟩⟩⟩
  have hL:LL L' H1:=fun q hq=>R1.lst q (hs q hq)
  have h2:SqT K H2 p vs:=(zD7 ev hL h1).sq
  have i2:=i1.evo ev hL
  exact⟨go (vs:=vs) (J:=Itt K p) (fun i x e=>⟨vs,x,h2,e⟩) (fun i x H3 y=>⟨y.1,y.2 vs h2⟩) i2,⟨vs,h2,by rw[i2.len]; exact Nat.le_refl _⟩⟩
 ·obtain⟨p,vs,rfl,h1,i1,st⟩:=zCJ R1 o1 e2
  refine⟨p,rfl,.inl ⟨⟨vs,h1⟩,k _ H1 R1 ev1 ⟨hz,fun L' hs av H2 ev=>?_⟩⟩⟩
  have hL:LL L' H1:=fun q hq=>R1.lst q (hs q hq)
  have h2:=st L' hs av H2 ev
  have i2:=i1.evo ev hL
  exact⟨go (vs:=vs) (J:=Itl K p) (fun i x e=>⟨vs,x,h2,e⟩) (fun i x H3 y=>⟨y.1,y.2 vs h2⟩) i2,⟨vs,h2,by rw[i2.len]; exact Nat.le_refl _⟩⟩
def zipT(xs ys:List T):List T:=(xs.zip ys).map fun p=>.t [p.1,p.2]
theorem zFw{H:Hp}(lo:Int)(n:Nat):Ims K H (rngV lo n) (rngT lo n):=by
 have:rngT lo n=(rngV lo n).map T.a:=by simp[rngT,rngV]
 rw[this]
 exact Ims.atoms _
def rngS(as:List S):Option (List T):=match as with
 | [.v (.a (.int j))]=>if (inR 4611686018427387903 j && Nat.ble j.toNat sizeLine)=true then some (rngT 0 j.toNat) else none
 | [.v (.a (.int i)),.v (.a (.int j))]=>if (inR 4611686018427387903 i && inR 4611686018427387903 j && Nat.ble (j - i).toNat sizeLine)=true then some (rngT i (j - i).toNat) else none
 | _=>none
def rRng:List V->Hp->VK->Prop:=fun xs H Q=>(∃ j:Int,xs=[.int j]/\∀ p,H p=none->Q (.ref p) (upd H p (.rng 0 j)))\/(∃ i j:Int,xs=[.int i,.int j]/\∀ p,H p=none->Q (.ref p) (upd H p (.rng i j)))
def rOfRngL:List V->Hp->VK->Prop:=fun xs H Q=>∃ p lo hi,xs=[.ref p]/\H p=some (.rng lo hi)/\(-(2 ^ 62)<=lo/\lo < 2 ^ 62/\-(2 ^ 62)<=hi/\hi < 2 ^ 62)/\(hi - lo).toNat<=2 ^ 24/\∀ l,H l=none->Q (.ref l) (upd H l (.lst (rngV lo (hi - lo).toNat)))
def rOfRngT:List V->Hp->VK->Prop:=fun xs H Q=>∃ p lo hi,xs=[.ref p]/\H p=some (.rng lo hi)/\(-(2 ^ 62)<=lo/\lo < 2 ^ 62/\-(2 ^ 62)<=hi/\hi < 2 ^ 62)/\(hi - lo).toNat<=2 ^ 24/\∀ l,H l=none->Q (.ref l) (upd H l (.tup (rngV lo (hi - lo).toNat)))
def dListRng(fa:DA):DE:=fun Γ=>(fa Γ).bind fun p=>(rngS p.1).map fun xs=>(.l xs,p.2)
def dTupRng(fa:DA):DE:=fun Γ=>(fa Γ).bind fun p=>(rngS p.1).map fun xs=>(.v (.t xs),p.2)
theorem zFz{C:Fr}{w:W}{Γ:En}{σ:St}{H:Hp}{vs:List V}{as:List S}{xs:List T}{Q:VK}(R:Rep K C w Γ σ H)(o:SOks K C w σ H vs as)(e:rngS as=some xs)
  (k:∀ p lo hi,H p=none->(-(2 ^ 62)<=lo/\lo < 2 ^ 62/\-(2 ^ 62)<=hi/\hi < 2 ^ 62)->(hi - lo).toNat<=2 ^ 24->xs=rngT lo (hi - lo).toNat->Q (.ref p) (upd H p (.rng lo hi))):rRng vs H Q:=by
 have hs:sizeLine=2 ^ 24:=by rw[sizeLine_eq]
 unfold rngS at e
 split at e
 ·split at e
  ·rename_i j hj0
   have hj:=fit1 hj0
   cases e
   obtain⟨v,rfl,o2⟩:=soks1 o
   refine .inl ⟨_,by rw[o2.inva],fun p hp=>k p 0 _ hp ⟨by decide,by decide,hj.1,hj.2.1⟩ ?_ (by rw[Int.sub_zero])⟩
   rw[Int.sub_zero]; have:=hj.2.2; omega
  ·cases e
 ·split at e
  ·rename_i j hj0
   have hj:=fit2 hj0
   cases e
   obtain⟨v,u,rfl,o2,o3⟩:=soks2 o
   exact .inr ⟨_,_,by rw[o2.inva,o3.inva],fun p hp=>k p _ _ hp hj.1 (by have:=hj.2; omega) rfl⟩
  ·cases e
 ·cases e
theorem zGt{ta:TA}{fa:DA}(ha:SimA K ta fa):SimE K (tCB rOfRngL (tCons (tCB rRng ta) tNil)) (dListRng fa):=by
 intro C w Γ σ H s Γ' Q R e k
 obtain⟨⟨as,G1⟩,e1,e⟩:=bind_some e
 obtain⟨xs,e2,e⟩:=zAH e
 cases e
 refine ha C w Γ σ H as G1 _ R e1 fun vs H1 R1 ev1 o1 n1=>?_
 refine zFz R1 o1 e2 fun p lo hi hp hb hz hx=>?_
 have R2:Rep K C w G1 σ (upd H1 p (.rng lo hi)):=R1.new hp
 have ev2:Evo w.L H (upd H1 p (.rng lo hi)):=ev1.trans (Evo.new hp)
 refine⟨p,lo,hi,rfl,zAg,hb,hz,fun l hl=>?_⟩
 subst hx
 exact k _ _ (R2.new hl) (ev2.trans (Evo.new hl)) (R2.newl hl (zFw _ _)) ⟨l,rfl,zAz ev2 R2.lst hl⟩
theorem zHb{ta:TA}{fa:DA}(ha:SimA K ta fa):SimE K (tCB rOfRngT (tCons (tCB rRng ta) tNil)) (dTupRng fa):=by
 intro C w Γ σ H s Γ' Q R e k
 obtain⟨⟨as,G1⟩,e1,e⟩:=bind_some e
 obtain⟨xs,e2,e⟩:=zAH e
 cases e
 refine ha C w Γ σ H as G1 _ R e1 fun vs H1 R1 ev1 o1 n1=>?_
 refine zFz R1 o1 e2 fun p lo hi hp hb hz hx=>?_
 have R2:Rep K C w G1 σ (upd H1 p (.rng lo hi)):=R1.new hp
 have ev2:Evo w.L H (upd H1 p (.rng lo hi)):=ev1.trans (Evo.new hp)
 refine⟨p,lo,hi,rfl,zAg,hb,hz,fun l hl=>?_⟩
 subst hx
 exact k _ _ (R2.new hl) (ev2.trans (Evo.new hl)) (R2.newt hl (zFw _ _)) trivial
theorem zK5{ip:Option Nat}{i j:Nat}{ta:TA}{fa:DA}(ha:SimA K ta fa)(hi:ip≠some i)(hj:ip≠some j):SimS K ip (tPar i j ta) (fun Γ=>(fa Γ).bind fun p=>match p.1 with
  | [.v a,.v b]=>some (.nx ((p.2.set i (some (.v a))).set j (some (.v b))))
  | _=>none):=by
 intro C w Γ σ H D o hp R e k
 obtain⟨⟨as,G1⟩,e1,e⟩:=bind_some e
 dsimp only at e
 split at e
 ·cases e
  refine ha C w Γ σ H _ G1 _ R e1 fun vs H1 R1 ev1 o1 n1=>?_
  obtain⟨v,u,rfl,o2,o3⟩:=soks2 o1
  exact⟨v,u,rfl,k w _ H1 ((R1.setv (g:=.v _) rfl o2 (zBT hp hi)).setv (g:=.v _) rfl o3 (zBT hp hj))⟩
 ·cases e
def dPar2(i j:Nat)(fa:DA):DS:=fun Γ=>(fa Γ).bind fun p=>match p.1 with
  | [.v a,.v b]=>some (.nx ((p.2.set i (some (.v a))).set j (some (.v b))))
  | _=>none
def dPar3(i j k:Nat)(fa:DA):DS:=fun Γ=>(fa Γ).bind fun p=>match p.1 with
  | [.v a,.v b,.v c]=>some (.nx (((p.2.set i (some (.v a))).set j (some (.v b))).set k (some (.v c))))
  | _=>none
theorem soks3{C:Fr}{w:W}{σ:St}{H:Hp}{vs:List V}{a b c:S}(h:SOks K C w σ H vs [a,b,c]):∃ v u z,vs=[v,u,z]/\SOk K C w σ H v a/\SOk K C w σ H u b/\SOk K C w σ H z c:=by
 match vs,h with
 | [v,u,z],h=>exact⟨v,u,z,rfl,h.1,h.2.1,h.2.2.1⟩
theorem zJr{ip:Option Nat}{i j k:Nat}{ta:TA}{fa:DA}(ha:SimA K ta fa)(hi:ip≠some i)(hj:ip≠some j)(hk:ip≠some k):SimS K ip (tPar3 i j k ta) (dPar3 i j k fa):=by
 intro C w Γ σ H D o hp R e kk
 obtain⟨⟨as,G1⟩,e1,e⟩:=bind_some e
 dsimp only at e
 split at e
 ·cases e
  refine ha C w Γ σ H _ G1 _ R e1 fun vs H1 R1 ev1 o1 n1=>?_
  obtain⟨v,u,z,rfl,o2,o3,o4⟩:=soks3 o1
  exact⟨v,u,z,rfl,kk w _ H1 (((R1.setv (g:=.v _) rfl o2 (zBT hp hi)).setv (g:=.v _) rfl o3 (zBT hp hj)).setv (g:=.v _) rfl o4 (zBT hp hk))⟩
 ·cases e
def dUnp(tg:En->T->Option En)(f:DE):DS:=fun Γ=>(f Γ).bind fun p=>p.1.tree.bind fun t=>(tg p.2 t).map .nx
theorem zLH{ip:Option Nat}{te:TE}{f:DE}{g:TG}{tg:En->T->Option En}(h:SimE K te f)(hg:SimG K ip g tg):SimS K ip (tAsg te g) (dUnp tg f):=by
 intro C w Γ σ H D o hp R e k
 obtain⟨⟨s,G1⟩,e1,e⟩:=bind_some e
 obtain⟨t,e2,e⟩:=bind_some e
 obtain⟨Γ2,e3,e⟩:=zAH e
 subst e
 cases s with
 | l _=>cases e2
 | s _=>cases e2
 | d _=>cases e2
 | v t' =>
  cases e2
  refine h C w Γ σ H _ G1 _ R e1 fun v H1 R1 ev1 o1 n1=>?_
  exact hg C w G1 σ H1 v t Γ2 _ hp R1 o1 e3 fun σ' R'=>k w σ' H1 R'
end
def toDa:V->Option PyData
 | .int i=>some (.int i)
 | .bl b=>some (.bool b)
 | .str x=>some (.str x)
 | .non=>some .none
 | _=>none
mutual
def toD:T->Option PyData
 | .a v=>toDa v
 | .t ts=>(toDs ts).map .tuple
 | .l ts=>(toDs ts).map .list
 | .f _=>none
 | .x _ _=>none
def toDs:List T->Option (List PyData)
 | []=>some []
 | t::r=>(toD t).bind fun d=>(toDs r).map fun ds=>d::ds
end
mutual
theorem zGb{X:Cx}{pins:List (Addr×Obj)}{σ:St}{H:Hp}{s:Shared}(I:Inv X pins σ H s):∀ {v:V} {u:Value} {t:T} {d:PyData},Im X.K H v t->RelV v u->toD t=some d->∃ as,Reads s.heap u d as
 | v,u,.a x,d,h,r,e=>by
  have hv:=h.inva
  subst hv
  unfold toD at e
  cases v with
  | int i=>cases e; obtain⟨t,rfl⟩:=(show ∃ t,u=Value.int i t from r); exact⟨_,.int i t⟩
  | bl b=>cases e; cases (show u=Value.bool b from r); exact⟨_,.bool b⟩
  | str x=>cases e; obtain⟨t,rfl⟩:=(show ∃ t,u=Value.str x t from r); exact⟨_,.str x t⟩
  | non=>cases e; cases (show u=Value.none from r); exact⟨_,.none⟩
  | byt _=>cases e
  | flt _=>cases e
  | ref _=>cases e
  | ty _=>cases e
 | v,u,.t ts,d,h,r,e=>by
  obtain⟨p,vs,rfl,h1,h2⟩:=h.inv
  cases (show u=Value.ref p from r)
  unfold toD at e
  obtain⟨ds,e1,rfl⟩:=zAH e
  obtain⟨its,rv,⟨o,ho,hc,n,hd⟩,_⟩:=I.tuple h1.sq
  obtain⟨as,q⟩:=zBp I h2 rv e1
  exact⟨as,.tuple ho hc hd (by simpa using q)⟩
 | v,u,.l ts,d,h,r,e=>by
  obtain⟨p,vs,rfl,h1,h2⟩:=h.invl
  cases (show u=Value.ref p from r)
  unfold toD at e
  obtain⟨ds,e1,rfl⟩:=zAH e
  obtain⟨its,rv,pl,_⟩:=I.list h1.sq
  obtain⟨o,ho,hc,n,hd⟩:=pl.isList
  obtain⟨as,q⟩:=zBp I h2 rv e1
  exact⟨_,.list ho hc hd (by simpa using q)⟩
 | v,u,.f _,d,h,r,e=>by unfold toD at e; cases e
 | v,u,.x _ _,d,h,r,e=>by unfold toD at e; cases e
theorem zBp{X:Cx}{pins:List (Addr×Obj)}{σ:St}{H:Hp}{s:Shared}(I:Inv X pins σ H s):∀ {vs:List V} {us:List Value} {ts:List T} {ds:List PyData},Ims X.K H vs ts->Vals vs us->toDs ts=some ds->∃ as,ReadsAll s.heap us ds as
 | vs,us,[],ds,h,r,e=>by
  have:=h.inv0
  subst this
  cases r
  unfold toDs at e
  cases e
  exact⟨_,.nil⟩
 | vs,us,t::ts,ds,h,r,e=>by
  obtain⟨v,r',rfl,h1,h2⟩:=h.inv
  unfold toDs at e
  obtain⟨d,e1,e⟩:=bind_some e
  obtain⟨ds',e2,rfl⟩:=zAH e
  cases r with
  | cons r1 r2 =>
   obtain⟨as,q1⟩:=zGb I h1 r1 e1
   obtain⟨bs,q2⟩:=zBp I h2 r2 e2
   exact⟨_,ReadsAll.cons q1 q2⟩
end
def DatV(K:Fg)(H:Hp)(x:V)(d:PyData):Prop:=(∃ t,Im K H x t/\toD t=some d)\/(∃ p vs ts ds,x=.ref p/\SqL K H p vs/\Ims K H vs ts/\toDs ts=some ds/\d=.list ds)
theorem zBg{X:Cx}{pins:List (Addr×Obj)}{σ:St}{H:Hp}{s:Shared}{x:V}{u:Value}{d:PyData}(I:Inv X pins σ H s)(r:RelV x u)(h:DatV X.K H x d):∃ as,Reads s.heap u d as:=by
 rcases h with ⟨t,h,e⟩ | ⟨p,vs,ts,ds,rfl,h1,h2,e,rfl⟩
 ·exact zGb I h r e
 ·cases (show u=Value.ref p from r)
  obtain⟨its,rv,pl,_⟩:=I.list h1
  obtain⟨o,ho,hc,n,hd⟩:=pl.isList
  obtain⟨as,q⟩:=zBp I h2 rv e
  exact⟨_,.list ho hc hd (by simpa using q)⟩
def rEqD(K:Fg):R2:=fun x y H Q=>∃ da db,DatV K H x da/\DatV K H y db/\da.canLay0=true/\db.canLay0=true/\min da.depth db.depth<=100/\Q (.bl (PyData.eqv da db)) H
def rNeD(K:Fg):R2:=fun x y H Q=>∃ da db,DatV K H x da/\DatV K H y db/\da.canLay0=true/\db.canLay0=true/\min da.depth db.depth<=100/\Q (.bl (!PyData.eqv da db)) H
theorem zOc{X:Cx}{k:Nat}(hr:Room k X.A):OpR X (compareOp .Eq) (rEqD X.K):=by
 intro pins s σ H x y v u Q I rx ry h
 obtain⟨da,db,h1,h2,c1,c2,hm,q⟩:=h
 obtain⟨_,r1⟩:=zBg I rx h1
 obtain⟨_,r2⟩:=zBg I ry h2
 exact SeqAt.compareEq_reads r1 r2 c1 c2 (by have:=hr.un; omega) ⟨.bl _,H,I,rfl,q⟩
theorem zNg{X:Cx}{k:Nat}(hr:Room k X.A):OpR X (compareOp .NotEq) (rNeD X.K):=by
 intro pins s σ H x y v u Q I rx ry h
 obtain⟨da,db,h1,h2,c1,c2,hm,q⟩:=h
 obtain⟨_,r1⟩:=zBg I rx h1
 obtain⟨_,r2⟩:=zBg I ry h2
 exact SeqAt.compareNe_reads r1 r2 c1 c2 (by have:=hr.un; omega) ⟨.bl _,H,I,rfl,q⟩
def datS(Γ:En):S->Option PyData
 | .v t=>toD t
 | a=>(sqlOf Γ a).bind fun xs=>(toDs xs).map .list
theorem zC0{K:Fg}{C:Fr}{w:W}{Γ:En}{σ:St}{H:Hp}{x:V}{s:S}{d:PyData}(R:Rep K C w Γ σ H)(o:SOk K C w σ H x s)(e:datS Γ s=some d):DatV K H x d:=by
 have lst:∀ {s:S},SOk K C w σ H x s->(sqlOf Γ s).bind (fun xs=>(toDs xs).map PyData.list)=some d->DatV K H x d:=fun {s} o e=>by
  obtain⟨xs,e1,e⟩:=bind_some e
  obtain⟨ds,e2,rfl⟩:=zAH e
  obtain⟨p,vs,rfl,h1,h2⟩:=zBO R o e1
  exact .inr ⟨p,vs,xs,ds,rfl,h1,h2,e2,rfl⟩
 cases s with
 | v t=>exact .inl ⟨t,o,e⟩
 | l xs=>exact lst o e
 | s i=>exact lst o e
 | d _=>cases e
def cmpD(f:PyData->PyData->Bool):En->S->S->Option S:=fun Γ a b=>(datS Γ a).bind fun da=>(datS Γ b).bind fun db=>if da.canLay0=true/\db.canLay0=true/\min da.depth db.depth<=100 then some (mkB (f da db)) else none
def eqA(f:V->V->Bool):En->S->S->Option S:=fun _ a b=>match a,b with
 | .v (.a x),.v (.a y)=>if scal x y=true then some (mkB (f x y)) else none
 | _,_=>none
theorem zJs{K:Fg}:SimR2 K rEq (eqA fun x y=>decide (x=y)):=by
 intro C w Γ σ H x y a b s Q R ox oy e k
 unfold eqA at e
 split at e
 ·split at e
  ·rename_i h
   cases e
   rw[ox.inva,oy.inva]
   exact⟨h,k _ H R .refl SOk.atom trivial⟩
  ·cases e
 ·cases e
theorem zI4{K:Fg}:SimR2 K rNe (eqA fun x y=>!decide (x=y)):=by
 intro C w Γ σ H x y a b s Q R ox oy e k
 unfold eqA at e
 split at e
 ·split at e
  ·rename_i h
   cases e
   rw[ox.inva,oy.inva]
   exact⟨h,k _ H R .refl SOk.atom trivial⟩
  ·cases e
 ·cases e
def eqS:En->S->S->Option S:=fun Γ a b=>(eqA (fun x y=>decide (x=y)) Γ a b).or (cmpD PyData.eqv Γ a b)
def neS:En->S->S->Option S:=fun Γ a b=>(eqA (fun x y=>!decide (x=y)) Γ a b).or (cmpD (fun a b=>!PyData.eqv a b) Γ a b)
theorem zI9{K:Fg}:SimR2 K (rEqD K) (cmpD PyData.eqv):=by
 intro C w Γ σ H x y a b s Q R ox oy e k
 obtain⟨da,e1,e⟩:=bind_some e
 obtain⟨db,e2,e⟩:=bind_some e
 split at e
 ·rename_i h
  cases e
  exact⟨da,db,zC0 R ox e1,zC0 R oy e2,h.1,h.2.1,h.2.2,k _ H R .refl SOk.atom trivial⟩
 ·cases e
theorem zJi{K:Fg}:SimR2 K (rNeD K) (cmpD fun a b=>!PyData.eqv a b):=by
 intro C w Γ σ H x y a b s Q R ox oy e k
 obtain⟨da,e1,e⟩:=bind_some e
 obtain⟨db,e2,e⟩:=bind_some e
 split at e
 ·rename_i h
  cases e
  exact⟨da,db,zC0 R ox e1,zC0 R oy e2,h.1,h.2.1,h.2.2,k _ H R .refl SOk.atom trivial⟩
 ·cases e
theorem zK6{K:Fg}:SimR2 K (fun x y H Q=>rEq x y H Q\/rEqD K x y H Q) eqS:=zJs.or zI9
theorem zKn{K:Fg}:SimR2 K (fun x y H Q=>rNe x y H Q\/rNeD K x y H Q) neS:=zI4.or zJi
theorem zOK{X:Cx}{k:Nat}(hr:Room k X.A):OpR X (compareOp .Eq) (fun x y H Q=>rEq x y H Q\/rEqD X.K x y H Q):=zPO.or (zOc hr)
theorem zN4{X:Cx}{k:Nat}(hr:Room k X.A):OpR X (compareOp .NotEq) (fun x y H Q=>rNe x y H Q\/rNeD X.K x y H Q):=zPM.or (zNg hr)
def rRepr(K:Fg):List V->Hp->VK->Prop:=fun xs H Q=>∃ x d,xs=[x]/\DatV K H x d/\d.showable=true/\d.hasDict=false/\d.depth<=100/\d.shown.length<=sizeLine/\Q (.str d.shown) H
theorem zI0{X:Cx}{k:Nat}(hr:Room k X.A):CallR X (.builtin "repr") (rRepr X.K):=by
 intro pins s σ H xs us Q I r h
 obtain⟨x,d,rfl,h1,hs,hd,hp,hz,q⟩:=h
 obtain⟨u,rfl,rx⟩:=vals1 r
 obtain⟨as,r1⟩:=zBg I rx h1
 cases r1 with
 | none=>exact PySem.P.repr_of_none ⟨.str _,H,I.tok _,⟨_,rfl⟩,q⟩
 | bool b=>exact PySem.P.repr_of_bool ⟨.str _,H,I.tok _,⟨_,rfl⟩,q⟩
 | int i t=>exact PySem.P.repr_of_int (by simpa [PyData.showable] using hs) ⟨.str _,H,I.tok _,⟨_,rfl⟩,q⟩
 | str z t=>exact PySem.P.repr_of_str ⟨.str _,H,I.tok _,⟨_,rfl⟩,q⟩ hz
 | list a b c e =>
  exact repr_of_reads' (.list a b c e) hs (PyData.noDict_hsm hd) hr.gd (by have:=hr.un; omega) (fun _ _ e=>e) (fun h' u tk hk=>⟨.str _,H,I.kept hk,⟨u,rfl⟩,q⟩) hz
 | tuple a b c e =>
  exact repr_of_reads' (.tuple a b c e) hs (PyData.noDict_hsm hd) hr.gd (by have:=hr.un; omega) (fun _ _ e=>e) (fun h' u tk hk=>⟨.str _,H,I.kept hk,⟨u,rfl⟩,q⟩) hz
 | dict=>cases hd
def reprS:En->List S->Option S:=fun Γ as=>match as with
 | [a]=>(datS Γ a).bind fun d=>if d.showable=true/\d.hasDict=false/\d.depth<=100/\d.shown.length<=sizeLine then some (.v (.a (.str d.shown))) else none
 | _=>none
theorem zId{K:Fg}:SimRs K (rRepr K) reprS:=by
 intro C w Γ σ H vs as s Q R o e k
 unfold reprS at e
 split at e
 ·obtain⟨d,e1,e⟩:=bind_some e
  split at e
  ·rename_i h
   cases e
   obtain⟨v,rfl,o1⟩:=soks1 o
   exact⟨v,d,rfl,zC0 R o1 e1,h.1,h.2.1,h.2.2.1,h.2.2.2,k _ H R .refl SOk.atom trivial⟩
  ·cases e
 ·cases e
def inS(neg:Bool):En->S->S->Option S:=fun Γ a b=>match a with
 | .v (.a x)=>(seqS Γ b).bind fun xs=>(atomsOf xs).bind fun vs=>if flatV x=true/\vs.all flatV=true then some (mkB (if neg then !inV x vs else inV x vs)) else none
 | _=>none
theorem zGW{K:Fg}{neg:Bool}:SimR2 K (rIn K neg) (inS neg):=by
 intro C w Γ σ H x y a b s Q R ox oy e k
 unfold inS at e
 split at e
 ·obtain⟨xs,e1,e⟩:=bind_some e
  obtain⟨vs,e2,e⟩:=bind_some e
  split at e
  ·rename_i h
   cases e
   obtain⟨p,us,rfl,h1,i1⟩:=zDk R oy e1
   have:=zDe i1 e2
   subst this
   rw[ox.inva]
   exact⟨p,us,rfl,h1,h.1,h.2,k _ H R .refl SOk.atom trivial⟩
  ·cases e
 ·cases e
def truS(Γ:En):S->Option Bool
 | .v (.a .non)=>some false
 | .v (.a (.bl b))=>some b
 | .v (.a (.int i))=>some (i != 0)
 | .v (.a (.str y))=>if y.length<=sizeLine then some ((y.length:Int) != 0) else none
 | .v (.t xs)=>some (!xs.isEmpty)
 | .v _=>none
 | a=>(sqlOf Γ a).map fun xs=>!xs.isEmpty
def dTru(f:DE):DT:=fun Γ=>(f Γ).bind fun p=>(truS p.2 p.1).map fun b=>(b,p.2)
theorem Ims.isEmpty{K:Fg}{H:Hp}{vs:List V}{ts:List T}(h:Ims K H vs ts):vs.isEmpty=ts.isEmpty:=by
 have:=h.len
 cases vs <;> cases ts <;> simp at this ⊢
theorem zLx{K:Fg}{te:TE}{f:DE}(h:SimE K te f):SimT K (fun σ H Q=>te σ H fun x H'=>∃ k,TruV K x H' k/\Q k H') (dTru f):=by
 intro C w Γ σ H b Γ' Q R e k
 obtain⟨⟨a,G1⟩,e1,e⟩:=bind_some e
 obtain⟨b',e2,e⟩:=zAH e
 cases e
 refine h C w Γ σ H a _ _ R e1 fun v H1 R1 ev1 o1 n1=>⟨b,?_,k H1 R1 ev1⟩
 dsimp only at e2
 unfold truS at e2
 split at e2
 ·cases e2; rw[o1.inva]; exact rfl
 ·cases e2; rw[o1.inva]; exact rfl
 ·cases e2; rw[o1.inva]; exact rfl
 ·split at e2
  ·rename_i hz
   cases e2; rw[o1.inva]; exact⟨hz,rfl⟩
  ·cases e2
 ·cases e2
  obtain⟨p,us,rfl,h1,i1⟩:=o1.invt
  exact .inr (.inl ⟨us,h1.sq,by rw[i1.isEmpty]⟩)
 ·cases e2
 ·obtain⟨xs,e3,e2⟩:=zAH e2
  subst e2
  obtain⟨p,us,rfl,h1,i1⟩:=zBO R1 o1 e3
  exact .inl ⟨us,h1,by rw[i1.isEmpty]⟩
def rfS(Γ:En):S->Option Unit
 | .v (.x _ _)=>some ()
 | .v (.l _)=>some ()
 | .l _=>some ()
 | .s i=>(sqlOf Γ (.s i)).map fun _=>()
 | _=>none
theorem zPK{K:Fg}{C:Fr}{w:W}{Γ:En}{σ:St}{H:Hp}{x:V}{a:S}{u:Unit}(R:Rep K C w Γ σ H)(o:SOk K C w σ H x a)(e:rfS Γ a=some u):∃ p,x=.ref p:=by
 unfold rfS at e
 split at e
 ·obtain⟨p,rfl,_⟩:=(show Im K H x (.x _ _) from o).invx; exact⟨p,rfl⟩
 ·obtain⟨p,_,rfl,_⟩:=(show Im K H x (.l _) from o).invl; exact⟨p,rfl⟩
 ·obtain⟨p,_,rfl,_⟩:=o; exact⟨p,rfl⟩
 ·obtain⟨xs,e1,_⟩:=zAH e
  obtain⟨p,_,rfl,_⟩:=zBO R o e1; exact⟨p,rfl⟩
 ·cases e
def isNoneS(neg:Bool):En->S->S->Option S:=fun Γ a b=>match b with
 | .v (.a .non)=>match a with
  | .v (.a x)=>some (mkB (if neg then !decide (x=V.non) else decide (x=V.non)))
  | .v (.t _)=>some (mkB neg)
  | a=>(rfS Γ a).map fun _=>mkB neg
 | _=>none
theorem zJ8{K:Fg}:SimR2 K (fun x y H Q=>y=.non/\Q (.bl (decide (x=.non))) H) (isNoneS false):=by
 intro C w Γ σ H x y a b s Q R ox oy e k
 unfold isNoneS at e
 split at e
 ·refine⟨oy.inva,?_⟩
  split at e
  ·cases e; rw[ox.inva]; exact k _ H R .refl SOk.atom trivial
  ·cases e
   obtain⟨p,us,rfl,h1,i1⟩:=ox.invt
   rw[decide_eq_false (by intro z; cases z)]
   exact k _ H R .refl SOk.atom trivial
  ·obtain⟨u,e1,e⟩:=zAH e
   cases e
   obtain⟨p,rfl⟩:=zPK R ox e1
   rw[decide_eq_false (by intro z; cases z)]
   exact k _ H R .refl SOk.atom trivial
 ·cases e
def EX{ι:Type}(K:Fg)(X:ι->Cx)(e:Expr)(f:DE):Prop:=∃ te,(∀ j,PE (X j) e te)/\SimE K te f
def TX{ι:Type}(K:Fg)(X:ι->Cx)(e:Expr)(f:DT):Prop:=∃ t,(∀ j,PT (X j) e t)/\SimT K t f
def WX{ι:Type}(K:Fg)(X:ι->Cx)(e:Expr)(f:DT):Prop:=∃ t,(∀ j,PW (X j) e t)/\SimT K t f
def AX{ι:Type}(K:Fg)(X:ι->Cx)(es:List Expr)(f:DA):Prop:=∃ t,(∀ j,PA (X j) es t)/\SimA K t f
def OX{ι:Type}(K:Fg)(X:ι->Cx)(e:Option Expr)(f:DO):Prop:=∃ t,(∀ j,PO (X j) e t)/\SimO K t f
def IX{ι:Type}(K:Fg)(X:ι->Cx)(tg it:Expr)(f:DI):Prop:=∃ t,(∀ j,PI (X j) tg it t)/\SimI K t f
def GX{ι:Type}(K:Fg)(X:ι->Cx)(ip:Option Nat)(tg:Expr)(f:En->T->Option En):Prop:=∃ t,(∀ j,PG (X j) tg t)/\SimG K ip t f
def GXs{ι:Type}(K:Fg)(X:ι->Cx)(ip:Option Nat)(tg:List Expr)(f:En->List T->Option En):Prop:=∃ t,(∀ j,PGs (X j) tg t)/\SimGs K ip t f
def SX{ι:Type}(K:Fg)(X:ι->Cx)(ip:Option Nat)(s:Stmt)(f:DS):Prop:=∃ t,(∀ j,PS (X j) s t)/\SimS K ip t f
def BX{ι:Type}(K:Fg)(X:ι->Cx)(ip:Option Nat)(s:List Stmt)(f:DS):Prop:=∃ t,(∀ j,PSs (X j) s t)/\SimS K ip t f
structure Fm{ι:Type}(K:Fg)(mg:Str->Option Value)(k:Nat)(X:ι->Cx):Prop where
 K:∀ j,(X j).K=K
 mg:∀ j,(X j).mg=mg
 calm:∀ j,(X j).calm=true
 room:∀ j,Room k (X j).A
section
variable {ι:Type}{K:Fg}{mg:Str->Option Value}{k:Nat}{X:ι->Cx}{ip:Option Nat}{a b c e:Expr}{es:List Expr}{pos:Pos}{fa fb fc:DE}{ta tb:DT}{da:DA}
theorem jZ(i:Nat){x:Str}(hN:∀ j,(X j).N[i]?=some x:=by intro _; rfl)(hv:∀ j,Vis (X j).env.scope x:=by intro _; first | exact Or.inl rfl | exact Or.inr (Or.inl rfl) | exact Or.inr (Or.inr rfl))(hd:(x == ("__debug__":Str))=false:=by decide)
  (hcd:(x == ("__classdict__":Str))=false:=by decide):EX K X (.Name x pos) (jV i):=⟨tVar i,fun j=>zFZ (hN j) (hv j) hd hcd,zMP⟩
theorem jJ{i:Int}{u}:EX K X (.Constant (.int i) u pos) (dC (.int i)):=⟨_,fun _=>zNi,zDw⟩
theorem zA4{v:Bool}{u}:EX K X (.Constant (.bool v) u pos) (dC (.bl v)):=⟨_,fun _=>zPW,zDw⟩
theorem zCQ{u}:EX K X (.Constant .none u pos) (dC .non):=⟨_,fun _=>zNe,zDw⟩
theorem zAF{v:Str}{u}:EX K X (.Constant (.str v) u pos) (dC (.str v)):=⟨_,fun _=>zJv,zDw⟩
theorem zBQ{x:Str}{N:String}(M:Fm K mg k X)(hm:mg x=none)(hv:bootBuiltins x=some (.type N))(hg:∀ j,Gl (X j) x:=by intro _; rfl)(hn:x≠"__name__":=by decide)(hd:(x == ("__debug__":Str))=false:=by decide):EX K X (.Name x pos) (dC (.ty N)) :=
 ⟨_,fun j=>zQN (hg j) (by rw[M.mg]; exact hm) hv hn hd,zDw⟩
theorem zCj{op:Operator}{r:R2}{h:En->S->S->Option S}(ho:∀ j,OpR (X j) (binaryOp op) r)(hs:SimR2 K r h)(ha:EX K X a fa)(hb:EX K X b fb):EX K X (.BinOp a op b pos) (dOp h fa fb) :=
 let ⟨_,p,s⟩:=ha; let ⟨_,q,u⟩:=hb; ⟨_,fun j=>zO5 (ho j) (p j) (q j),zC9 hs s u⟩
theorem zAS(M:Fm K mg k X)(ha:EX K X a fa)(hb:EX K X b fb):EX K X (.BinOp a .Add b pos) (dOp addS fa fb):=zCj (fun j=>by rw[← M.K j]; exact zNX) zJH ha hb
theorem zAf(ha:EX K X a fa)(hb:EX K X b fb):EX K X (.BinOp a .Sub b pos) (dOp subS fa fb):=zCj (fun j=>zOo) zBz ha hb
theorem zAx(ha:EX K X a fa)(hb:EX K X b fb):EX K X (.BinOp a .Mult b pos) (dOp mulS fa fb):=zCj (fun j=>zHJ) zE2 ha hb
theorem zBI(ha:EX K X a fa)(hb:EX K X b fb):EX K X (.BinOp a .Mod b pos) (dOp modS fa fb):=zCj (fun j=>zOG) zCc ha hb
theorem zB7(ha:EX K X a fa)(hb:EX K X b fb):EX K X (.BinOp a .FloorDiv b pos) (dOp fdivS fa fb):=zCj (fun j=>zMS) zCc ha hb
theorem zNj(ha:EX K X a fa)(hb:EX K X b fb):EX K X (.BinOp a .Pow b pos) (dOp powS fa fb):=zCj (fun j=>zOA) zCc ha hb
theorem zB2(ha:EX K X a fa):EX K X (.UnaryOp .USub a pos) (dUn negS fa):=let ⟨_,p,s⟩:=ha; ⟨_,fun j=>zQE zNw (p j),zOD zJI s⟩
theorem zOM{op:CmpOp}{r:R2}{h:En->S->S->Option S}(ho:∀ j,OpR (X j) (compareOp op) r)(hs:SimR2 K r h)(hm:behindInMarks op b=false)(ha:EX K X a fa)(hb:EX K X b fb):EX K X (.Compare a [op] [b] pos) (dOp h fa fb) :=
 let ⟨_,p,s⟩:=ha; let ⟨_,q,u⟩:=hb; ⟨_,fun j=>zMs (ho j) (p j) (q j) hm,zC9 hs s u⟩
theorem zNf{op:CmpOp}{r:R2}{h:En->S->S->Option S}(ho:∀ j,OpR (X j) (compareOp op) r)(hs:SimR2 K r h)(hm:behindInMarks op b=false)(ha:EX K X a fa)(hb:EX K X b fb):TX K X (.Compare a [op] [b] pos) (dTest (dOp h fa fb)) :=
 let ⟨_,p,s⟩:=ha; let ⟨_,q,u⟩:=hb; ⟨_,fun j=>zNM (ho j) (p j) (q j) hm,zCF (zC9 hs s u)⟩
structure CmpR{ι:Type}(K:Fg)(X:ι->Cx)(op:CmpOp)(h:En->S->S->Option S):Prop where
 ex:∃ r,(∀ j,OpR (X j) (compareOp op) r)/\SimR2 K r h
theorem zA6:CmpR K X .Lt ltS:=⟨_,fun _=>zPw,zBz⟩
theorem zBq:CmpR K X .Gt gtS:=⟨_,fun _=>zPg,zBz⟩
theorem zOz:CmpR K X .GtE geS:=⟨_,fun _=>zQA,zBz⟩
theorem zAR(M:Fm K mg k X):CmpR K X .Eq eqS:=⟨_,fun j=>by have:=zOK (M.room j); rw[M.K j]at this; exact this,zK6⟩
theorem zBA(M:Fm K mg k X):CmpR K X .NotEq neS:=⟨_,fun j=>by have:=zN4 (M.room j); rw[M.K j]at this; exact this,zKn⟩
theorem zIT(M:Fm K mg k X):CmpR K X .In (inS false):=⟨_,fun j=>by have:=zKE (X:=X j); rw[M.K j]at this; exact this,zGW⟩
theorem zGK(M:Fm K mg k X):CmpR K X .NotIn (inS true):=⟨_,fun j=>by have:=zFe (X:=X j); rw[M.K j]at this; exact this,zGW⟩
theorem zPD:CmpR K X .Is (isNoneS false):=⟨_,fun _=>zOZ,zJ8⟩
theorem ex_c{op:CmpOp}{h:En->S->S->Option S}(hc:CmpR K X op h)(ha:EX K X a fa)(hb:EX K X b fb)(hm:behindInMarks op b=false:=by first | exact nomark _ | with_unfolding_all rfl):EX K X (.Compare a [op] [b] pos) (dOp h fa fb) :=
 let ⟨_,p,q⟩:=hc.ex; zOM p q hm ha hb
theorem tx_c{op:CmpOp}{h:En->S->S->Option S}(hc:CmpR K X op h)(ha:EX K X a fa)(hb:EX K X b fb)(hm:behindInMarks op b=false:=by first | exact nomark _ | with_unfolding_all rfl):TX K X (.Compare a [op] [b] pos) (dTest (dOp h fa fb)) :=
 let ⟨_,p,q⟩:=hc.ex; zNf p q hm ha hb
theorem tx_v(M:Fm K mg k X)(ha:EX K X a fa)(he:∀ j whole,isTrue a (X j).env whole=(do let v ← whole; standAt a.pos; holding [v] (truthy v)):=by intro _ _; rfl):TX K X a (dTru fa) :=
 let ⟨te,p,s⟩:=ha; ⟨(fun σ H Q=>te σ H fun x H'=>∃ k,TruV K x H' k/\Q k H'),fun j=>by have:=zLd (p j) (he j); rw[M.K j]at this; exact this,zLx s⟩
theorem zA8(ha:TX K X a ta):TX K X (.UnaryOp .Not a pos) (dNot ta):=let ⟨_,p,s⟩:=ha; ⟨_,fun j=>zN0 (p j),zL3 s⟩
theorem zDH(ha:TX K X a ta):WX K X (.BoolOp .And [a] pos) ta:=let ⟨_,p,s⟩:=ha; ⟨_,fun j=>zMX (p j),s⟩
theorem zA3(ha:TX K X a ta):WX K X (.BoolOp .Or [a] pos) ta:=let ⟨_,p,s⟩:=ha; ⟨_,fun j=>zNl (p j),s⟩
theorem zCv(ha:TX K X a ta)(hb:WX K X (.BoolOp .And (b::es) pos) tb):WX K X (.BoolOp .And (a::b::es) pos) (dAnd ta tb):=let ⟨_,p,s⟩:=ha; let ⟨_,q,u⟩:=hb; ⟨_,fun j=>zOW (p j) (q j),zNW s u⟩
theorem zAt(ha:TX K X a ta)(hb:WX K X (.BoolOp .Or (b::es) pos) tb):WX K X (.BoolOp .Or (a::b::es) pos) (dOr ta tb):=let ⟨_,p,s⟩:=ha; let ⟨_,q,u⟩:=hb; ⟨_,fun j=>zOu (p j) (q j),zOg s u⟩
theorem tx_w(ha:WX K X a ta):TX K X a ta:=let ⟨_,p,s⟩:=ha; ⟨_,fun j=>(p j).pt,s⟩
theorem zBy{op}(ha:EX K X a fa):EX K X (.BoolOp op [a] pos) fa:=let ⟨_,p,s⟩:=ha; ⟨_,fun j=>zOV (p j),s⟩
theorem zBb(ha:EX K X a fa)(hb:EX K X (.BoolOp .And (b::es) pos) fb):EX K X (.BoolOp .And (a::b::es) pos) (dAndV fa fb):=let ⟨_,p,s⟩:=ha; let ⟨_,q,u⟩:=hb; ⟨_,fun j=>zNn (p j) (q j),zK1 s u⟩
theorem zP2(ha:EX K X a fa)(hb:EX K X (.BoolOp .Or (b::es) pos) fb):EX K X (.BoolOp .Or (a::b::es) pos) (dOrV fa fb):=let ⟨_,p,s⟩:=ha; let ⟨_,q,u⟩:=hb; ⟨_,fun j=>zQG (p j) (q j),zNU s u⟩
theorem zNr(ha:EX K X a fa):EX K X (.UnaryOp .Not a pos) (dNotV fa):=let ⟨_,p,s⟩:=ha; ⟨_,fun j=>zOl (p j),zLL s⟩
theorem zHk(hc:TX K X c ta)(ha:EX K X a fa)(hb:EX K X b fb):EX K X (.IfExp c a b pos) (dIfE ta fa fb):=let ⟨_,p,s⟩:=hc; let ⟨_,q,u⟩:=ha; let ⟨_,q',u'⟩:=hb; ⟨_,fun j=>zKv (p j) (q j) (q' j),zNV s u u'⟩
theorem jY:AX K X [] qQ:=⟨_,fun _=>zGL,zHF⟩
theorem jQ{fr:DA}(ha:EX K X e fa)(hr:AX K X es fr)(hs:∀ j,starEach (e::es) (X j).env=(false,eval e (X j).env)::starEach es (X j).env:=by intro _; rfl):AX K X (e::es) (jW fa fr) :=
 let ⟨_,p,s⟩:=ha; let ⟨_,q,u⟩:=hr; ⟨_,fun j=>zEI (p j) (q j) (hs j),zLY s u⟩
theorem zAG{x1}(h:AX K X es da):EX K X (.Tuple es x1 pos) (dTup da):=let ⟨_,p,s⟩:=h; ⟨_,fun j=>zON (p j),zMH s⟩
theorem zAc(h:AX K X es da):EX K X (.List es pos) (dLst da):=let ⟨_,p,s⟩:=h; ⟨_,fun j=>zOi (p j),zL4 s⟩
theorem zAC(M:Fm K mg k X)(ha:EX K X a fa)(hb:EX K X b fb)(hs:PlainIx b:=by exact fun _ _=>rfl):EX K X (.Subscript a b pos) (dOp ixS fa fb) :=
 let ⟨_,p,s⟩:=ha; let ⟨_,q,u⟩:=hb; ⟨_,fun j=>zP8 (by have:=zNq (X:=X j); rw[M.K j]at this; exact this) (p j) (q j) hs,zC9 zLE s u⟩
theorem zAo:OX K X none dNoPart:=⟨_,fun _=>zMp,zIc⟩
theorem zAU(ha:EX K X a fa):OX K X (some a) (dPart fa):=let ⟨_,p,s⟩:=ha; ⟨_,fun j=>zNR (p j),zLa s⟩
theorem zAq(M:Fm K mg k X){lo hi:Option Expr}{p2:Pos}{dl dh:DO}(ha:EX K X a fa)(hl:OX K X lo dl)(hh:OX K X hi dh):EX K X (.Subscript a (.Slice lo hi none p2) pos) (dSl fa dl dh) :=
 let ⟨_,p,s⟩:=ha; let ⟨_,q,u⟩:=hl; let ⟨_,q',u'⟩:=hh; ⟨_,fun j=>zKt (by have:=sl_S (X:=X j); rw[M.K j]at this; exact this) (p j) (q j) (q' j),zN1 s u u'⟩
structure CalR{ι:Type}(K:Fg)(X:ι->Cx)(f:Value)(h:En->List S->Option S):Prop where
 ex:∃ r,(∀ j,CallR (X j) f r)/\SimRs K r h
theorem zAO{x:Str}{p:Pos}{id:String}{h:En->List S->Option S}(M:Fm K mg k X)(hc:CalR K X (.builtin id) h)(hm:mg x=none)(hv:bootBuiltins x=some (.builtin id))(ha:AX K X (e::es) da)(hg:∀ j,Gl (X j) x:=by intro _; rfl)(hn:x≠"__name__":=by decide)(hdb:(x == ("__debug__":Str))=false:=by decide)
  (he:∀ j,starEach (e::es) (X j).env=(false,eval e (X j).env)::starEach es (X j).env:=by intro _; rfl) (hpl:∀ j,(backTo pos (starEach es (X j).env)).any (·.1)=false:=by intro _; rfl):EX K X (.Call (.Name x p) (e::es) [] pos) (dCB h da) :=
 let ⟨_,p,s⟩:=hc.ex; let ⟨_,q,u⟩:=ha; ⟨_,fun j=>zK8 (p j) (hg j) (by rw[M.mg]; exact hm) hv (q j) hn hdb (he j) (hpl j),zJz s u⟩
theorem zBM{x:Str}{p:Pos}{N:String}{h:En->List S->Option S}(M:Fm K mg k X)(hc:CalR K X (.type N) h)(hm:mg x=none)(hv:bootBuiltins x=some (.type N))(ha:AX K X (e::es) da)(hg:∀ j,Gl (X j) x:=by intro _; rfl)(hn:x≠"__name__":=by decide)(hdb:(x == ("__debug__":Str))=false:=by decide)
  (he:∀ j,starEach (e::es) (X j).env=(false,eval e (X j).env)::starEach es (X j).env:=by intro _; rfl) (hpl:∀ j,(backTo pos (starEach es (X j).env)).any (·.1)=false:=by intro _; rfl):EX K X (.Call (.Name x p) (e::es) [] pos) (dCB h da) :=
 let ⟨_,p,s⟩:=hc.ex; let ⟨_,q,u⟩:=ha; ⟨_,fun j=>zBw (p j) (hg j) (by rw[M.mg]; exact hm) hv (q j) hn hdb (he j) (hpl j),zJz s u⟩
theorem zAd(M:Fm K mg k X):CalR K X (.builtin "len") lenS:=⟨_,fun j=>by have:=zJG (X:=X j); rw[M.K j]at this; exact this,zJU⟩
theorem zDn(M:Fm K mg k X):CalR K X (.builtin "all") allS:=⟨_,fun j=>by have:=zKw (M.calm j); rw[M.K j]at this; exact this,zJm⟩
theorem zBD(M:Fm K mg k X):CalR K X (.builtin "isinstance") isiS:=⟨_,fun j=>by have:=zKN (X:=X j); rw[M.K j]at this; exact this,zJd⟩
theorem zDI(M:Fm K mg k X):CalR K X (.builtin "repr") reprS:=⟨_,fun j=>by have:=zI0 (M.room j); rw[M.K j]at this; exact this,zId⟩
theorem zM7(M:Fm K mg k X):CalR K X (.builtin "max") max2S:=⟨_,fun j=>zKB (M.calm j),zIs⟩
theorem zFh:CalR K X (.type "int") intS:=⟨_,fun j=>zJ9,zJk⟩
theorem zA9(M:Fm K mg k X):CalR K X (.type "tuple") tupleS:=⟨_,fun j=>by have:=zFF (X:=X j); rw[M.K j]at this; exact this,zGg⟩
theorem zEl{X:Cx}:CallR X (.type "range") rRng:=zKC.or zKI
theorem zDg{p p2 pos2:Pos}(M:Fm K mg k X)(hl:mg "list"=none)(hr:mg "range"=none)(ha:AX K X (e::es) da)(hg:∀ j,Gl (X j) "list":=by intro _; rfl)(hg2:∀ j,Gl (X j) "range":=by intro _; rfl)
  (he:∀ j,starEach (e::es) (X j).env=(false,eval e (X j).env)::starEach es (X j).env:=by intro _; rfl) (hpl:∀ j,(backTo pos2 (starEach es (X j).env)).any (·.1)=false:=by intro _; rfl) :
  EX K X (.Call (.Name "list" p) [.Call (.Name "range" p2) (e::es) [] pos2] [] pos) (dListRng da) :=
 let ⟨_,q,u⟩:=ha; ⟨_,fun j=>zBw (zFa (M.calm j)) (hg j) (by rw[M.mg]; exact hl) PyProof.Rows.boot_list (zEI (zBw zEl (hg2 j) (by rw[M.mg]; exact hr) PyProof.Rows.boot_range (q j) (by decide) (by decide) (he j) (hpl j)) zGL),zGt u⟩
theorem zJR{p p2 pos2:Pos}(M:Fm K mg k X)(hl:mg "tuple"=none)(hr:mg "range"=none)(ha:AX K X (e::es) da)(hg:∀ j,Gl (X j) "tuple":=by intro _; rfl)(hg2:∀ j,Gl (X j) "range":=by intro _; rfl)
  (he:∀ j,starEach (e::es) (X j).env=(false,eval e (X j).env)::starEach es (X j).env:=by intro _; rfl) (hpl:∀ j,(backTo pos2 (starEach es (X j).env)).any (·.1)=false:=by intro _; rfl) :
  EX K X (.Call (.Name "tuple" p) [.Call (.Name "range" p2) (e::es) [] pos2] [] pos) (dTupRng da) :=
 let ⟨_,q,u⟩:=ha; ⟨_,fun j=>zBw (zFN (M.calm j)) (hg j) (by rw[M.mg]; exact hl) PyProof.Rows.boot_tuple (zEI (zBw zEl (hg2 j) (by rw[M.mg]; exact hr) PyProof.Rows.boot_range (q j) (by decide) (by decide) (he j) (hpl j)) zGL),zHb u⟩
end
structure Fb{ι:Type}(P:Program)(wd:World)(base:Heap)(X:ι->Cx):Prop where
 P:∀ j,(X j).prog=P
 w:∀ j,(X j).w=wd
 b:∀ j,(X j).base=base
structure FD(P:Program)(wd:World)(K:Fg)(mg:Str->Option Value)(base:Heap)(k:Nat)(x:Str)(ip:Option Nat)(n:Nat)(F:DF):Prop where
 ex:∃ (f:Addr) (fd:FuncData) (ps:List Str),FnOk P wd K mg base CX0 k f fd ps (spD K ip n F)/\mg x=some (.ref f)/\PySem.W.keepIn K (.ref f)=true/\Binds K fd ps []
 len:∀ gs r,F gs=some r->gs.length=n
theorem zEG{ip:Option Nat}{np nN:Nat}{g:DS}:∀ gs r,fnD ip np nN g gs=some r->gs.length=np:=fun gs r e=>by
 unfold fnD at e
 split at e
 ·assumption
 ·cases e
section
variable {ι:Type}{P:Program}{wd:World}{base:Heap}{K:Fg}{mg:Str->Option Value}{k k' n:Nat}{X:ι->Cx}{ip:Option Nat}{a b c e:Expr}{es:List Expr}{pos p:Pos}{fa fb fc:DE}{ta tb:DT}{da:DA}{F:DF}{x:Str}
theorem zAB(M:Fm K mg k X)(B:Fb P wd base X)(D0:FD P wd K mg base k' x ip n F)(ha:AX K X (e::es) da)(hk:k'<=k:=by first | exact Nat.le_refl _ | decide | omega)(hg:∀ j,Gl (X j) x:=by intro _; rfl)(hdb:(x == ("__debug__":Str))=false:=by decide)
  (he:∀ j,starEach (e::es) (X j).env=(false,eval e (X j).env)::starEach es (X j).env:=by intro _; rfl) (hpl:∀ j,(backTo pos (starEach es (X j).env)).any (·.1)=false:=by intro _; rfl) :
  EX K X (.Call (.Name x p) (e::es) [] pos) (dCall ip F [] da):=by
 obtain⟨f,fd,ps,h1,h2,h3,h4⟩:=D0.ex
 obtain⟨t,q,u⟩:=ha
 refine⟨tCall (spD K ip n F) [] E0 t,fun j=>?_,zDT D0.len u⟩
 have hF:FnOk (X j).prog (X j).w (X j).K (X j).mg (X j).base CX0 k' f fd ps (spD K ip n F):=by rw[B.P,B.w,M.K,M.mg,B.b]; exact h1
 exact zHM hF ((M.room j).mono hk) (hg j) (by rw[M.mg]; exact h2) (by rw[M.K]; exact h3) (by rw[M.K]; exact h4) .nil pass0 (q j) hdb (he j) (hpl j)
theorem zA1{tg l:Expr}(M:Fm K mg k X)(hl:EX K X l fa):IX K X tg l (dSeqI fa):=let ⟨t,p,s⟩:=hl; ⟨iSeq K t,fun j=>by have:=zMz (tg:=tg) (p j); rw[M.K j]at this; exact this,zLF s⟩
theorem zCW{tg:Expr}(M:Fm K mg k X)(hm:mg "range"=none)(ha:AX K X [a] da)(hg:∀ j,Gl (X j) "range":=by intro _; rfl)(hs:∀ j,starEach [a] (X j).env=[(false,eval a (X j).env)]:=by intro _; rfl):IX K X tg (.Call (.Name "range" p) [a] [] pos) (dRng1 da) :=
 let ⟨_,q,u⟩:=ha; ⟨_,fun j=>zIx (hg j) (by rw[M.mg]; exact hm) (q j) (hs j),zJL u⟩
theorem zRR{tg:Expr}(M:Fm K mg k X)(hm:mg "range"=none)(ha:AX K X [a,b] da)(hg:∀ j,Gl (X j) "range":=by intro _; rfl)(hs:∀ j,starEach [a,b] (X j).env=[(false,eval a (X j).env),(false,eval b (X j).env)]:=by intro _; rfl)
  (hs2:∀ j,starEach [b] (X j).env=[(false,eval b (X j).env)]:=by intro _; rfl):IX K X tg (.Call (.Name "range" p) [a,b] [] pos) (dRng2 da) :=
 let ⟨_,q,u⟩:=ha; ⟨_,fun j=>zJQ (hg j) (by rw[M.mg]; exact hm) (q j) (hs j) (hs2 j),zKJ u⟩
theorem zAP(i:Nat)(hi:ip≠some i:=by decide)(hN:∀ j,(X j).N.Nodup:=by intro _; show (List.Nodup _); decide +kernel)(hx':∀ j,(X j).N[i]?=some x:=by intro _; rfl)(hx:∀ j,Loc (X j).env.scope x:=by intro _; first | exact Or.inl rfl | exact Or.inr rfl)
  (hf:∀ j,(X j).fn x=true\/(X j).env.scope.names.lookup x=some .local:=by intro _; first | exact .inl rfl | exact .inr rfl):GX K X ip (.Name x pos) (gdName i):=⟨_,fun j=>zG1 (hN j) (hx' j) (hx j) (hf j),zJb hi⟩
theorem zB9:GXs K X ip [] gdNil:=⟨_,fun _=>zM8,zJY⟩
theorem zAi{f:En->T->Option En}{g:En->List T->Option En}(h1:GX K X ip e f)(h2:GXs K X ip es g)(hst:∀ j,(assignEach (e::es) (X j).env).map (·.2)=assign e (X j).env::(assignEach es (X j).env).map (·.2):=by intro _; rfl):GXs K X ip (e::es) (gdCons f g) :=
 let ⟨_,p,s⟩:=h1; let ⟨_,q,u⟩:=h2; ⟨_,fun j=>zKf (p j) (q j) (hst j),zIj s u⟩
theorem zCO(n:Nat){kk:Nat}{g:En->List T->Option En}(M:Fm K mg k X)(h:GXs K X ip es g)(hn:∀ j,(assignEach es (X j).env).length=n:=by intro _; rfl)(hst:∀ j,(assignEach es (X j).env).findIdx? (·.1)=none:=by intro _; rfl):GX K X ip (.Tuple es kk pos) (gdTup n g) :=
 let ⟨_,p,s⟩:=h; ⟨_,fun j=>zMJ K (M.K j) (M.calm j) (p j) (hn j) (hst j),zLS s⟩
def QX{ι:Type}(K:Fg)(X:ι->Cx)(ifs:List Expr)(f:DT):Prop:=∃ t,(∀ j,PTs (X j) ifs t)/\SimT K t f
def dYes:DT:=fun Γ=>some (true,Γ)
theorem zA7:QX K X [] dYes:=⟨_,fun _=>zMv,fun C w Γ σ H b Γ' Q R e k=>by cases e; exact k H R .refl⟩
theorem zDz(h:TX K X c ta):QX K X [c] ta:=let ⟨_,p,s⟩:=h; ⟨_,fun j=>zLt (p j),s⟩
abbrev CI(ι:Type):=ι×Addr×List (Str×Addr)×Shared×Hp×List Addr
abbrev cxF{ι:Type}(X:ι->Cx)(N':List Str)(sc:Scope):CI ι->Cx:=fun q=>cxC (X q.1) N' sc q.2.1 q.2.2.1 q.2.2.2.1 q.2.2.2.2.1 q.2.2.2.2.2
theorem Fm.comp{N':List Str}{sc:Scope}(M:Fm K mg k X):Fm K mg k (cxF X N' sc):=⟨fun j=>M.K j.1,fun j=>M.mg j.1,fun j=>M.calm j.1,fun j=>M.room j.1⟩
theorem Fb.comp{N':List Str}{sc:Scope}(B:Fb P wd base X):Fb P wd base (cxF X N' sc):=⟨fun j=>B.P j.1,fun j=>B.w j.1,fun j=>B.b j.1⟩
theorem zA0{N':List Str}{ix:List (Option Nat)}{sc:Scope}{elt tg iter:Expr}{ifs:List Expr}{di:DI}{g:En->T->Option En}{dc:DT}{de:DE}(mu:Option (Nat×Nat))(M:Fm K mg k X)(S:∀ j,CompOk (X j) N' ix sc)(hi:IX K X tg iter di)
  (hg:GX K (cxF X N' sc) (mu.map (·.1)) tg g) (ht:QX K (cxF X N' sc) ifs dc) (he:EX K (cxF X N' sc) elt de)
  (hmu:∀ j i,mu=some (j,i)->ix[j]?=some (some i):=by intro _ _ e; first | (cases e; rfl) | cases e) (hix:∀ (j j' i:Nat),mu.map (·.2)=some i->ix[j]?=some (some i)->ix[j']?=some (some i)->j=j')
  (hs:∀ j x,foldedSetIterable iter (X j).env x=pure x:=by intro _ _; rfl):EX K X (.ListComp elt [⟨tg,iter,ifs,0⟩] sc pos) (dComp mu ix di g dc de) :=
 let ⟨_,p1,s1⟩:=hi; let ⟨_,p2,s2⟩:=hg; let ⟨_,p3,s3⟩:=ht; let ⟨_,p4,s4⟩:=he
 ⟨_,fun j=>zNK (S j) (M.calm j) (p1 j) (fun C cs s H ex=>p2 (j,C,cs,s,H,ex)) (fun C cs s H ex=>p3 (j,C,cs,s,H,ex)) (fun C cs s H ex=>p4 (j,C,cs,s,H,ex)) (hs j),zF4 s1 s2 s3 s4 hmu hix⟩
theorem hix0{ix:List (Option Nat)}:∀ (j j' i:Nat),(none:Option (Nat×Nat)).map (·.2)=some i->ix[j]?=some (some i)->ix[j']?=some (some i)->j=j':=fun _ _ _ e=>by cases e
def onceIx(ix:List (Option Nat))(j i:Nat):Bool:=(List.range ix.length).all fun m=>decide (ix[m]?=some (some i)->m=j)
theorem hix1{ix:List (Option Nat)}{j0 i0:Nat}(h:onceIx ix j0 i0=true):∀ (j j' i:Nat),(some (j0,i0)).map (·.2)=some i->ix[j]?=some (some i)->ix[j']?=some (some i)->j=j':=by
 intro j j' i e h1 h2
 cases e
 have key:∀ m:Nat,ix[m]?=some (some i0)->m=j0:=fun m hm=>by
  have hl:=(List.getElem?_eq_some_iff.mp hm).1
  have:=List.all_eq_true.mp h m (by simpa using hl)
  exact (of_decide_eq_true this) hm
 rw[key j h1,key j' h2]
theorem zBu{i:Nat}{name:Str}{apos cpos:Pos}{id:String}{r:V->List V->Hp->VK->Prop}{h:En->List T->List S->Option (T×List T)}{y:Str}{yp:Pos}(M:Fm K mg k X)(slot:Slot "list" name id)(hty:typeOf (.builtin id)=pure (.type "method_descriptor"))(hm:∀ j,MtM (X j) id r)(hr:SimMut K r h)
  (ho:∀ j,PE (X j) (.Name y yp) (tVar i)) (ha:AX K X (e::es) da)
  (hbase:∀ j,attributeBase (.Name y yp) name (X j).env (eval (.Name y yp) (X j).env)=eval (.Name y yp) (X j).env:=by intro _; rfl)
  (hfew:∀ j,((backTo cpos (starEach (e::es) (X j).env)).all (fun x=>!x.1) && (backToKw cpos (keywordEach [] (X j).env)).all (fun x=>x.1.isSome) && decide ((e::es).length+([]:List Keyword).length+(if ([]:List Keyword).isEmpty then 0 else 1) < 30))=true:=by intro _; rfl)
  (hline:(apos.endLine == cpos.line)=true:=by rfl) (hs:∀ j,starEach (e::es) (X j).env=(false,eval e (X j).env)::starEach es (X j).env:=by intro _; rfl) (hplain:∀ j,(backTo cpos (starEach es (X j).env)).any (·.1)=false:=by intro _; rfl) :
  EX K X (.Call (.Attribute (.Name y yp) name apos) (e::es) [] cpos) (dMut i h da) :=
 let ⟨t,q,u⟩:=ha; ⟨tBM K "list" r (tVar i) t,fun j=>by have:=zOw PySem.F.plainAttrs_list slot hty (hm j) (ho j) (q j) (hbase j) (hfew j) hline (hs j) (hplain j); rw[M.K j]at this; exact this,zG7 hr u⟩
theorem zEM{i:Nat}{name:Str}{apos cpos:Pos}{id:String}{r:V->List V->Hp->VK->Prop}{h:En->List T->List S->Option (T×List T)}{y:Str}{yp:Pos}(M:Fm K mg k X)(slot:Slot "list" name id)(hty:typeOf (.builtin id)=pure (.type "method_descriptor"))(hm:∀ j,MtM (X j) id r)(hr:SimMut K r h)
  (ho:∀ j,PE (X j) (.Name y yp) (tVar i)) (hbase:∀ j,attributeBase (.Name y yp) name (X j).env (eval (.Name y yp) (X j).env)=eval (.Name y yp) (X j).env:=by intro _; rfl) (hline:(apos.endLine == cpos.line)=true:=by rfl) :
  EX K X (.Call (.Attribute (.Name y yp) name apos) [] [] cpos) (dMut i h qQ) :=
 ⟨tBM0 K "list" r (tVar i),fun j=>by have:=zN7 PySem.F.plainAttrs_list slot hty (hm j) (ho j) (hbase j) hline; rw[M.K j]at this; exact this,zLc hr⟩
theorem zFi{apos cpos:Pos}{o:Expr}(M:Fm K mg k X)(ho:EX K X o fa)(ha:AX K X (e::es) da)
  (hbase:∀ j,attributeBase o "index" (X j).env (eval o (X j).env)=eval o (X j).env:=by intro _; rfl)
  (hfew:∀ j,((backTo cpos (starEach (e::es) (X j).env)).all (fun x=>!x.1) && (backToKw cpos (keywordEach [] (X j).env)).all (fun x=>x.1.isSome) && decide ((e::es).length+([]:List Keyword).length+(if ([]:List Keyword).isEmpty then 0 else 1) < 30))=true:=by intro _; rfl)
  (hline:(apos.endLine == cpos.line)=true:=by rfl) (hs:∀ j,starEach (e::es) (X j).env=(false,eval e (X j).env)::starEach es (X j).env:=by intro _; rfl) (hplain:∀ j,(backTo cpos (starEach es (X j).env)).any (·.1)=false:=by intro _; rfl) :
  EX K X (.Call (.Attribute o "index" apos) (e::es) [] cpos) (dIndex fa da) :=
 have hm:∀ j,MtM (X j) "tuple.index" (rTupIndex K):=fun j=>by have:=zGf (X:=X j); rw[M.K j]at this; exact this
 let ⟨t0,q0,u0⟩:=ho; let ⟨t,q,u⟩:=ha; ⟨tBMS K (rTupIndex K) t0 t,fun j=>by have:=zOF PySem.F.slot_tuple_index PySem.F.type_tuple_index (hm j) (q0 j) (q j) (hbase j) (hfew j) hline (hs j) (hplain j); rw[M.K j]at this; exact this,zKD u0 u⟩
theorem pv'(i:Nat){x:Str}{pos:Pos}(hN:∀ j,(X j).N[i]?=some x:=by intro _; rfl)(hv:∀ j,Vis (X j).env.scope x:=by intro _; first | exact Or.inl rfl | exact Or.inr (Or.inl rfl) | exact Or.inr (Or.inr rfl))(hd:(x == ("__debug__":Str))=false:=by decide)
  (hcd:(x == ("__classdict__":Str))=false:=by decide):∀ j,PE (X j) (.Name x pos) (tVar i):=fun j=>zFZ (hN j) (hv j) hd hcd
variable {st:Stmt}{sts sts':List Stmt}{f g:DS}
theorem zAJ:BX K X ip [] dNext:=⟨_,fun _=>zMr,zKT⟩
theorem zAD(h:SX K X ip st f):BX K X ip [st] f:=let ⟨_,p,s⟩:=h; ⟨_,fun j=>zMm (p j),s⟩
theorem zAA(h:SX K X ip st f)(h2:BX K X ip sts g):BX K X ip (st::sts) (dSeq f g):=let ⟨_,p,s⟩:=h; let ⟨_,q,u⟩:=h2; ⟨_,fun j=>zKV (p j) (q j),zLb s u⟩
theorem zGP:SX K X ip st dNever:=⟨_,fun _=>zKq,zHv (ts:=dNever)⟩
theorem zBU(h:EX K X e fa)(hs:∀ j,swapsWith e none pos.line (X j).env=pure false:=by intro _; rfl):SX K X ip (.Expr e pos) (dDrop fa):=let ⟨_,p,s⟩:=h; ⟨_,fun j=>zL6 (p j) (hs j),zJ1 s⟩
theorem zAE(h:EX K X e fa):SX K X ip (.Return (some e) pos) (dRet fa):=let ⟨_,p,s⟩:=h; ⟨_,fun j=>zOe (p j),zK3 s⟩
theorem zAL(hc:TX K X c ta)(h1:BX K X ip sts f)(h2:BX K X ip sts' g):SX K X ip (.If c sts sts' pos) (dIf ta f g):=let ⟨_,p,s⟩:=hc; let ⟨_,q,u⟩:=h1; let ⟨_,q',u'⟩:=h2; ⟨_,fun j=>zQM (p j) (q j) (q' j),zLv s u u'⟩
theorem zAI(i:Nat){pos':Pos}(h:EX K X e fa)(hi:ip≠some i:=by decide)(hN:∀ j,(X j).N.Nodup:=by intro _; show (List.Nodup _); decide +kernel)(hx':∀ j,(X j).N[i]?=some x:=by intro _; rfl)(hx:∀ j,Loc (X j).env.scope x:=by intro _; first | exact Or.inl rfl | exact Or.inr rfl)
  (hs:∀ j,swapsWith e (some (.Name x pos')) pos.line (X j).env=pure false:=by intro _; rfl) (hf:∀ j,(X j).fn x=true\/(X j).env.scope.names.lookup x=some .local:=by intro _; first | exact .inl rfl | exact .inr rfl):SX K X ip (.Assign [.Name x pos'] e pos) (dSet i fa) :=
 let ⟨_,p,s⟩:=h; ⟨_,fun j=>zOB (hN j) (hx' j) (hx j) (p j) (hs j) (hf j),zFy s hi⟩
theorem zCR{N':List Str}{ix:List (Option Nat)}{sc:Scope}{elt tg iter:Expr}{ifs:List Expr}{di:DI}{gg:En->T->Option En}{dc:DT}{de:DE}{pos' spos:Pos}(i:Nat)(mu:Option (Nat×Nat))(M:Fm K mg k X)(S:∀ j,CompOk (X j) N' ix sc)(h1:IX K X tg iter di)
  (hg:GX K (cxF X N' sc) (mu.map (·.1)) tg gg) (ht:QX K (cxF X N' sc) ifs dc) (he:EX K (cxF X N' sc) elt de)
  (hix:∀ (j j' i:Nat),mu.map (·.2)=some i->ix[j]?=some (some i)->ix[j']?=some (some i)->j=j') (hi:ip≠some i:=by decide) (hmu:∀ j i,mu=some (j,i)->ix[j]?=some (some i):=by intro _ _ e; first | (cases e; rfl) | cases e)
  (hN:∀ j,(X j).N.Nodup:=by intro _; show (List.Nodup _); decide +kernel) (hx':∀ j,(X j).N[i]?=some x:=by intro _; rfl) (hx:∀ j,Loc (X j).env.scope x:=by intro _; first | exact Or.inl rfl | exact Or.inr rfl)
  (hsw:∀ j,swapsWith (.ListComp elt [⟨tg,iter,ifs,0⟩] sc pos) (some (.Name x pos')) spos.line (X j).env=pure true:=by intro _; rfl)
  (hf:∀ j,(X j).fn x=true\/(X j).env.scope.names.lookup x=some .local:=by intro _; first | exact .inl rfl | exact .inr rfl)
  (hs:∀ j x,foldedSetIterable iter (X j).env x=pure x:=by intro _ _; rfl):SX K X ip (.Assign [.Name x pos'] (.ListComp elt [⟨tg,iter,ifs,0⟩] sc pos) spos) (dSet i (dComp mu ix di gg dc de)) :=
 let ⟨_,p1,s1⟩:=h1; let ⟨_,p2,s2⟩:=hg; let ⟨_,p3,s3⟩:=ht; let ⟨_,p4,s4⟩:=he
 ⟨_,fun j=>zLy (hN j) (hx' j) (hx j) (S j) (M.calm j) (p1 j) (fun C cs s H ex=>p2 (j,C,cs,s,H,ex)) (fun C cs s H ex=>p3 (j,C,cs,s,H,ex)) (fun C cs s H ex=>p4 (j,C,cs,s,H,ex)) (hsw j) (hf j) (hs j),zFy (zF4 s1 s2 s3 s4 hmu hix) hi⟩
theorem zDV(i:Nat){y:Str}{yp p2:Pos}(he:EX K X e fa)(ho:∀ j,PE (X j) (.Name y yp) (tVar i))(hb:EX K X b fb)(hs:∀ j,swapsWithSole [.Subscript (.Name y yp) b p2] e pos.line (X j).env=pure false:=by intro _; rfl)(hw:∀ j,swappedStores [.Subscript (.Name y yp) b p2] e (X j).env=pure none:=by intro _; rfl)
  (hA:∀ j v,assign (.Subscript (.Name y yp) b p2) (X j).env v=(do let ov ← holding [v] (eval (.Name y yp) (X j).env); let iv ← holding [v,ov] (eval b (X j).env); standAt p2; holding [v,ov,iv] (setItem ov iv v); release [v,ov,iv] []):=by intro _ _; rfl) (h1:∀ j,(assignEach [.Subscript (.Name y yp) b p2] (X j).env).map (·.2)=[assign (.Subscript (.Name y yp) b p2) (X j).env]:=by intro _; rfl) :
  SX K X ip (.Assign [.Subscript (.Name y yp) b p2] e pos) (dSetIx i fa fb) :=
 let ⟨_,p,s⟩:=he; let ⟨_,q,u⟩:=hb; ⟨_,fun j=>zJX (p j) (zOm (ho j) (q j) zLG (hA j)) (hs j) (hw j) (h1 j),zHx s u⟩
theorem zFs{tg:Expr}{gg:En->T->Option En}(he:EX K X e fa)(hg:GX K X ip tg gg)(hs:∀ j,swapsWithSole [tg] e pos.line (X j).env=pure false:=by intro _; rfl)(hw:∀ j,swappedStores [tg] e (X j).env=pure none:=by intro _; rfl)(h1:∀ j,(assignEach [tg] (X j).env).map (·.2)=[assign tg (X j).env]:=by intro _; rfl):SX K X ip (.Assign [tg] e pos) (dUnp gg fa) :=
 let ⟨_,p,s⟩:=he; let ⟨_,q,u⟩:=hg; ⟨_,fun j=>zJX (p j) (q j) (hs j) (hw j) (h1 j),zLH s u⟩
theorem zJD(i1 i2:Nat){x1 x2:Str}{px py pt:Pos}{kt k2 pt2}(M:Fm K mg k X)(ha:AX K X [a,b] da)(h12:i1≠i2:=by decide)(hi1:ip≠some i1:=by decide)(hi2:ip≠some i2:=by decide)(hN:∀ j,(X j).N.Nodup:=by intro _; show (List.Nodup _); decide +kernel)
  (e1:∀ j,(X j).N[i1]?=some x1:=by intro _; rfl) (e2:∀ j,(X j).N[i2]?=some x2:=by intro _; rfl) (l1:∀ j,(X j).env.scope.names.lookup x1=some .local:=by intro _; rfl) (l2:∀ j,(X j).env.scope.names.lookup x2=some .local:=by intro _; rfl)
  (hw:∀ j,swappedStores [.Tuple [.Name x1 px,.Name x2 py] kt pt] (.Tuple [a,b] k2 pt2) (X j).env=pure (some [x1,x2]):=by intro _; rfl)
  (hs:∀ j,swapsWithSole [.Tuple [.Name x1 px,.Name x2 py] kt pt] (.Tuple [a,b] k2 pt2) pos.line (X j).env=pure false:=by intro _; rfl) :
  SX K X ip (.Assign [.Tuple [.Name x1 px,.Name x2 py] kt pt] (.Tuple [a,b] k2 pt2) pos) (dPar2 i1 i2 da) :=
 let ⟨_,q,u⟩:=ha; ⟨_,fun j=>zN5 (M.calm j) (hN j) (e1 j) (e2 j) h12 (l1 j) (l2 j) (q j) (hw j) (hs j),zK5 u hi1 hi2⟩
theorem zL7(i1 i2 i3:Nat){x1 x2 x3:Str}{px py pz pt:Pos}{kt k2 pt2}(M:Fm K mg k X)(ha:AX K X [a,b,c] da)(h12:i1≠i2:=by decide)(h13:i1≠i3:=by decide)(h23:i2≠i3:=by decide)(hi1:ip≠some i1:=by decide)(hi2:ip≠some i2:=by decide)(hi3:ip≠some i3:=by decide)(hN:∀ j,(X j).N.Nodup:=by intro _; show (List.Nodup _); decide +kernel)
  (e1:∀ j,(X j).N[i1]?=some x1:=by intro _; rfl) (e2:∀ j,(X j).N[i2]?=some x2:=by intro _; rfl) (e3:∀ j,(X j).N[i3]?=some x3:=by intro _; rfl) (l1:∀ j,(X j).env.scope.names.lookup x1=some .local:=by intro _; rfl) (l2:∀ j,(X j).env.scope.names.lookup x2=some .local:=by intro _; rfl) (l3:∀ j,(X j).env.scope.names.lookup x3=some .local:=by intro _; rfl)
  (hw:∀ j,swappedStores [.Tuple [.Name x1 px,.Name x2 py,.Name x3 pz] kt pt] (.Tuple [a,b,c] k2 pt2) (X j).env=pure (some [x1,x2,x3]):=by intro _; rfl)
  (hs:∀ j,swapsWithSole [.Tuple [.Name x1 px,.Name x2 py,.Name x3 pz] kt pt] (.Tuple [a,b,c] k2 pt2) pos.line (X j).env=pure false:=by intro _; rfl) :
  SX K X ip (.Assign [.Tuple [.Name x1 px,.Name x2 py,.Name x3 pz] kt pt] (.Tuple [a,b,c] k2 pt2) pos) (dPar3 i1 i2 i3 da) :=
 let ⟨_,q,u⟩:=ha; ⟨_,fun j=>zND (M.calm j) (hN j) (e1 j) (e2 j) (e3 j) h12 h13 h23 (l1 j) (l2 j) (l3 j) (q j) (hw j) (hs j),zJr u hi1 hi2 hi3⟩
theorem zBn(nn:Nat)(hp:∀ j,PassesOwn (model (X j).prog (X j).w) (X j).A (X j).env (X j).xe)(hc:TX K X c ta)(hb:BX K X ip sts f):SX K X ip (.While c sts [] pos) (dWhile ta f nn) :=
 let ⟨_,p,s⟩:=hc; let ⟨_,q,u⟩:=hb; ⟨_,fun j=>zKb (hp j) (p j) (q j),zIR nn s u⟩
theorem zFn{tg iter:Expr}{di:DI}{gg:En->T->Option En}(M:Fm K mg k X)(hp:∀ j,PassesOwn (model (X j).prog (X j).w) (X j).A (X j).env (X j).xe)(hi:IX K X tg iter di)(hg:GX K X ip tg gg)(hb:BX K X ip sts f)
  (hs:∀ j x,foldedSetIterable iter (X j).env x=pure x:=by intro _ _; rfl):SX K X ip (.For tg iter sts [] pos) (dFor ip di gg f) :=
 let ⟨_,p1,s1⟩:=hi; let ⟨_,p2,s2⟩:=hg; let ⟨_,p3,s3⟩:=hb; ⟨_,fun j=>zNc (hp j) (M.calm j) (p1 j) (p2 j) (p3 j) (hs j),zKo s1 s2 s3⟩
end
section
variable {P:Program}{wd:World}{base:Heap}{K:Fg}{mg:Str->Option Value}{k:Nat}
abbrev cx1(P:Program)(wd:World)(K:Fg)(mg:Str->Option Value)(base:Heap)(N:List Str)(qual:Str)(sc:Scope)(f:Addr)(cdv:Value)(A:Around)(outer:List Env)(s:Shared)(H:Hp)(E:XK):Unit->Cx:=fun _=>(cxOf CX0 P wd K mg base N qual sc f cdv A outer s H E).nox
theorem zAM{x:Str}{st:Stmt}{f:Addr}{fd:FuncData}{N ps:List Str}{ip:Option Nat}{g:DS}(F:Fun K x x st f fd)(S:FnScope N ps (defScope st))(hm:mg x=some (.ref f))(hb:Binds K fd ps [])
  (body:∀ (cdv:Value) (A:Around) (outer:List Env) (s:Shared) (H:Hp) (E:XK),Fm K mg k (cx1 P wd K mg base N x (defScope st) f cdv A outer s H E)->Fb P wd base (cx1 P wd K mg base N x (defScope st) f cdv A outer s H E)->BX K (cx1 P wd K mg base N x (defScope st) f cdv A outer s H E) ip (defBody st) g) :
  FD P wd K mg base (k+1) x ip ps.length (fnD ip ps.length N.length g):=by
 refine⟨⟨f,fd,ps,?_,hm,F.kp,hb⟩,zEG⟩
 refine F.ok S (fun vs H Q E h=>h.1) fun cdv A outer s H vs Q E hr h=>?_
 obtain⟨t,p,u⟩:=body cdv A outer s H E ⟨fun _=>rfl,fun _=>rfl,fun _=>rfl,fun _=>hr⟩ ⟨fun _=>rfl,fun _=>rfl,fun _=>rfl⟩
 exact⟨t,p (),zED u h⟩
end
section
variable {P:Program}{wd:World}{base:Heap}{K:Fg}{mg:Str->Option Value}{k:Nat}
theorem zPY{x:Str}{st:Stmt}{f:Addr}{fd:FuncData}{N ps:List Str}{ip:Option Nat}{g:DS}(F:Fun K x x st f fd)(S:FnScope N ps (defScope st))
  (body:∀ (cdv:Value) (A:Around) (outer:List Env) (s:Shared) (H:Hp) (E:XK),Fm K mg k (cx1 P wd K mg base N x (defScope st) f cdv A outer s H E)->Fb P wd base (cx1 P wd K mg base N x (defScope st) f cdv A outer s H E)->BX K (cx1 P wd K mg base N x (defScope st) f cdv A outer s H E) ip (defBody st) g) :
  FnOk P wd K mg base CX0 (k+1) f fd ps (spD K ip ps.length (fnD ip ps.length N.length g)):=by
 refine F.ok S (fun vs H Q E h=>h.1) fun cdv A outer s H vs Q E hr h=>?_
 obtain⟨t,p,u⟩:=body cdv A outer s H E ⟨fun _=>rfl,fun _=>rfl,fun _=>rfl,fun _=>hr⟩ ⟨fun _=>rfl,fun _=>rfl,fun _=>rfl⟩
 exact⟨t,p (),zED u h⟩
theorem zCB{x:Str}{st:Stmt}{f:Addr}{fd:FuncData}{ps:List Str}{ip:Option Nat}{n:Nat}(F:Fun K x x st f fd)(hm:mg x=some (.ref f))(hb:Binds K fd ps [])(hn:ps.length=n):FD P wd K mg base k x ip n (fun _=>none):=by
 refine⟨⟨f,fd,ps,⟨fun vs H Q E h=>h.1.trans hn.symm,fun A outer s H args us vs Q E _ _ _ _ h=>?_⟩,hm,F.kp,hb⟩,fun gs r e=>nomatch e⟩
 obtain⟨_,w,gs,r,ys,e,_⟩:=h
 cases e
theorem len1{us:List Value}(h:us.length=1):∃ a,us=[a]:=List.length_eq_one_iff.mp h
theorem lenSc{us:List Value}{n:Nat}(h:us.length=n+1):∃ a r,us=a::r/\r.length=n:=by
 cases us with
 | nil=>cases h
 | cons a r=>exact⟨a,r,rfl,Nat.succ.inj h⟩
theorem len2{us:List Value}(h:us.length=2):∃ a b,us=[a,b]:=by
 obtain⟨a,r,rfl,h'⟩:=lenSc h
 obtain⟨b,rfl⟩:=len1 h'
 exact⟨a,b,rfl⟩
theorem len3{us:List Value}(h:us.length=3):∃ a b c,us=[a,b,c]:=by
 obtain⟨a,r,rfl,h'⟩:=lenSc h
 obtain⟨b,c,rfl⟩:=len2 h'
 exact⟨a,b,c,rfl⟩
theorem len4{us:List Value}(h:us.length=4):∃ a b c d,us=[a,b,c,d]:=by
 obtain⟨a,r,rfl,h'⟩:=lenSc h
 obtain⟨b,c,d,rfl⟩:=len3 h'
 exact⟨a,b,c,d,rfl⟩
def intsT(ns:List Int):List T:=ns.map fun i=>.a (.int i)
theorem zMC{F:DF}{H:Hp}{a:Addr}{ns:List Int}(hO:Only H)(hS:SqL K H a (ns.map V.int))(h:F [.k (intsT ns)]=some (.v (.a (.bl true)),[])):spD K none 1 F [.ref a] H (fun v _=>v=.bl true) fun _ _ _=>False:=by
 have hK:KF K H a (ns.map V.int):=KF.of hS fun us e=>by
  rcases hO a with z | ⟨o,xs,z⟩
  ·rw[e]at z; cases z
  ·rw[e]at z; cases z
 refine⟨rfl,⟨[],fun _=>False⟩,_,_,_,h,⟨rfl,fun i g e=>?_,fun i j p ga gb ma mb e=>?_,fun p hp=>(nomatch hp),fun p hp=>(nomatch hp),fun p hp=>hp.elim,fun p hp=>hp.elim,fun b o e _=>e,fun q hq=>(nomatch hq)⟩,rfl,(fun p hp=>nomatch hp),fun v H' _ _ hr=>?_⟩
 ·match i,e with
  | 0,e =>
   cases e
   refine⟨_,rfl,a,ns.map V.int,rfl,?_,hK⟩
   have:intsT ns=(ns.map V.int).map T.a:=by simp[intsT]
   rw[this]
   exact Ims.atoms _
  | i+1,e=>simp at e
 ·match i,e with
  | 0,e=>cases e; cases ma
  | i+1,e=>simp at e
 ·exact (show Im K H' v (.a (.bl true)) from hr).inva
end
end D
namespace L2
open PySem PySem.Spec PyProof.Rows
section
variable {prog:Program}{w:World}{A:Around}{E:Value->Shared->Prop}{s:Shared}
variable {e it l:Addr}{S1:Nat->Heap->Prop}{xs:Array Value}{k:Nat}
theorem zHz{x old:Value}{Q:Value->Shared->Prop}(hne:e≠it)(hle:l≠e)(D:Drawer prog w it l xs S1)(he:IsEnum s.heap e it k old)(st:S1 k s.heap)(hx:xs[k]?=some x)
  (hQ:∀ h',IsEnumOut h' e it ((k:Int)+1) x s.heap.objs.size->S1 (k+1) h'->IsPair h' s.heap.objs.size (.int k s.toks) x ->
   (∀ c o,c≠e->c≠it->s.heap.get? c=some o->h'.get? c=some o)->Q (.ref s.heap.objs.size) { s with heap:=h',toks:=s.toks+1 }) :
  wpAny (model prog w) A (Builtin.«enumerate.__next__» ⟨[.ref e],[]⟩) (fun fin s'=>∃ v,fin=.done (.ret v)/\Q v s') E s:=by
 obtain⟨hp,g,d,tk,os⟩:=s
 have hlt:e < hp.objs.size:=Heap.lt_size he
 show wpAny _ _ (field (.ref e) 2 >>= _) _ _ _
 refine wpAny_bind (wpAny_field he rfl (x:=.ref it) rfl (wpAny_bind (D.item _ k _ x _ _ st hx fun h1 t1 b1=>?_)))
 replace b1:Heap.SameBut it hp h1:=b1
 have e1:IsEnum h1 e it k old:=(b1.2 e hne).trans he
 show wpAny _ _ (field (.ref e) 3 >>= _) _ _ ⟨h1,g,d,tk,os⟩
 refine wpAny_bind (wpAny_field e1 rfl (x:=rawInt k) rfl ?_)
 show wpAny _ _ (field (.ref e) 4 >>= _) _ _ ⟨h1,g,d,tk,os⟩
 refine wpAny_bind (wpAny_field e1 rfl (x:=.none) rfl ?_)
 show wpAny _ _ (mkInt k >>= _) _ _ ⟨h1,g,d,tk,os⟩
 refine wpAny_bind (wpAny_mkInt ?_)
 show wpAny _ _ (setField (.ref e) 3 (rawInt ((k:Int)+1)) >>= _) _ _ ⟨h1,g,d,tk+1,os⟩
 refine wpAny_bind (wpAny_setField_rec e1 (by simp) fun h2 e2 b2=>?_)
 replace b2:Heap.SameBut e h1 h2:=b2
 replace e2:IsEnum h2 e it ((k:Int)+1) old:=e2
 show wpAny _ _ (setField (.ref e) 4 .none >>= _) _ _ ⟨h2,g,d,tk+1,os⟩
 refine wpAny_bind (wpAny_setField_rec e2 (by simp) fun h3 e3 b3=>?_)
 replace b3:Heap.SameBut e h2 h3:=b3
 replace e3:IsEnum h3 e it ((k:Int)+1) old:=e3
 show wpAny _ _ (newTuple [.int k tk,x] >>= _) _ _ ⟨h3,g,d,tk+1,os⟩
 refine wpAny_bind (wpAny_newTuple ?_)
 have hsz:h3.objs.size=hp.objs.size:=by rw[b3.1,b2.1,b1.1]
 obtain⟨h4,rfl⟩:∃ h4,h4=h3.push { cls:=.type "tuple",data:=.seq #[.int k tk,x] }:=⟨_,rfl⟩
 have e4:IsEnum (h3.push { cls:=.type "tuple",data:=.seq #[.int k tk,x] }) e it ((k:Int)+1) old:=Heap.get?_push_of_some _ e3
 have p4:IsPair (h3.push { cls:=.type "tuple",data:=.seq #[.int k tk,x] }) hp.objs.size (.int k tk) x:=by rw[← hsz]; exact Heap.get?_push_size _ rfl
 have k4:∀ c o,c≠e->h1.get? c=some o->(h3.push { cls:=.type "tuple",data:=.seq #[.int k tk,x] }).get? c=some o:=fun c o hc q=>Heap.get?_push_of_some _ (b3.extBut c o hc (b2.extBut c o hc q))
 rw[hsz]
 generalize h3.push { cls:=.type "tuple",data:=.seq #[.int k tk,x] }=h4 at e4 p4 k4
 show wpAny _ _ (Builtin.SmallTypes.ownedTupleIsFree (.ref e) >>= _) _ _ ⟨h4,g,d,tk+1,os⟩
 refine wpAny_bind ?_
 unfold Builtin.SmallTypes.ownedTupleIsFree
 refine wpAny_bind (wpAny_field e4 rfl (x:=.none) rfl (wpAny_pure ?_))
 simp only[if_true]
 refine wpAny_bind (wpAny_rule (wpAny_bind (wpAny_field e4 rfl (x:=old) rfl (wpAny_bind (wpAny_setField_rec e4 (by simp) fun h5 e5 b5=>?_)))))
 replace b5:Heap.SameBut e h4 h5:=b5
 replace e5:IsEnum h5 e it ((k:Int)+1) x:=e5
 show wpAny _ _ (Builtin.SmallTypes.ownedTupleHandOut (.ref e) (.ref hp.objs.size) >>= _) _ _ ⟨h5,g,d,tk+1,os⟩
 refine wpAny_bind ?_
 unfold Builtin.SmallTypes.ownedTupleHandOut
 refine wpAny_bind (wpAny_setField_rec e5 (by simp) fun h6 e6 b6=>?_)
 replace b6:Heap.SameBut e h5 h6:=b6
 replace e6:IsEnumOut h6 e it ((k:Int)+1) x hp.objs.size:=e6
 refine wpAny_setField_rec e6 (by simp) fun h7 e7 b7=>?_
 replace b7:Heap.SameBut e h6 h7:=b7
 replace e7:IsEnumOut h7 e it ((k:Int)+1) x hp.objs.size:=e7
 have up:∀ c o,c≠e->h4.get? c=some o->h7.get? c=some o:=fun c o hc q=>b7.extBut c o hc (b6.extBut c o hc (b5.extBut c o hc q))
 refine wpAny_bind (wpAny_letGo (wpAny_pure ⟨_,rfl,hQ h7 e7 ?_ (up _ _ (Nat.ne_of_gt hlt) p4) fun c o c1 c2 q=>up c o c1 (k4 c o c1 (b1.extBut c o c2 q))⟩))
 exact D.keep _ _ _ t1 (fun o q=>up _ o hne.symm (k4 _ o hne.symm q)) fun o q=>up _ o hle (k4 _ o hle q)
end
def Ite(b:Bool)(K:PySem.W.Frag)(a1:Addr):It :=
 ⟨fun i H=>∃ xs x,Sq b K H a1 xs/\xs[i]?=some x,
  fun i H v H'=>∃ T x,v=.ref T/\H T=none/\H'=upd H T (.tup [.int i,x])/\(∀ xs,Sq b K H a1 xs->xs[i]?=some x),
  fun i H=>∃ xs,Sq b K H a1 xs/\xs.length<=i⟩
structure ETn(b:Bool)(e it a1:Addr)(k:Nat)(h:Heap):Prop where
 z:∃ old,IsEnum h e it k old
 s1:SIt b it a1 k h
theorem zI3{P:Program}{w:World}{K:PySem.W.Frag}{elts:List Expr}{x1:Nat}{tp:Pos}(b:Bool){e it a1:Addr}(hne:e≠it)(hle:a1≠e)(hli:a1≠it) :
  Turn P w K (.Tuple elts x1 tp) (Ite b K a1) [e,it] e (ETn b e it a1) where
 mem:=by simp
 obj:=fun i h st c hc=>by
  simp only[List.mem_cons,List.not_mem_nil,or_false]at hc
  rcases hc with q | q
  ·obtain⟨old,z⟩:=st.z; exact⟨_,q ▸ z,fun v z=>by cases z⟩
  ·obtain⟨o,r,d⟩:=st.s1.live; exact⟨o,q ▸ r,d⟩
 keep:=fun i h h' st k=>⟨(let ⟨old,z⟩:=st.z; ⟨old,k e (by simp) _ z⟩),st.s1.keep fun o q=>k it (by simp) o q⟩
 item:=by
  intro X hP hw hK hc i pins s σ H E I hf st hg
  subst hP hw hK
  obtain⟨xs,x,h1,hx⟩:=hg
  obtain⟨its1,v1,o1,z1⟩:=I.sq h1
  obtain⟨u1,e1,r1⟩:=v1.get hx
  obtain⟨old,hz⟩:=st.z
  have hT:s.TypeIs (.ref e) "enumerate":=⟨_,hz,rfl⟩
  have nH:∀ c∈[e,it],H c=none:=fun c hc=>(hf c hc).1
  unfold pyNext
  refine wpAny_bind (wpAny_attempt (wpAny_callSpecial?_slot (name:=Str.ofString "__next__") hT F.slot_enumerate_next (wpAny_call_entry F.slot_enumerate_next hT F.entry_enumerate_next
   (zHz hne hle (zBX b it a1 its1.toArray hli) hz ⟨st.s1,o1⟩ (by simpa using e1) fun h' ho st' hp hk=>wpAny_pure ?_) (F.args_enumerate_next_1 _))))
  refine⟨_,rfl,?_⟩
  have fT:H s.heap.objs.size=none:=I.hok.fresh (Nat.le_refl _)
  have hk':∀ c o,c∉[e,it]->s.heap.get? c=some o->h'.get? c=some o:=fun c o hc q=>by
   simp only[List.mem_cons,List.not_mem_nil,or_false,not_or]at hc
   exact hk c o hc.1 hc.2 q
  have trk:∀ c u,H c=some u->c∉[e,it]:=fun c u q hc=>by rw[nH c hc]at q; cases q
  have nT:∀ c o,s.heap.get? c=some o->c≠s.heap.objs.size:=fun c o q=>Nat.ne_of_lt (Heap.lt_size q)
  have hok1:HOk X.prog X.w H h':=fun c u q=>(I.hok c u q).stay (fun d v hd r=>hk' d v (by
   rcases hd with rfl | hd
   ·exact trk d u q
   ·exact trk d _ hd) r) (fun _ r=>r) fun _ _ r=>r
  have I1:Inv X pins σ (upd H s.heap.objs.size (.tup [.int i,x])) { s with heap:=h',toks:=s.toks+1 }:=by
   refine I.step (g':=s.gens) (d':=s.drawn) (t':=s.toks+1) (ch:=[e,it]) (fun c hc=>?_) (fun c o _ _ hc q _=>hk' c o hc q) (fun c o _ _ hc q _=>⟨o.slots,hk' c o hc q⟩)
    (fun c o _ q n=>by rw[zAK (nT c o q)]; exact n) (fun c o hc q=>⟨o,hk' c o hc q⟩) (fun c xs q=>by rw[zAK (zAV q fT)]; exact q) (fun c o u q=>by rw[zAK (zAV q fT)]; exact q)
    (fun c ps q=>⟨#[],by rw[zAK (zAV q fT),q]; simp⟩) (fun m hm=>?_) (hok1.adopt fT ⟨by show 2<=sizeLine; decide,[.int i s.toks,u1],.cons ⟨_,rfl⟩ (.cons r1 .nil),_,hp,rfl,⟨0,rfl⟩,rfl⟩) I.bare
   ·obtain⟨_,f1,f2,f3,f4,f5⟩:=hf c hc; exact⟨f3,f1,f4,f5⟩
   ·obtain⟨o,es,ep,ho,r⟩:=hm
    exact⟨o,es,ep,hk' _ o (fun hc=>(hf _ hc).2.1 rfl) ho,r⟩
  refine wpAny_letOwnedTupleGo_enum ho fun h9 hz2 hs2=>?_
  obtain⟨_,f1,f2,f3,f4,f5⟩:=hf e (by simp)
  have nz:upd H s.heap.objs.size (.tup [.int i,x]) e=none:=by rw[zAK (nT e _ hz)]; exact nH e (by simp)
  have I2:Inv X pins σ (upd H s.heap.objs.size (.tup [.int i,x])) { s with heap:=h9,toks:=s.toks+1 }:=by
   have q:=I1.turned (h':=h9) (t':=s.toks+1) (it:=e) (fun c o hc q=>(hs2.2 c hc).trans q) nz f1 f3 f4 f5
   exact q
  refine⟨.ref s.heap.objs.size,_,I2,rfl,⟨s.heap.objs.size,x,rfl,fT,rfl,fun xs' q=>by rw[I.sq_inj q h1]; exact hx⟩,?_,fun c hc=>?_⟩
  ·have up:∀ c o,c≠e->h'.get? c=some o->h9.get? c=some o:=fun c o hc q=>(hs2.2 c hc).trans q
   exact⟨⟨_,by simpa using hz2⟩,st'.1.keep fun o q=>up _ o hne.symm q⟩
  ·obtain⟨o,q,_⟩:∃ o,s.heap.get? c=some o/\True:=by
    simp only[List.mem_cons,List.not_mem_nil,or_false]at hc
    rcases hc with q | q
    ·exact⟨_,q ▸ hz,trivial⟩
    ·obtain⟨o,r,d⟩:=st.s1.live; exact⟨o,q ▸ r,trivial⟩
   rw[zAK (nT c o q)]; exact nH c hc
 done:=by
  intro X hP hw hK hc i pins s σ H E I hf st hg
  subst hP hw hK
  obtain⟨xs,h1,hl⟩:=hg
  obtain⟨its1,v1,o1,z1⟩:=I.sq h1
  have l1:=v1.length
  obtain⟨old,hz⟩:=st.z
  have hT:s.TypeIs (.ref e) "enumerate":=⟨_,hz,rfl⟩
  unfold pyNext
  refine wpAny_bind (wpAny_attempt (wpAny_callSpecial?_slot (name:=Str.ofString "__next__") hT F.slot_enumerate_next (wpAny_call_entry F.slot_enumerate_next hT F.entry_enumerate_next ?_ (F.args_enumerate_next_1 _))))
  show wpAny _ _ (field (.ref e) 2 >>= _) _ _ _
  refine wpAny_bind (wpAny_field hz rfl (x:=.ref it) rfl (wpAny_bind ((zBX b it a1 its1.toArray hli).fini _ i _ _ _ (I.ok.hd hc) ⟨st.s1,o1⟩ (by simp; omega) fun h' x hk hx'=>?_)))
  obtain⟨o,ho,hcl⟩:=hx'
  refine wpAny_bind (wpAny_isInstance (T:="StopIteration") (b:=true) ⟨o,ho,hcl⟩ isSubtype_stop (wpAny_pure ⟨rfl,?_⟩))
  have hk':∀ c o,c∉[it]->s.heap.get? c=some o->h'.get? c=some o:=fun c o hc q=>hk c o (fun z=>hc (by simp[z])) q
  have sub:∀ c∈[it],c∈[e,it]:=fun c hc=>by simp only[List.mem_cons,List.not_mem_nil,or_false]at hc ⊢; exact .inr hc
  have trk:∀ c u,H c=some u->c∉[it]:=fun c u q hc=>by rw[(hf c (sub c hc)).1]at q; cases q
  refine I.step (g':=s.gens) (d':=s.drawn) (t':=s.toks) (ch:=[it]) (fun c hc=>?_) (fun c o _ _ hc q _=>hk' c o hc q) (fun c o _ _ hc q _=>⟨o.slots,hk' c o hc q⟩)
   (fun c o _ q n=>n) (fun c o hc q=>⟨o,hk' c o hc q⟩) (fun c xs q=>q) (fun c o u q=>q) (fun c ps q=>⟨#[],by rw[q]; simp⟩) (fun m hm=>?_) (fun c u q=>(I.hok c u q).stay (fun d v hd r=>hk' d v (by
    rcases hd with rfl | hd
    ·exact trk d u q
    ·exact trk d _ hd) r) (fun _ r=>r) fun _ _ r=>r) I.bare
  ·obtain⟨_,f1,f2,f3,f4,f5⟩:=hf c (sub c hc); exact⟨f3,f1,f4,f5⟩
  ·obtain⟨o,es,ep,ho,r⟩:=hm
   exact⟨o,es,ep,hk' _ o (fun hc=>(hf _ (sub _ hc)).2.1 rfl) ho,r⟩
 self:=fun _ _ _ _ _ st h=>let ⟨_,z⟩:=st.z; wpAny_pyIter_enum z h
section
variable {prog:Program}{w:World}{A:Around}{E:Value->Shared->Prop}{s:Shared}
theorem zGv(l:Addr)(xs:Array Value) :
  Meets (Builtin.«enumerate.__new__» ⟨[.type "enumerate",.ref l],[]⟩) (fun _ R s=>s.heap.IsTuple l xs /\
   R (.ok (.ret (.ref (s.heap.push { cls:=.type "tuple_iterator",data:=.fields #[.ref l,.int 0 0] }).objs.size)))
    { s with heap:=(s.heap.push { cls:=.type "tuple_iterator",data:=.fields #[.ref l,.int 0 0] }).push { cls:=.type "enumerate",data:=.fields #[.none,.bool false,.ref s.heap.objs.size,rawInt 0,.none,.none] } }) :=
 .of_wp fun prog w A R s h=>by
  obtain⟨hp,g,d,tk,os⟩:=s; obtain⟨hl,h⟩:=h
  have hsub:=sub_enumerate
  have T1:Heap.IsTuple (Shared.heap ⟨hp,g,d,tk,os⟩) l xs:=hl
  wp_walk
  refine wpAny_stack_any fun st=>wpAny_pure ?_
  split
  ·rename_i c _ _ _ _ _
   cases (c == Value.type "enumerate")
   ·wp_walk using wpAny_pyIter_tuple T1
    exact⟨_,rfl,h⟩
   ·wp_walk using wpAny_pyIter_tuple T1
    exact⟨_,rfl,h⟩
  ·wp_walk using wpAny_pyIter_tuple T1
   exact⟨_,rfl,h⟩
theorem zIr{l:Addr}{xs:Array Value}{Q:Value->Shared->Prop}(hl:s.heap.IsTuple l xs)
  (h:∀ h',ETn true (s.heap.objs.size+1) s.heap.objs.size l 0 h'->(∀ c o,s.heap.get? c=some o->h'.get? c=some o)->Q (.ref (s.heap.objs.size+1)) { s with heap:=h' }) :
  wpAny (model prog w) A (call (.type "enumerate") [.ref l]) Q E s:=by
 refine callType_new F.called_enumerate (by decide) (F.typeCall_enumerate_1 _) (F.newCall_enumerate_1 _) (fun obj=>F.args_object_init_2 obj _) F.entry_enumerate_new (zGv l xs) ⟨hl,?_⟩
 have z1:(s.heap.push { cls:=.type "tuple_iterator",data:=.fields #[.ref l,.int 0 0] }).objs.size=s.heap.objs.size+1:=Heap.size_push ..
 have g2:=Heap.get?_push_size (s.heap.push { cls:=.type "tuple_iterator",data:=.fields #[.ref l,.int 0 0] }) (o:={ cls:=.type "enumerate",data:=.fields #[.none,.bool false,.ref s.heap.objs.size,rawInt 0,.none,.none] }) rfl
 rw[z1]at g2
 show _/\_
 rw[z1]
 exact⟨⟨_,g2,rfl⟩,h _ ⟨⟨.none,g2⟩,⟨_,Heap.get?_push_of_some _ (Heap.get?_push_size _ rfl),rfl,rfl⟩⟩ fun c o x=>Heap.get?_push_of_some _ (Heap.get?_push_of_some _ x)⟩
end
section
variable {X:Cx}{elts:List Expr}{x1:Nat}{tp:Pos}
def iEnumU(K:PySem.W.Frag)(ta:TA):TI:=fun σ H R=>ta σ H fun vs H1=>∃ (b:Bool) (a1:Addr),vs=[.ref a1]/\(∃ xs,Sq b K H1 a1 xs)/\R (Ite b K a1) H1
theorem zKc{e1:Expr}{ta:TA}{p pos:Pos}(hg:Gl X "enumerate")(hm:X.mg "enumerate"=none)(ha:PA X [e1] ta)(hs:starEach [e1] X.env=[(false,eval e1 X.env)]:=by rfl) :
  PI X (.Tuple elts x1 tp) (.Call (.Name "enumerate" p) [e1] [] pos) (iEnumU X.K ta):=by
 intro pins s σ H R I h
 refine Call_ (zBE I hg hm boot_enumerate (PyProof.Rows.callWith_type1 (thn (ha pos pins s σ H _ I h) fun us s1 ⟨vs,H1,I1,r1,q1⟩=>?_) (by rw[hs]; rfl) (by rfl)))
 obtain⟨b,a1,e,⟨xs,h1⟩,q⟩:=q1
 subst e
 obtain⟨u1,e,r⟩:=r1.one
 subst e
 cases r
 obtain⟨its1,v1,o1,z1⟩:=I1.sq h1
 have lt1:a1 < s1.heap.objs.size:=by cases b with
  | false=>obtain⟨o,e,_⟩:=(show s1.heap.IsList a1 its1.toArray from o1); exact Heap.lt_size e
  | true=>obtain⟨o,e,_⟩:=(show s1.heap.IsTuple a1 its1.toArray from o1); exact Heap.lt_size e
 have fin:∀ h',ETn b (s1.heap.objs.size+1) s1.heap.objs.size a1 0 h'->(∀ c o,s1.heap.get? c=some o->h'.get? c=some o) ->
   wpAny (model X.prog X.w) X.A (pyIter (.ref (s1.heap.objs.size+1))) (PIE X pins σ (.Tuple elts x1 tp) R) X.xe { s1 with heap:=h' }:=fun h' st hk=>by
  obtain⟨old,z⟩:=st.z
  refine wpAny_pyIter_enum z ?_
  refine⟨_,_,_,_,H1,rfl,I1.kept (t':=s1.toks) hk,zI3 b (Nat.ne_of_gt (Nat.lt_succ_self _)) (Nat.ne_of_lt (Nat.lt_of_lt_of_le lt1 (Nat.le_add_right _ 1))) (Nat.ne_of_lt lt1),st,fun c hc=>?_,q⟩
  have hc':s1.heap.objs.size<=c:=by
   simp only[List.mem_cons,List.not_mem_nil,or_false]at hc
   rcases hc with e | e <;> (rw[e]) <;> first | exact Nat.le_refl _ | exact Nat.le_add_right _ _
  exact I1.fpOk hc' (I1.hok.fresh hc')
 cases b with
 | false=>exact call_enumerate_list o1 fun h' hz hit _ hk=>fin h' ⟨⟨_,hz⟩,hit⟩ hk
 | true=>exact zIr o1 fin
end
end L2
namespace D
open PySem L2
def enumT(xs:List T):List T:=xs.zipIdx.map fun p=>.t [.a (.int (p.2:Int)),p.1]
def dEnum(fa:DA):DI:=fun Γ=>(fa Γ).bind fun p=>match p.1 with
 | [.v (.t xs)]=>gd xs.length ((enumT xs,[]),p.2)
 | [a]=>(sqlOf p.2 a).bind fun xs=>gd xs.length ((enumT xs,srcS p.2 a),p.2)
 | _=>none
section
variable {K:Fg}
theorem zHR{b:Bool}{a1:Addr}{vs:List V}{xs:List T}{H2:Hp}(h1:Sq b K H2 a1 vs)(i1:Ims K H2 vs xs) :
  (∀ (i:Nat) t,(enumT xs)[i]?=some t->(Ite b K a1).go i H2/\∀ x H3,(Ite b K a1).yld i H2 x H3->(∀ b o,H2 b=some o->H3 b=some o)/\Im K H3 x t)/\(Ite b K a1).stop (enumT xs).length H2:=by
 refine⟨fun i t e=>?_,⟨vs,h1,?_⟩⟩
 ·unfold enumT at e
  rw[List.getElem?_map]at e
  obtain⟨⟨t1,j⟩,e1,e⟩:=zAH e
  subst e
  have e1':xs[i]?=some t1/\j=i:=by
   rw[List.getElem?_zipIdx]at e1
   obtain⟨y,q,e1⟩:=zAH e1
   cases e1
   exact⟨q,by simp⟩
  obtain⟨g1,rfl⟩:=e1'
  obtain⟨v,e3,hv⟩:=i1.get g1
  refine⟨⟨vs,v,h1,e3⟩,fun x H3 y=>?_⟩
  obtain⟨T',x',rfl,hT,rfl,k1⟩:=y
  have q1:=k1 vs h1
  rw[e3]at q1; cases q1
  have ev:Evo [] H2 (upd H2 T' (.tup [.int j,v])):=Evo.new hT
  have hL:LL [] H2:=fun q hq=>nomatch hq
  refine⟨fun b o e=>ev b o e nofun,Im.tup zAg (.cons Im.atom (.one (hv.evo ev hL)))⟩
 ·have l1:=i1.len
  simp[enumT]
  omega
theorem zJ0{ta:TA}{fa:DA}(ha:SimA K ta fa):SimI K (iEnumU K ta) (dEnum fa):=by
 intro C w Γ σ H its src Γ' R Rp e k
 obtain⟨⟨as,G1⟩,e1,e⟩:=bind_some e
 dsimp only at e
 have zl:∀ xs:List T,(enumT xs).length<=xs.length:=fun xs=>by simp[enumT]
 split at e
 ·rename_i xs
  obtain⟨hz,e⟩:=zBP e
  cases e
  refine ha C w Γ σ H _ _ _ Rp e1 fun vs H1 R1 ev1 o1 n1=>?_
  obtain⟨v,rfl,o2⟩:=soks1 o1
  obtain⟨p,vs,rfl,h1,i1⟩:=o2.invt
  refine⟨true,p,rfl,⟨vs,h1.sq⟩,k _ H1 R1 ev1 ⟨Nat.le_trans (zl _) hz,fun L' hs av H2 ev=>?_⟩⟩
  have hL:LL L' H1:=fun q hq=>R1.lst q (hs q hq)
  exact zHR (b:=true) (zD7 ev hL h1).sq (i1.evo ev hL)
 ·obtain⟨xs,e2,e⟩:=bind_some e
  obtain⟨hz,e⟩:=zBP e
  cases e
  refine ha C w Γ σ H _ _ _ Rp e1 fun vs H1 R1 ev1 o1 n1=>?_
  obtain⟨v,rfl,o2⟩:=soks1 o1
  obtain⟨p,vs,rfl,h1,i1,st1⟩:=zCJ R1 o2 e2
  refine⟨false,p,rfl,⟨vs,h1⟩,k _ H1 R1 ev1 ⟨Nat.le_trans (zl _) hz,fun L' hs av H2 ev=>?_⟩⟩
  have hL:LL L' H1:=fun q hq=>R1.lst q (hs q hq)
  exact zHR (b:=false) (st1 L' hs av H2 ev) (i1.evo ev hL)
 ·cases e
end
section
variable {ι:Type}{K:Fg}{X:ι->Cx}{mg:Str->Option Value}{k:Nat}{a:Expr}{da:DA}{p pos:Pos}
theorem zLs{elts:List Expr}{x1:Nat}{tp:Pos}(M:Fm K mg k X)(hm:mg "enumerate"=none)(ha:AX K X [a] da)(hg:∀ j,Gl (X j) "enumerate":=by intro _; rfl)(hs:∀ j,starEach [a] (X j).env=[(false,eval a (X j).env)]:=by intro _; rfl) :
  IX K X (.Tuple elts x1 tp) (.Call (.Name "enumerate" p) [a] [] pos) (dEnum da) :=
 let ⟨t,q,u⟩:=ha; ⟨iEnumU K t,fun j=>by have:=zKc (elts:=elts) (x1:=x1) (tp:=tp) (p:=p) (pos:=pos) (hg j) (by rw[M.mg]; exact hm) (q j) (hs j); rw[M.K j]at this; exact this,zJ0 u⟩
end
end D
namespace L2
open PySem PySem.Spec PyProof.Rows
theorem zM6:Slot "reversed" "__init__" "object.__init__" :=
 .of (owner:="object") (n:="__init__") (by rw[typeLookup_type,builtinLookup_eq_fast]; kernel_rfl) (by decide +kernel) (by decide +kernel) (by decide +kernel)
  (by first | exact .inl (by decide +kernel) | exact .inr (by decide +kernel)) (by rw[isSubtype_type]; kernel_rfl)
theorem zKR:TypeCalled "reversed" "reversed.__new__" "object.__init__" :=
 ⟨by decide +kernel,by decide +kernel,⟨_,_,F.mro_reversed⟩,F.made_reversed,by decide +kernel,by rw[isSubtype_type]; kernel_rfl,zM6⟩
theorem zDd:Manifest.owners.lookup (String.ofList ['d','e','s','r','e','v','e','r'].reverse)=some Manifest.sig_reversed:=by kernel_rfl
theorem zCT:Slot "reversed" "__next__" "reversed.__next__" :=
 .of (owner:="reversed") (n:="__next__") (by rw[typeLookup_type,builtinLookup_eq_fast]; kernel_rfl) (by decide +kernel) (by decide +kernel) (by decide +kernel)
  (by first | exact .inl (by decide +kernel) | exact .inr (by decide +kernel)) (by rw[isSubtype_type]; kernel_rfl)
theorem zCq:entryFor table "reversed.__next__"=some Builtin.«reversed.__next__»:=entryFor_of_tree (by kernel_rfl)
theorem zHN:Slot "reversed" "__iter__" "reversed.__iter__" :=
 .of (owner:="reversed") (n:="__iter__") (by rw[typeLookup_type,builtinLookup_eq_fast]; kernel_rfl) (by decide +kernel) (by decide +kernel) (by decide +kernel)
  (by first | exact .inl (by decide +kernel) | exact .inr (by decide +kernel)) (by rw[isSubtype_type]; kernel_rfl)
theorem zMy:typeLookup (.type "tuple") "__reversed__"=pure none:=by rw[typeLookup_type,builtinLookup_eq_fast]; kernel_rfl
theorem zMO:isSubtype (.type "tuple") (.type "dict")=pure false:=by rw[isSubtype_type]; kernel_rfl
theorem zCw(a:Value):argsOk "reversed.__next__" ⟨[a],[]⟩:=by
 unfold argsOk; rw[signature?_of (id:="reversed.__next__") (n:=['_','_','t','x','e','n','_','_']) (o:=['d','e','s','r','e','v','e','r']) (by kernel_rfl) zDd]; kernel_rfl
theorem zGB(a:Value):argsOk "reversed.__iter__" ⟨[a],[]⟩:=by
 unfold argsOk; rw[signature?_of (id:="reversed.__iter__") (n:=['_','_','r','e','t','i','_','_']) (o:=['d','e','s','r','e','v','e','r']) (by kernel_rfl) zDd]; kernel_rfl
theorem zFD:entryFor table "reversed.__iter__"=some Builtin.«dict_keyiterator.__iter__» :=
 entryFor_alias (id':="dict_keyiterator.__iter__") (by kernel_rfl) (by first | rfl | decide +kernel | (unfold String.splitOn; simp +decide [String.splitOnAux])) (by decide +kernel) (by kernel_rfl)
abbrev IsRv(h:Heap)(e l:Addr)(i:Int):Prop:=h.get? e=some { cls:=.type "reversed",dict:=none,data:=.fields #[.ref l,rawInt i],slots:=#[] }
section
variable {prog:Program}{w:World}{A:Around}{E:Value->Shared->Prop}{s:Shared}
theorem zMa{l:Addr}{xs:Array Value}{Q:Bool->Shared->Prop}(hl:s.heap.IsTuple l xs)(hQ:Q true s):wpAny (model prog w) A (do
  if ← isInstance (.ref l) (.type "dict") then return false
  match ← specialOf (.ref l) "__getitem__" with
  | none=>return false
  | some (.builtin id) =>
   if ["tuple.__getitem__","str.__getitem__","bytes.__getitem__","bytearray.__getitem__","memoryview.__getitem__","numpy.ndarray.__getitem__","sqlite3.Row.__getitem__"].contains id then return true
   if id == "sqlite3.Blob.__getitem__" then return false
   unsupported "reversed.__new__:is-it-a-sequence"
  | some _=>return true) Q E s:=by
 refine wpAny_bind (wpAny_isInstance hl.typeIs zMO ?_)
 refine wpAny_bind (wpAny_specialOf hl.typeIs F.slot_tuple_getitem.lookup ?_)
 exact wpAny_pure hQ
theorem zI1(l:Addr)(xs:Array Value)(hz:xs.size<=sizeLine) :
  Meets (Builtin.«reversed.__new__» ⟨[.type "reversed",.ref l],[]⟩) (fun _ R s=>s.heap.IsTuple l xs /\
   R (.ok (.ret (.ref s.heap.objs.size))) { s with heap:=s.heap.push { cls:=.type "reversed",data:=.fields #[.ref l,rawInt ((xs.size:Int) - 1)] },toks:=s.toks+1+1 }) :=
 .of_wp fun prog w A R s h=>by
  obtain⟨hl,h⟩:=h
  unfold Builtin.«reversed.__new__»
  refine wpAny_bind (wpAny_of_eq (newClass_reversed _) ?_)
  try dsimp only
  refine wpAny_bind (wpAny_of_eq (a:=()) (by first | rfl | kernel_rfl) ?_)
  refine wpAny_bind (wpAny_of_eq (a:=()) (by first | rfl | kernel_rfl) ?_)
  try dsimp only
  refine wpAny_bind (wpAny_specialOf hl.typeIs zMy ?_)
  try dsimp only
  refine wpAny_bind (zMa hl ?_)
  rw[if_neg (by decide)]
  refine wpAny_bind (len_tuple hl (by have:=hz; rw[sizeLine_eq]at this; omega) ?_)
  refine wpAny_bind (wpAny_of_eq (a:=some (xs.size:Int)) (by first | rfl | kernel_rfl) ?_)
  try dsimp only
  refine wpAny_bind (m:=Builtin.SmallTypes.newRecord _ _) ?_
  unfold Builtin.SmallTypes.newRecord
  refine wpAny_newObj_type ?_ (by size_fits)
  exact wpAny_pure ⟨_,rfl,h⟩
theorem zEn{e l:Addr}{i:Int}{Q:Value->Shared->Prop}(he:IsRv s.heap e l i)(h:Q (.ref e) s):wpAny (model prog w) A (pyIter (.ref e)) Q E s:=by
 have hT:s.TypeIs (.ref e) "reversed":=⟨_,he,rfl⟩
 refine wpAny_pyIter_slot hT zHN (wpAny_call_entry zHN hT zFD ?_ (zGB _))
 show wpAny _ _ (ret (.ref e)) _ _ s
 exact wpAny_pure ⟨_,rfl,"reversed",_,hT,zCT.lookup,h⟩
theorem zNQ{e l:Addr}{i:Nat}{xs:Array Value}{x:Value}{Q:Option Value->Shared->Prop}(he:IsRv s.heap e l (i:Int))(hl:s.heap.IsTuple l xs)(hz:xs.size<=sizeLine)(hx:xs[i]?=some x)
  (hQ:∀ h' tk,IsRv h' e l ((i:Int) - 1)->Heap.SameBut e s.heap h'->Q (some x) { s with heap:=h',toks:=tk }):wpAny (model prog w) A (pyNext (.ref e)) Q E s:=by
 have hT:s.TypeIs (.ref e) "reversed":=⟨_,he,rfl⟩
 have hi:i < xs.size:=(Array.getElem?_eq_some_iff.mp hx).1
 rw[sizeLine_eq]at hz
 obtain⟨hp,g,d,tk,os⟩:=s
 unfold pyNext
 refine wpAny_bind (wpAny_attempt (wpAny_callSpecial?_slot (name:=Str.ofString "__next__") hT zCT (wpAny_call_entry zCT hT zCq ?_ (zCw _))))
 unfold Builtin.«reversed.__next__»
 refine wpAny_bind (wpAny_of_eq (a:=(Value.ref e,[])) rfl ?_)
 try dsimp only
 refine wpAny_bind (wpAny_field he rfl (x:=.ref l) rfl ?_)
 refine wpAny_bind (wpAny_field he rfl (x:=rawInt (i:Int)) rfl ?_)
 show wpAny _ _ (if (i:Int) < 0 then _ else _) _ _ _
 rw[if_neg (by omega)]
 refine wpAny_bind (wpAny_specialOf hl.typeIs F.slot_tuple_getitem.lookup ?_)
 try dsimp only
 rw[if_neg (by decide)]
 refine wpAny_bind (wpAny_mkInt ?_)
 refine wpAny_bind (wpAny_attempt (PyProof.Rows.getItem_tuple (j:=i) hl (by omega) (by omega) (by rw[seqIndex_of (by omega) (by omega),Int.toNat_natCast]) hx ?_))
 show wpAny _ _ (field (.ref e) 1 >>= _) _ _ _
 refine wpAny_bind (wpAny_field he rfl (x:=rawInt (i:Int)) rfl ?_)
 show wpAny _ _ (setField (.ref e) 1 (rawInt ((i:Int) - 1)) >>= _) _ _ _
 refine wpAny_bind (wpAny_setField_rec he (by simp) fun h1 e1 b1=>?_)
 exact wpAny_pure ⟨x,rfl,wpAny_pure (hQ h1 _ e1 b1)⟩
theorem zOQ{e l:Addr}{Q:Option Value->Shared->Prop}(hh:A.handled=none)(he:IsRv s.heap e l (-1))(hQ:∀ h',Heap.ExtBut e s.heap h'->Q none { s with heap:=h' }):wpAny (model prog w) A (pyNext (.ref e)) Q E s:=by
 have hT:s.TypeIs (.ref e) "reversed":=⟨_,he,rfl⟩
 obtain⟨hp,g,d,tk,os⟩:=s
 unfold pyNext
 refine wpAny_bind (wpAny_attempt (wpAny_callSpecial?_slot (name:=Str.ofString "__next__") hT zCT (wpAny_call_entry zCT hT zCq ?_ (zCw _))))
 unfold Builtin.«reversed.__next__»
 refine wpAny_bind (wpAny_of_eq (a:=(Value.ref e,[])) rfl ?_)
 try dsimp only
 refine wpAny_bind (wpAny_field he rfl (x:=.ref l) rfl ?_)
 refine wpAny_bind (wpAny_field he rfl (x:=rawInt (-1)) rfl ?_)
 show wpAny _ _ (if (-1:Int) < 0 then _ else _) _ _ _
 rw[if_pos (by decide)]
 refine wpAny_bind (wpAny_rule ?_)
 refine wpAny_bind ?_
 show wpAny _ _ (setField (.ref e) 1 (rawInt (-1)) >>= fun _=>setField (.ref e) 0 .none) _ _ _
 refine wpAny_bind (wpAny_setField_rec he (by simp) fun h1 e1 b1=>?_)
 replace e1:IsRv h1 e l (-1):=e1
 refine wpAny_setField_rec e1 (by simp) fun h2 e2 b2=>?_
 replace b1:Heap.SameBut e hp h1:=b1
 replace b2:Heap.SameBut e h1 h2:=b2
 have x2:Heap.ExtBut e hp h2:=fun c o hc q=>b2.extBut c o hc (b1.extBut c o hc q)
 refine wpAny_bind ?_
 show wpAny _ _ (newExc (.type "StopIteration") [] >>= _) _ _ _
 refine wpAny_bind ?_
 simp only[newExc,newTuple]
 refine wpAny_bind (wpAny_newObj_type ?_ (by size_fits))
 refine wpAny_bind (m:=firstArgMember _ _) (wpAny_of_eq (a:=Value.none) (by first | rfl | (simp only[firstArgMember]; rfl)) ?_)
 refine wpAny_newObj_type ?_ (by size_fits)
 simp only[raiseNew]
 refine wpAny_bind (wpAny_handled ?_)
 first | rw[show A.in1.handled=none from hh] | rw[hh]
 refine wpAny_bind (wpAny_pure (wpAny_throw ?_))
 refine wpAny_bind (wpAny_isInstance (T:="StopIteration") (b:=true) ⟨_,Heap.get?_push_size _ rfl,rfl⟩ isSubtype_stop ?_)
 exact wpAny_pure (hQ _ ((x2.push _).push _))
end
end L2
namespace D
open PySem L2
def insI(x:Int):List Int->List Int
 | []=>[x]
 | y::r=>if x<=y then x::y::r else y::insI x r
def sortI:List Int->List Int
 | []=>[]
 | x::r=>insI x (sortI r)
theorem zCs(x:Int):∀ l,(insI x l).Perm (x::l)
 | []=>.refl _
 | y::r=>by
  unfold insI
  split
  ·exact .refl _
  ·exact ((zCs x r).cons y).trans (List.Perm.swap x y r)
theorem zD5:∀ l,(sortI l).Perm l
 | []=>.refl _
 | x::r=>(zCs x _).trans ((zD5 r).cons x)
theorem zDQ(x:Int):∀ l:List Int,l.Pairwise (·<=·)->(insI x l).Pairwise (·<=·)
 | [],_=>by simp[insI]
 | y::r,h=>by
  unfold insI
  have h':=List.pairwise_cons.mp h
  split
  ·rename_i hx
   exact List.pairwise_cons.mpr ⟨fun z hz=>by
    rcases List.mem_cons.mp hz with e | e
    ·omega
    ·have:=h'.1 z e; omega,h⟩
  ·rename_i hx
   exact List.pairwise_cons.mpr ⟨fun z hz=>by
    have:=(zCs x r).subset hz
    rcases List.mem_cons.mp this with e | e
    ·omega
    ·exact h'.1 z e,zDQ x r h'.2⟩
theorem zC7:∀ l,(sortI l).Pairwise (·<=·)
 | []=>.nil
 | x::r=>zDQ x _ (zC7 r)
theorem zDr:∀ {a b:List Int},a.Perm b->a.Pairwise (·<=·)->b.Pairwise (·<=·)->a=b
 | [],b,p,_,_=>(List.nil_perm.mp p).symm
 | x::r,[],p,_,_=>by have:=p.length_eq; simp at this
 | x::r,y::s,p,ha,hb=>by
  have ha':=List.pairwise_cons.mp ha
  have hb':=List.pairwise_cons.mp hb
  have e:x=y:=by
   have h1:x∈y::s:=p.subset List.mem_cons_self
   have h2:y∈x::r:=p.symm.subset List.mem_cons_self
   rcases List.mem_cons.mp h1 with e | e
   ·exact e
   ·rcases List.mem_cons.mp h2 with f | f
    ·exact f.symm
    ·have:=ha'.1 y f; have:=hb'.1 x e; omega
  subst e
  rw[zDr ((List.perm_cons x).mp p) ha'.2 hb'.2]
def intsOf:List T->Option (List Int)
 | []=>some []
 | .a (.int n)::r=>(intsOf r).map fun ns=>n::ns
 | _::_=>none
theorem zC1:∀ {xs:List T} {ns:List Int},intsOf xs=some ns->xs=(ns.map V.int).map T.a
 | [],ns,e=>by cases e; rfl
 | x::r,ns,e=>by
  unfold intsOf at e
  split at e
  ·rename_i h; cases h
  ·rename_i n r' h
   cases h
   obtain⟨ms,e1,e⟩:=zAH e
   subst e
   rw[zC1 e1]; rfl
  ·cases e
def sortedS:En->List S->Option S:=fun Γ as=>match as with
 | [a]=>(seqS Γ a).bind fun xs=>(intsOf xs).bind fun ns=>if ns.length < 64 then some (.l ((sortI ns).map fun n=>.a (.int n))) else none
 | _=>none
theorem zF7{K:Fg}:SimRs K (fun xs H Q=>∃ (p:Addr) (ns:List Int),xs=[.ref p]/\(SqL K H p (ns.map V.int)\/SqT K H p (ns.map V.int))/\ns.length < 64/\∀ (l:Addr) (ns':List Int),H l=none->ns'.Perm ns->ns'.Pairwise (·<=·)->Q (.ref l) (upd H l (.lst (ns'.map V.int)))) sortedS:=by
 intro C w Γ σ H vs as s Q R o e k
 unfold sortedS at e
 split at e
 ·obtain⟨xs,e1,e⟩:=bind_some e
  obtain⟨ns,e2,e⟩:=bind_some e
  split at e
  ·rename_i hl
   cases e
   obtain⟨v,rfl,o1⟩:=soks1 o
   obtain⟨p,us,rfl,h1,i1⟩:=zDk R o1 e1
   have hu:us=ns.map V.int:=by rw[zC1 e2]at i1; exact i1.of_atoms
   subst hu
   refine⟨p,ns,rfl,h1,hl,fun l ns' hl' hp hs=>?_⟩
   have:ns'=sortI ns:=zDr (hp.trans (zD5 ns).symm) hs (zC7 ns)
   subst this
   have hi:Ims K H ((sortI ns).map V.int) ((sortI ns).map fun n=>T.a (.int n)):=by
    have:=Ims.atoms (K:=K) (H:=H) ((sortI ns).map V.int)
    rwa [List.map_map]at this
   exact k _ _ (R.new hl') (Evo.new hl') (R.newl hl' hi) ⟨l,rfl,hl'⟩
  ·cases e
 ·cases e
section
variable {ι:Type}{K:Fg}{X:ι->Cx}{mg:Str->Option Value}{k:Nat}
theorem zEs(M:Fm K mg k X):CalR K X (.builtin "sorted") sortedS:=⟨_,fun j=>by have:=zGu (X:=X j); rw[M.K j]at this; exact this,zF7⟩
end
end D
namespace L2
open PySem
section
variable {X:Cx}
theorem zMB:OpR X (compareOp .IsNot) (fun x y H Q=>∃ a b:Bool,x=.bl a/\y=.bl b/\Q (.bl (!decide (a=b))) H):=by
 intro pins s σ H x y v u Q I rx ry h
 obtain⟨a,b,rfl,rfl,q⟩:=h
 cases rx; cases ry
 exact wpAny_isNot_plain rfl (zAW I q (by cases a <;> cases b <;> rfl))
end
end L2
namespace D
open PySem L2
def isBS(neg:Bool):En->S->S->Option S:=fun _ a b=>match a,b with
 | .v (.a (.bl x)),.v (.a (.bl y))=>some (mkB (if neg then !decide (x=y) else decide (x=y)))
 | _,_=>none
theorem zII{K:Fg}:SimR2 K (fun x y H Q=>∃ a b:Bool,x=.bl a/\y=.bl b/\Q (.bl (!decide (a=b))) H) (isBS true):=by
 intro C w Γ σ H x y a b s Q R ox oy e k
 unfold isBS at e
 split at e
 ·cases e; exact⟨_,_,ox.inva,oy.inva,k _ H R .refl SOk.atom trivial⟩
 ·cases e
section
variable {ι:Type}{K:Fg}{X:ι->Cx}
theorem zE5:CmpR K X .IsNot (isBS true):=⟨_,fun _=>zMB,zII⟩
end
def ixL{α:Type}(l:List α)(i:Nat):Option α:=l[i]?
@[simp,simp ↓] theorem zSx{α:Type}{x:α}{r:List α}:ixL (x::r) 0=some x:=rfl
@[simp,simp ↓] theorem zSZ{α:Type}{x:α}{r:List α}{n:Nat}:ixL (x::r) (n+1)=ixL r n:=rfl
@[simp high,simp ↓ high] theorem gd_0{α:Type}{x:α}:gd 0 x=some x:=rfl
@[simp high,simp ↓ high] theorem gd_1{α:Type}{x:α}:gd 1 x=some x:=rfl
@[simp high,simp ↓ high] theorem gd_2{α:Type}{x:α}:gd 2 x=some x:=rfl
@[simp high,simp ↓ high] theorem gd_3{α:Type}{x:α}:gd 3 x=some x:=rfl
@[simp high,simp ↓ high] theorem gd_4{α:Type}{x:α}:gd 4 x=some x:=rfl
class Kf (α β:Type) where
 k:α->Option β
class Kg (α β:Type) where
 k:α->β
def bnd{α β:Type}(x:Option α) [f:Kf α β]:Option β:=x.bind f.k
@[simp,simp ↓] theorem zPV{α β:Type}{a:α}{f:α->Option β}:bnd (some a) (f:=⟨f⟩)=f a:=rfl
def omp{α β:Type}(x:Option α) [f:Kg α β]:Option β:=x.map f.k
@[simp,simp ↓] theorem zSf{α β:Type}{a:α}{f:α->β}:omp (some a) (f:=⟨f⟩)=some (f a):=rfl
class Ka (α:Type) where
 v:α
def ifB{α:Type}(b:Bool) [x:Ka α] [y:Ka α]:α:=if b=true then x.v else y.v
@[simp high,simp ↓ high] theorem zSg{α:Type}{x:α}{y:Ka α}:ifB true (x:=⟨x⟩) (y:=y)=x:=rfl
@[simp high,simp ↓ high] theorem zSb{α:Type}{x:Ka α}{y:α}:ifB false (x:=x) (y:=⟨y⟩)=y:=rfl
def ifO{α:Type}(p:Option Nat)(k:Nat)(x y:α):α:=if p=some k then x else y
@[simp high,simp ↓ high] theorem zSY{α:Type}{k:Nat}{x y:α}:ifO none k x y=y:=rfl
def ifN{α:Type}(m n:Nat)(x y:α):α:=if m=n then x else y
def ifM{α:Type}(i:Nat)(l:List Nat)(x y:α):α:=if i∈l then x else y
@[simp high,simp ↓ high] theorem zSq{α:Type}{i:Nat}{x y:α}:ifM i [] x y=y:=rfl
def apE{α:Type}(l:List α):List α:=l++[]
@[simp,simp ↓] theorem zSm{α:Type}:apE ([]:List α)=[]:=rfl
@[simp,simp ↓] theorem zSc{α:Type}{x:α}{r:List α}:apE (x::r)=x::apE r:=rfl
@[simp high,simp ↓ high] theorem zSU{α:Type}{x y:α}:ifO (some 0) 0 x y=x:=rfl
@[simp high,simp ↓ high] theorem zSX{α:Type}{x y:α}:ifN 2 2 x y=x:=rfl
@[simp high,simp ↓ high] theorem zSi{α:Type}{x y:α}:ifN 3 3 x y=x:=rfl
@[simp high,simp ↓ high] theorem zSh{α:Type}{x y:α}:ifN 5 5 x y=x:=rfl
section
variable {f g:DS}{fa fb fc fi:DE}{da fr:DA}{ta tb:DT}{Γ:En}{i j k:Nat}{h h':En->S->S->Option S}
@[simp,simp ↓] theorem zMl:dSeq f g Γ=bnd (f Γ) (f:=⟨fun o=>match o with | .nx Γ'=>g Γ' | o=>some o⟩):=rfl
@[simp,simp ↓] theorem zQn:dNext Γ=some (.nx Γ):=rfl
@[simp,simp ↓] theorem zRZ:dRet fa Γ=omp (fa Γ) (f:=⟨fun p=>.rt p.1 p.2⟩):=rfl
@[simp,simp ↓] theorem zQe:dDrop fa Γ=omp (fa Γ) (f:=⟨fun p=>.nx p.2⟩):=rfl
@[simp,simp ↓] theorem zSu:dIf ta f g Γ=bnd (ta Γ) (f:=⟨fun p=>ifB p.1 (x:=⟨(f p.2)⟩) (y:=⟨(g p.2)⟩)⟩):=rfl
@[simp,simp ↓] theorem zRX:dSet i fa Γ=bnd (fa Γ) (f:=⟨fun p=>omp (setS i p.1 p.2) (f:=⟨.nx⟩)⟩):=rfl
@[simp,simp ↓] theorem zRg{t:T}:setS i (.v t) Γ=some (Γ.set i (some (.v t))):=rfl
@[simp,simp ↓] theorem zSE{t:List T}:setS i (.l t) Γ=some (Γ.set i (some (.l t))):=rfl
@[simp,simp ↓] theorem zRV:jV i Γ=match ixL Γ i with
 | some (some (.v t))=>some (.v t,Γ)
 | some (some (.l _))=>some (.s i,Γ)
 | some (some (.r _))=>some (.s i,Γ)
 | some (some (.k _))=>some (.s i,Γ)
 | some (some (.d _))=>some (.s i,Γ)
 | some (some (.e _))=>some (.s i,Γ)
 | _=>none:=rfl
@[simp,simp ↓] theorem zSs{v:V}:dC v Γ=some (.v (.a v),Γ):=rfl
@[simp,simp ↓] theorem zRk:dOp h fa fb Γ=bnd (fa Γ) (f:=⟨fun p=>bnd (fb p.2) (f:=⟨fun q=>omp (h q.2 p.1 q.1) (f:=⟨fun s=>(s,q.2)⟩)⟩)⟩):=rfl
@[simp,simp ↓] theorem zSH{h:En->S->Option S}:dUn h fa Γ=bnd (fa Γ) (f:=⟨fun p=>omp (h p.2 p.1) (f:=⟨fun s=>(s,p.2)⟩)⟩):=rfl
@[simp,simp ↓] theorem zR7{h:En->List S->Option S}:dCB h da Γ=bnd (da Γ) (f:=⟨fun p=>omp (h p.2 p.1) (f:=⟨fun s=>(s,p.2)⟩)⟩):=rfl
@[simp,simp ↓] theorem zRa:qQ Γ=some ([],Γ):=rfl
@[simp,simp ↓] theorem zQz:jW fa fr Γ=bnd (fa Γ) (f:=⟨fun p=>bnd (fr p.2) (f:=⟨fun q=>some (p.1::q.1,q.2)⟩)⟩):=rfl
@[simp,simp ↓] theorem zRy{t:T}:S.tree (.v t)=some t:=rfl
@[simp,simp ↓] theorem zQX:trees []=some []:=rfl
@[simp,simp ↓] theorem zO2{t:T}{r:List S}:trees (.v t::r)=omp (trees r) (f:=⟨fun ts=>t::ts⟩):=rfl
theorem zEY:sizeLine=16777216:=sizeLine_eq
@[simp,simp ↓] theorem zQ8:dTup da Γ=bnd (da Γ) (f:=⟨fun p=>bnd (trees p.1) (f:=⟨fun ts=>gd ts.length (.v (.t ts),p.2)⟩)⟩):=rfl
@[simp,simp ↓] theorem zRJ:dLst da Γ=bnd (da Γ) (f:=⟨fun p=>bnd (trees p.1) (f:=⟨fun ts=>gd ts.length (.l ts,p.2)⟩)⟩):=rfl
@[simp,simp ↓] theorem zQv:dTest fa Γ=bnd (fa Γ) (f:=⟨fun p=>match p.1 with | .v (.a (.bl b))=>some (b,p.2) | _=>none⟩):=rfl
@[simp,simp ↓] theorem zR2:dAnd ta tb Γ=bnd (ta Γ) (f:=⟨fun p=>ifB p.1 (x:=⟨(tb p.2)⟩) (y:=⟨(some (false,p.2))⟩)⟩):=rfl
@[simp,simp ↓] theorem zSn:dOr ta tb Γ=bnd (ta Γ) (f:=⟨fun p=>ifB p.1 (x:=⟨(some (true,p.2))⟩) (y:=⟨(tb p.2)⟩)⟩):=rfl
@[simp,simp ↓] theorem zQ9:dNot ta Γ=bnd (ta Γ) (f:=⟨fun p=>some (!p.1,p.2)⟩):=rfl
@[simp,simp ↓] theorem zRU:dAndV fa fb Γ=bnd (dTest fa Γ) (f:=⟨fun p=>ifB p.1 (x:=⟨(fb p.2)⟩) (y:=⟨(some (.v (.a (.bl false)),p.2))⟩)⟩):=rfl
@[simp,simp ↓] theorem zSK:dOrV fa fb Γ=bnd (dTest fa Γ) (f:=⟨fun p=>ifB p.1 (x:=⟨(some (.v (.a (.bl true)),p.2))⟩) (y:=⟨(fb p.2)⟩)⟩):=rfl
@[simp,simp ↓] theorem zQf:dNotV fa Γ=bnd (dTest fa Γ) (f:=⟨fun p=>some (.v (.a (.bl !p.1)),p.2)⟩):=rfl
@[simp,simp ↓] theorem zR3:dIfE ta fa fb Γ=bnd (ta Γ) (f:=⟨fun p=>ifB p.1 (x:=⟨(fa p.2)⟩) (y:=⟨(fb p.2)⟩)⟩):=rfl
@[simp,simp ↓] theorem zR8{h:En->List T->List S->Option (T×List T)}:dMut i h da Γ=ifB (isLs Γ i) (x:=⟨(bnd (da Γ) (f:=⟨fun p=>match ixL p.2 i with
 | some (some (.l xs))=>bnd (gd xs.length ()) (f:=⟨fun _=>omp (h p.2 xs p.1) (f:=⟨fun q=>(.v q.1,p.2.set i (some (.l q.2)))⟩)⟩)
 | _=>none⟩))⟩) (y:=⟨none⟩):=rfl
@[simp,simp ↓] theorem zRS:isLs Γ i=match ixL Γ i with | some (some (.l _))=>true | _=>false:=rfl
@[simp,simp ↓] theorem zQd:dSetIx i fa fi Γ=bnd (fa Γ) (f:=⟨fun p=>bnd p.1.tree (f:=⟨fun t=>ifB (isLs p.2 i) (x:=⟨(bnd (fi p.2) (f:=⟨fun q=>bnd (iS q.1) (f:=⟨fun k=>match ixL q.2 i with
  | some (some (.l xs))=>omp (ixN xs.length k) (f:=⟨fun j=>.nx (q.2.set i (some (.l (xs.set j t))))⟩)
  | _=>none⟩)⟩))⟩) (y:=⟨none⟩)⟩)⟩):=rfl
@[simp,simp ↓] theorem zPk{n:Int}:iS (.v (.a (.int n)))=some n:=rfl
@[simp] theorem zKd{c:Int->Int->Prop} [∀ i j,Decidable (c i j)] {g:Int->Int->V} {xs:List T} {b:S}:opIIc c g Γ (.l xs) b=none:=(rfl)
@[simp,simp ↓] theorem zQ7{m n:Int}:addS Γ (.v (.a (.int m))) (.v (.a (.int n)))=some (.v (.a (.int (m+n)))):=rfl
@[simp] theorem zRE{xs ys:List T}:addS Γ (.v (.t xs)) (.v (.t ys))=gd (xs.length+ys.length) (.v (.t (xs++ys))):=by
 show ((none:Option S).or ((addTup Γ (.v (.t xs)) (.v (.t ys))).or ((none:Option S).or none)))=_
 simp[addTup]
@[simp] theorem zRd{m:Nat}{b:S}:addS Γ (.s m) b=addLst Γ (.s m) b:=by
 show ((none:Option S).or ((none:Option S).or ((addLst Γ (.s m) b).or none)))=_
 simp
@[simp] theorem zSP{xs:List T}{b:S}:addS Γ (.l xs) b=addLst Γ (.l xs) b:=by
 show ((none:Option S).or ((none:Option S).or ((addLst Γ (.l xs) b).or none)))=_
 simp
@[simp,simp ↓] theorem zQU{a b:S}:addLst Γ a b=bnd (lsOf Γ a) (f:=⟨fun xs=>bnd (lsOf Γ b) (f:=⟨fun ys=>gd (xs.length+ys.length) (.l (xs++ys))⟩)⟩):=rfl
@[simp,simp ↓] theorem zRL{m n:Int}:subS Γ (.v (.a (.int m))) (.v (.a (.int n)))=some (.v (.a (.int (m - n)))):=rfl
@[simp] theorem zRB{m n:Int}:mulS Γ (.v (.a (.int m))) (.v (.a (.int n)))=if CMul m n then some (.v (.a (.int (m * n)))) else none:=by
 show ((if CMul m n then some _ else none).or (none:Option S))=_
 simp
theorem zLB{l n:Nat}(h:l * n<=100000)(h2:n<=100000):fitM l (n:Int)=true:=by
 unfold fitM
 rw[zCP (by omega),Int.toNat_natCast,Bool.true_and]
 exact Nat.ble_eq_true_of_le (Nat.le_trans h (by decide))
theorem zLJ(xs:List T)(n:Nat)(h:xs.length * n<=100000)(h2:n<=100000):mulS Γ (.l xs) (.v (.a (.int (n:Int))))=some (.l (List.replicate n xs).flatten):=by
 have e:mulS Γ (.l xs) (.v (.a (.int (n:Int))))=mulLst Γ (.l xs) (.v (.a (.int (n:Int)))):=by unfold mulS; rw[zKd,Option.none_or]
 rw[e]
 unfold mulLst
 have e1:lsOf Γ (.l xs)=some xs:=rfl
 rw[e1,Option.bind_some,zPk,Option.bind_some,if_pos (zLB h h2),Int.toNat_natCast]
@[simp] theorem zRD{m n:Int}:modS Γ (.v (.a (.int m))) (.v (.a (.int n)))=if 0 < n then some (.v (.a (.int (m % n)))) else none:=(rfl)
@[simp] theorem zQy{m n:Int}:fdivS Γ (.v (.a (.int m))) (.v (.a (.int n)))=if CDiv m n then some (.v (.a (.int (m / n)))) else none:=(rfl)
@[simp] theorem zRb{m n:Int}:powS Γ (.v (.a (.int m))) (.v (.a (.int n)))=if CPow m n then some (.v (.a (.int (m ^ n.toNat)))) else none:=(rfl)
@[simp,simp ↓] theorem zSM{m n:Int}:ltS Γ (.v (.a (.int m))) (.v (.a (.int n)))=some (.v (.a (.bl (decide (m < n))))):=rfl
@[simp,simp ↓] theorem zR0{m n:Int}:gtS Γ (.v (.a (.int m))) (.v (.a (.int n)))=some (.v (.a (.bl (decide (n < m))))):=rfl
@[simp,simp ↓] theorem zRt{m n:Int}:geS Γ (.v (.a (.int m))) (.v (.a (.int n)))=some (.v (.a (.bl (decide (n<=m))))):=rfl
@[simp,simp ↓] theorem zST{m:Int}:negS Γ (.v (.a (.int m)))=some (.v (.a (.int (-m)))):=rfl
@[simp,simp ↓] theorem zSa{xs:List T}{n:Int}:ixS Γ (.v (.t xs)) (.v (.a (.int n)))=omp (atI xs n) (f:=⟨.v⟩):=rfl
@[simp,simp ↓] theorem zSt{xs:List T}{n:Int}:ixS Γ (.l xs) (.v (.a (.int n)))=omp (atI xs n) (f:=⟨.v⟩):=rfl
@[simp,simp ↓] theorem zSj{m:Nat}{n:Int}:ixS Γ (.s m) (.v (.a (.int n)))=bnd (sqlOf Γ (.s m)) (f:=⟨fun xs=>omp (atI xs n) (f:=⟨.v⟩)⟩):=rfl
@[simp,simp ↓] theorem zRM{m:Nat}:sqlOf Γ (.s m)=match ixL Γ m with
  | some (some (.l xs))=>some xs
  | some (some (.r xs))=>some xs
  | some (some (.k xs))=>some xs
  | _=>none:=rfl
@[simp,simp ↓] theorem zMF{xs:List T}:sqlOf Γ (.l xs)=some xs:=rfl
@[simp,simp ↓] theorem zR9{xs:List T}:lsOf Γ (.l xs)=some xs:=rfl
@[simp,simp ↓] theorem zR4{m:Nat}:lsOf Γ (.s m)=match ixL Γ m with
  | some (some (.l xs))=>some xs
  | some (some (.r xs))=>some xs
  | _=>none:=rfl
@[simp,simp ↓] theorem zRu{xs:List T}:lenS Γ [.v (.t xs)]=some (.v (.a (.int xs.length))):=rfl
@[simp,simp ↓] theorem zRz{xs:List T}:lenS Γ [.l xs]=some (.v (.a (.int xs.length))):=rfl
@[simp,simp ↓] theorem zRn{m:Nat}:lenS Γ [.s m]=omp (sqlOf Γ (.s m)) (f:=⟨fun xs=>.v (.a (.int xs.length))⟩):=rfl
@[simp,simp ↓] theorem zQg{xs:List T}:tupleS Γ [.l xs]=some (.v (.t xs)):=rfl
@[simp,simp ↓] theorem zQ0{m:Nat}:tupleS Γ [.s m]=omp (sqlOf Γ (.s m)) (f:=⟨fun xs=>.v (.t xs)⟩):=rfl
@[simp,simp ↓] theorem zP7:dNoPart Γ=some (none,Γ):=rfl
@[simp,simp ↓] theorem zQr:dPart fa Γ=bnd (fa Γ) (f:=⟨fun p=>omp (iS p.1) (f:=⟨fun i=>(some i,p.2)⟩)⟩):=rfl
@[simp,simp ↓] theorem zSO{lo hi:DO}:dSl fa lo hi Γ=bnd (fa Γ) (f:=⟨fun p=>bnd (lo p.2) (f:=⟨fun l=>bnd (hi l.2) (f:=⟨fun h=>omp (slS h.2 l.1 h.1 p.1) (f:=⟨fun s=>(s,h.2)⟩)⟩)⟩)⟩):=rfl
@[simp,simp ↓] theorem zSd{xs:List T}{lo hi:Option Int}:slS Γ lo hi (.v (.t xs))=some (.v (.t (cutT xs lo hi))):=rfl
@[simp,simp ↓] theorem zSp{m:Nat}{lo hi:Option Int}:slS Γ lo hi (.s m)=omp (sqlOf Γ (.s m)) (f:=⟨fun xs=>.l (cutT xs lo hi)⟩):=rfl
@[simp,simp ↓] theorem zQW{xs:List T}{t:T}:hAppend Γ xs [.v t]=if xs.length < sizeLine then some (.a .non,xs++[t]) else none:=rfl
@[simp,simp ↓] theorem zRo{xs:List T}:hPop Γ xs []=omp (xs[xs.length - 1]?) (f:=⟨fun t=>(t,xs.dropLast)⟩):=rfl
@[simp] theorem zQb{xs:List T}{n:Int}:hPopAt Γ xs [.v (.a (.int n))]=if inR 9223372036854775807 n=true then bnd (seqIndex? n xs.length) (f:=⟨fun k=>omp (xs[k]?) (f:=⟨fun t=>(t,xs.eraseIdx k)⟩)⟩) else none:=rfl
@[simp,simp ↓] theorem zSB{b:Bool}:intS Γ [.v (.a (.bl b))]=some (.v (.a (.int (if b then 1 else 0)))):=rfl
@[simp,simp ↓] theorem zQt{m n:Int}:max2S Γ [.v (.a (.int m)),.v (.a (.int n))]=some (.v (.a (.int (if n > m then n else m)))):=rfl
@[simp] theorem zQY{fo:DE}:dIndex fo da Γ=bnd (fo Γ) (f:=⟨fun p=>bnd (da p.2) (f:=⟨fun q=>match p.1,q.1 with
 | .v (.t xs),[.v (.a y)]=>bnd (atomsOf xs) (f:=⟨fun vs=>if flatV y=true/\vs.all flatV=true then omp (vs.findIdx? fun z=>eqV z y) (f:=⟨fun j=>(mkI (j:Nat),q.2)⟩) else none⟩)
 | _,_=>none⟩)⟩):=rfl
@[simp,simp ↓] theorem zRv{n:Int}:mkI n=.v (.a (.int n)):=rfl
@[simp,simp ↓] theorem zSF{b:Bool}:mkB b=.v (.a (.bl b)):=rfl
@[simp] theorem zOq:dListRng da Γ=bnd (da Γ) (f:=⟨fun p=>omp (rngS p.1) (f:=⟨fun xs=>(.l xs,p.2)⟩)⟩):=rfl
@[simp] theorem zPy:dTupRng da Γ=bnd (da Γ) (f:=⟨fun p=>omp (rngS p.1) (f:=⟨fun xs=>(.v (.t xs),p.2)⟩)⟩):=rfl
theorem zCa(n:Nat)(h:n<=100000):rngS [.v (.a (.int (n:Int)))]=some (rngT 0 n):=by
 unfold rngS
 dsimp only
 rw[zCP (by omega),Int.toNat_natCast,Bool.true_and,Nat.ble_eq_true_of_le (Nat.le_trans h (by decide)),if_pos rfl]
theorem zJo(m n:Nat)(h1:m<=100000)(h:n<=100000):rngS [.v (.a (.int (m:Int))),.v (.a (.int (n:Int)))]=some (rngT m (n - m)):=by
 unfold rngS
 dsimp only
 have e:((n:Int) - (m:Int)).toNat=n - m:=by omega
 rw[zCP (by omega),zCP (by omega),e,Bool.true_and,Bool.true_and,Nat.ble_eq_true_of_le (Nat.le_trans (show n - m<=100000 by omega) (by decide)),if_pos rfl]
@[simp] theorem zQi:dRng1 da Γ=(da Γ).bind fun p=>if p.1.length=1 then (rngS p.1).map fun xs=>((xs,[]),p.2) else none:=by
 unfold dRng1
 congr 1
 funext p
 obtain⟨as,G⟩:=p
 match as with
 | []=>rfl
 | [a] =>
  match a with
  | .v (.a (.int j))=>simp only[rngS,List.length_singleton,if_true]; split <;> rfl
  | .v (.a .non)=>rfl
  | .v (.a (.bl _))=>rfl
  | .v (.a (.str _))=>rfl
  | .v (.a (.byt _))=>rfl
  | .v (.a (.flt _))=>rfl
  | .v (.a (.ref _))=>rfl
  | .v (.a (.ty _))=>rfl
  | .v (.t _)=>rfl
  | .v (.l _)=>rfl
  | .v (.f _)=>rfl
  | .v (.x _ _)=>rfl
  | .l _=>rfl
  | .s _=>rfl
  | .d _=>rfl
 | a::b::r =>
  have:¬ (a::b::r).length=1:=by simp
  rw[if_neg this]
  dsimp only
  split
  ·rename_i h; simp at h
  ·rfl
@[simp,simp ↓] theorem zQk:dSeqI fa Γ=bnd (fa Γ) (f:=⟨fun p=>bnd (seqS p.2 p.1) (f:=⟨fun xs=>gd xs.length ((xs,srcS p.2 p.1),p.2)⟩)⟩):=rfl
@[simp,simp ↓] theorem zRw{xs:List T}:seqS Γ (.v (.t xs))=some xs:=rfl
@[simp,simp ↓] theorem zRq{xs:List T}:seqS Γ (.l xs)=some xs:=rfl
@[simp,simp ↓] theorem zSD{m:Nat}:seqS Γ (.s m)=sqlOf Γ (.s m):=rfl
@[simp,simp ↓] theorem zSV{t:T}:srcS Γ (.v t)=[]:=rfl
@[simp,simp ↓] theorem zSJ{t:List T}:srcS Γ (.l t)=[]:=rfl
@[simp,simp ↓] theorem zSI{m:Nat}:srcS Γ (.s m)=match ixL Γ m with | some (some (.l _))=>[m] | _=>[]:=rfl
@[simp,simp ↓] theorem zRO:dYes Γ=some (true,Γ):=rfl
@[simp,simp ↓] theorem zRH:dTru fa Γ=bnd (fa Γ) (f:=⟨fun p=>omp (truS p.2 p.1) (f:=⟨fun b=>(b,p.2)⟩)⟩):=rfl
@[simp,simp ↓] theorem zRx{b:Bool}:truS Γ (.v (.a (.bl b)))=some b:=rfl
@[simp,simp ↓] theorem zSS{m:Nat}:truS Γ (.s m)=omp (sqlOf Γ (.s m)) (f:=⟨fun xs=>!xs.isEmpty⟩):=rfl
@[simp] theorem zQc:dPar2 i j da Γ=bnd (da Γ) (f:=⟨fun p=>match p.1 with
  | [.v a,.v b]=>some (.nx ((p.2.set i (some (.v a))).set j (some (.v b))))
  | _=>none⟩):=rfl
@[simp] theorem zQ1:dPar3 i j k da Γ=bnd (da Γ) (f:=⟨fun p=>match p.1 with
  | [.v a,.v b,.v c]=>some (.nx (((p.2.set i (some (.v a))).set j (some (.v b))).set k (some (.v c))))
  | _=>none⟩):=rfl
@[simp,simp ↓] theorem zRc{tg:En->T->Option En}:dUnp tg fa Γ=bnd (fa Γ) (f:=⟨fun p=>bnd p.1.tree (f:=⟨fun t=>omp (tg p.2 t) (f:=⟨.nx⟩)⟩)⟩):=rfl
@[simp,simp ↓] theorem zI8{t:T}:gdName i Γ t=some (Γ.set i (some (.v t))):=rfl
@[simp,simp ↓] theorem zQ3:gdNil Γ []=some Γ:=rfl
@[simp,simp ↓] theorem zQa{p:En->T->Option En}{q:En->List T->Option En}{t:T}{r:List T}:gdCons p q Γ (t::r)=bnd (p Γ t) (f:=⟨fun Γ1=>q Γ1 r⟩):=rfl
@[simp,simp ↓] theorem zQ5{q:En->List T->Option En}{ts:List T}:gdTup i q Γ (.t ts)=ifN ts.length i (q Γ ts) none:=rfl
@[simp,simp ↓] theorem zRY{ip:Option Nat}{F:DF}:dCall ip F [] da Γ=bnd (da Γ) (f:=⟨fun p=>ifB (onceS ip p.1) (x:=⟨(bnd (argsG ip p.2 0 (apE p.1)) (f:=⟨fun gs=>omp (F gs) (f:=⟨fun q=>(toS q.1,backS ip p.2 p.1 q.2)⟩)⟩))⟩) (y:=⟨none⟩)⟩):=rfl
@[simp,simp ↓] theorem zQZ{ip:Option Nat}:argsG ip Γ k []=some []:=rfl
@[simp high,simp ↓ high] theorem zQh{ip:Option Nat}{s:S}{r:List S}:argsG ip Γ 0 (s::r)=bnd (argG ip Γ 0 s) (f:=⟨fun g=>omp (argsG ip Γ 1 r) (f:=⟨fun gs=>g::gs⟩)⟩):=rfl
@[simp high,simp ↓ high] theorem zQx{ip:Option Nat}{s:S}{r:List S}:argsG ip Γ 1 (s::r)=bnd (argG ip Γ 1 s) (f:=⟨fun g=>omp (argsG ip Γ 2 r) (f:=⟨fun gs=>g::gs⟩)⟩):=rfl
@[simp high,simp ↓ high] theorem zQl{ip:Option Nat}{s:S}{r:List S}:argsG ip Γ 2 (s::r)=bnd (argG ip Γ 2 s) (f:=⟨fun g=>omp (argsG ip Γ 3 r) (f:=⟨fun gs=>g::gs⟩)⟩):=rfl
@[simp high,simp ↓ high] theorem zQs{ip:Option Nat}{s:S}{r:List S}:argsG ip Γ 3 (s::r)=bnd (argG ip Γ 3 s) (f:=⟨fun g=>omp (argsG ip Γ 4 r) (f:=⟨fun gs=>g::gs⟩)⟩):=rfl
@[simp,simp ↓] theorem zRm{ip:Option Nat}{t:T}:argG ip Γ k (.v t)=some (.v t):=rfl
@[simp,simp ↓] theorem zRP{ip:Option Nat}{xs:List T}:argG ip Γ k (.l xs)=some (ifO ip k (.l xs) (.r xs)):=rfl
@[simp,simp ↓] theorem zR5{ip:Option Nat}{m:Nat}:argG ip Γ k (.s m)=match ixL Γ m with
  | some (some (.l xs))=>some (ifO ip k (.l xs) (.r xs))
  | some (some (.r xs))=>ifO ip k none (some (.r xs))
  | some (some (.k xs))=>ifO ip k none (some (.k xs))
  | some (some (.d xs))=>ifO ip k none (some (.e xs))
  | some (some (.e xs))=>ifO ip k none (some (.e xs))
  | _=>none:=rfl
@[simp,simp ↓] theorem zRj{ip:Option Nat}{xs:Dk}:argG ip Γ k (.d xs)=if ip=some k then none else some (.e xs):=rfl
@[simp,simp ↓] theorem zRG{ss:List S}:onceS none ss=true:=rfl
@[simp high,simp ↓ high] theorem zSr:(List.all ([]:List S) fun s=>!isSl i s)=true:=rfl
@[simp high,simp ↓ high] theorem zSl{t:T}{r:List S}:(List.all (.v t::r) fun s=>!isSl i s)=r.all fun s=>!isSl i s:=rfl
@[simp,simp ↓] theorem zRA{ss:List S}:onceS (some k) ss=match ixL ss k with
  | some (.s i)=>(ss.eraseIdx k).all fun s=>!isSl i s
  | some (.l _)=>(ss.eraseIdx k).all fun s=>!isTmp s
  | _=>false:=rfl
@[simp,simp ↓] theorem zRT{ss:List S}{ys:List T}:backS none Γ ss ys=Γ:=rfl
@[simp,simp ↓] theorem zRC{ss:List S}{ys:List T}:backS (some k) Γ ss ys=match ixL ss k with | some (.s i)=>Γ.set i (some (.l ys)) | _=>Γ:=rfl
@[simp,simp ↓] theorem zSy{t:T}:toS (.v t)=.v t:=rfl
@[simp,simp ↓] theorem zSe{t:List T}:toS (.l t)=.l t:=rfl
@[simp,simp ↓] theorem zSL:outl none Γ=[]:=rfl
@[simp,simp ↓] theorem zRr:outl (some k) Γ=match ixL Γ k with | some (some (.l xs))=>xs | _=>[]:=rfl
@[simp,simp ↓] theorem zSC{ip:Option Nat}{t:T}:resG ip Γ (.v t)=some (.v t):=rfl
@[simp,simp ↓] theorem zRl{ip:Option Nat}{t:List T}:resG ip Γ (.l t)=some (.l t):=rfl
@[simp,simp ↓] theorem zSW{ip:Option Nat}:resG ip Γ (.s i)=if ip=some i then none else match ixL Γ i with | some (some (.l xs))=>some (.l xs) | some (some (.d xs))=>some (.d xs) | _=>none:=rfl
@[simp,simp ↓] theorem zG2{t:T}:reprS Γ [.v t]=bnd (toD t) (f:=⟨fun d=>if d.showable=true/\d.hasDict=false/\d.depth<=100/\d.shown.length<=sizeLine then some (.v (.a (.str d.shown))) else none⟩):=rfl
@[simp,simp ↓] theorem zR6{xs:List T}:allS Γ [.l xs]=omp (boolsOf xs) (f:=⟨fun bs=>.v (.a (.bl (bs.all id)))⟩):=rfl
end
theorem zA2{α:Type}{xs:List α}{n:Nat}:atI xs (n:Int)=xs[n]?:=by
 unfold atI ixN
 rw[if_pos (Int.natCast_nonneg n)]
 by_cases h:n < xs.length
 ·rw[if_pos (by omega)]; simp
 ·rw[if_neg (by omega),List.getElem?_eq_none (by omega)]; rfl
@[simp] theorem zOv{α:Type}{xs:List α}:atI xs 0=xs[0]?:=zA2 (n:=0)
@[simp] theorem zSo{α:Type}{xs:List α}:atI xs 1=xs[1]?:=zA2 (n:=1)
@[simp] theorem zSv{α:Type}{xs:List α}:atI xs 2=xs[2]?:=zA2 (n:=2)
@[simp] theorem zSk{α:Type}{xs:List α}:atI xs 3=xs[3]?:=zA2 (n:=3)
theorem zJ6{α:Type}{xs:List α}(h:xs≠[]):atI xs (-1)=xs[xs.length - 1]?:=by
 have:0 < xs.length:=List.length_pos_iff.mpr h
 unfold atI ixN
 rw[if_neg (by omega),if_pos (by omega)]
 show xs[(-1+(xs.length:Int)).toNat]?=_
 congr 1
 omega
theorem zHP{n j:Nat}(h:j < n):ixN n (j:Int)=some j:=by
 unfold ixN; rw[if_pos (by omega),if_pos (by omega)]; simp
theorem zAZ{n:Nat}(h:n<=100000):n<=sizeLine:=Nat.le_trans h (by decide)
theorem zNZ{n:Nat}(h:n<=100000):n < sizeLine:=Nat.lt_of_le_of_lt h (by decide)
@[simp] abbrev iT(n:Int):T:=.a (.int n)
@[simp] abbrev bT(b:Bool):T:=.a (.bl b)
theorem zGZ(ns:List Int){i:Int}(h0:0<=i)(h1:i < ns.length):∃ z,atI (intsT ns) i=some (iT z):=by
 obtain⟨j,rfl⟩:∃ j:Nat,i=j:=⟨i.toNat,by omega⟩
 exact⟨ns[j]'(by omega),by rw[zA2,intsT,List.getElem?_map,List.getElem?_eq_getElem (by omega)]; rfl⟩
theorem zAy{c:DT}{b:DS}{n:Nat}{Γ:En}:dWhile c b (n+1) Γ=(c Γ).bind fun p=>if p.1=true then (b p.2).bind fun o=>match o with
   | .nx Γ'=>dWhile c b n Γ'
   | .ct Γ'=>dWhile c b n Γ'
   | .bk Γ'=>some (.nx Γ')
   | .rt s Γ'=>some (.rt s Γ')
  else some (.nx p.2):=(rfl)
theorem zGR{tg:En->T->Option En}{b:DS}{Γ:En}:forD tg b [] Γ=some (.nx Γ):=(rfl)
theorem zCu{tg:En->T->Option En}{b:DS}{t:T}{r:List T}{Γ:En}:forD tg b (t::r) Γ=(tg Γ t).bind fun Γ1=>(b Γ1).bind fun o=>match o with
  | .nx Γ'=>forD tg b r Γ'
  | .ct Γ'=>forD tg b r Γ'
  | .bk Γ'=>some (.nx Γ')
  | .rt s Γ'=>some (.rt s Γ'):=(rfl)
theorem zAN{tg:En->T->Option En}{dc:DT}{de:DE}{Γ:En}:compD tg dc de [] Γ=some ([],Γ):=(rfl)
theorem zAQ{tg:En->T->Option En}{dc:DT}{de:DE}{t:T}{r:List T}{Γ:En}:compD tg dc de (t::r) Γ=(tg Γ t).bind fun Γ1=>(dc Γ1).bind fun p=>if p.1=true then (de p.2).bind fun q=>q.1.tree.bind fun t'=>(compD tg dc de r q.2).map fun z=>(t'::z.1,z.2) else compD tg dc de r p.2:=(rfl)
@[simp,simp ↓] theorem zRF{ix:List (Option Nat)}{di:DI}{tg:En->T->Option En}{dc:DT}{de:DE}{Γ:En}:dComp none ix di tg dc de Γ=bnd (di Γ) (f:=⟨fun p=>omp (compD tg dc de p.1.1 (pick none ix p.2)) (f:=⟨fun z=>(.l z.1,p.2)⟩)⟩):=rfl
@[simp,simp ↓] theorem zQw{i j:Nat}{ix:List (Option Nat)}{di:DI}{tg:En->T->Option En}{dc:DT}{de:DE}{Γ:En}:dComp (some (j,i)) ix di tg dc de Γ=bnd (di Γ) (f:=⟨fun p=>ifM i p.1.2 none (match ixL p.2 i with
  | some (some (.l _))=>omp (compD tg dc de p.1.1 (pick (some i) ix p.2)) (f:=⟨fun z=>(.l z.1,cback (some (j,i)) p.2 z.2)⟩)
  | _=>none)⟩):=rfl
@[simp,simp ↓] theorem zR1{ip:Option Nat}{di:DI}{tg:En->T->Option En}{b:DS}{Γ:En}:dFor ip di tg b Γ=bnd (di Γ) (f:=⟨fun p=>ifB (p.1.2.all fun i=>decide (ip≠some i)) (x:=⟨(forD tg b p.1.1 (frz p.2 p.1.2))⟩) (y:=⟨none⟩)⟩):=rfl
@[simp,simp ↓] theorem zRQ{Γ:En}:frz Γ []=Γ:=rfl
@[simp,simp ↓] theorem zQ2{Γ:En}{i:Nat}{r:List Nat}:frz Γ (i::r)=frz (frz1 Γ i) r:=rfl
@[simp,simp ↓] theorem zQu{mu:Option Nat}{Γ:En}:pick mu [] Γ=[]:=rfl
@[simp,simp ↓] theorem zRs{mu:Option Nat}{ix:List (Option Nat)}{Γ:En}:pick mu (none::ix) Γ=none::pick mu ix Γ:=rfl
@[simp,simp ↓] theorem zSN{mu:Option Nat}{k:Nat}{ix:List (Option Nat)}{Γ:En}:pick mu (some k::ix) Γ=pick1 mu k (ixL Γ k).join::pick mu ix Γ:=rfl
@[simp,simp ↓] theorem zRI{mu:Option Nat}{k:Nat}{t:T}:pick1 mu k (some (.v t))=some (.v t):=rfl
@[simp,simp ↓] theorem zQo{mu:Option Nat}{k:Nat}{t:List T}:pick1 mu k (some (.l t))=ifO mu k (some (.l t)) (some (.r t)):=rfl
@[simp,simp ↓] theorem zRK{j i:Nat}{Γ Γo:En}:cback (some (j,i)) Γ Γo=match ixL Γo j with | some (some (.l xs))=>Γ.set i (some (.l xs)) | _=>Γ:=rfl
theorem zCE{α:Type}(f g:α->T){de:DE}{R:En}:∀ (is:List α),(∀ i∈is,de (some (.v (f i))::R)=some (.v (g i),some (.v (f i))::R))->∀ o,∃ o',compD (gdName 0) dYes de (is.map f) (o::R)=some (is.map g,o'::R)
 | [],_,o=>⟨o,rfl⟩
 | i::r,h,o=>by
  obtain⟨o',e⟩:=zCE f g r (fun j hj=>h j (List.mem_cons_of_mem _ hj)) (some (.v (f i)))
  refine⟨o',?_⟩
  rw[List.map_cons,zAQ]
  simp[h i List.mem_cons_self,e]
theorem zGC{n m:Nat}(h:n < m):seqIndex? (n:Int) m=some n:=(zEd (zHP h)).1
@[simp] theorem zSG{Γ:En}{m n:Int}:eqS Γ (.v (.a (.int m))) (.v (.a (.int n)))=some (.v (.a (.bl (decide (m=n))))):=by
 show ((some (mkB (decide (V.int m=V.int n)))).or _)=_
 simp
@[simp] theorem zRe{Γ:En}{m n:Int}:neS Γ (.v (.a (.int m))) (.v (.a (.int n)))=some (.v (.a (.bl (!decide (m=n))))):=by
 show ((some (mkB (!decide (V.int m=V.int n)))).or _)=_
 simp
@[simp] theorem zRf{Γ:En}{m n:Str}:eqS Γ (.v (.a (.str m))) (.v (.a (.str n)))=some (.v (.a (.bl (decide (m=n))))):=by
 show ((some (mkB (decide (V.str m=V.str n)))).or _)=_
 simp
@[simp] theorem zRp{Γ:En}{m n:Str}:neS Γ (.v (.a (.str m))) (.v (.a (.str n)))=some (.v (.a (.bl (!decide (m=n))))):=by
 show ((some (mkB (!decide (V.str m=V.str n)))).or _)=_
 simp
@[simp] abbrev tvT(t:List Nat):List T:=t.map fun (k:Nat)=>iT (k:Int)
@[simp] abbrev tuT(t:List Nat):T:=.t (tvT t)
structure IsT(n:Nat)(t:List Nat):Prop where
 len:t.length=n
 lt:∀ k∈t,k < n
 nd:t.Nodup
theorem IsT.get{n:Nat}{t:List Nat}(h:IsT n t){i:Nat}(hi:i < n):∃ k,t[i]?=some k/\k < n:=by
 have hl:=h.len
 refine⟨t[i]'(by omega),by simp,h.lt _ (List.getElem_mem _)⟩
theorem zI5:∀ (n:Nat) (t:List Nat),t.length=n->(∀ k∈t,k < n)->t.Nodup->∀ i,i < n->i∈t:=by
 intro n
 induction n with
 | zero=>intro t _ _ _ i hi; omega
 | succ n ih =>
  intro t hl hlt hnd i hi
  by_cases hn:n∈t
  ·have h1:(t.erase n).length=n:=by rw[List.length_erase_of_mem hn]; omega
   have h2:∀ k∈t.erase n,k < n:=fun k hk=>by
    have:=hlt k (List.mem_of_mem_erase hk)
    have hne:k≠n:=fun e=>by subst e; exact (List.Nodup.not_mem_erase hnd) hk
    omega
   have h3:(t.erase n).Nodup:=hnd.erase n
   by_cases e:i=n
   ·subst e; exact hn
   ·exact List.mem_of_mem_erase (ih (t.erase n) h1 h2 h3 i (by omega))
  ·exfalso
   have h2:∀ k∈t,k < n:=fun k hk=>by
    have:=hlt k hk
    have hne:k≠n:=fun e=>by subst e; exact hn hk
    omega
   cases t with
   | nil=>simp at hl
   | cons x r =>
    have hx:=h2 x List.mem_cons_self
    have hr:=ih r (by simpa using hl) (fun k hk=>h2 k (List.mem_cons_of_mem _ hk)) (List.nodup_cons.mp hnd).2 x hx
    exact (List.nodup_cons.mp hnd).1 hr
theorem IsT.mem{n:Nat}{t:List Nat}(h:IsT n t){i:Nat}(hi:i < n):i∈t:=zI5 n t h.len h.lt h.nd i hi
theorem zCz{α β:Type}{f:α->β}{l:List α}(h:∀ x∈l,∀ y∈l,f x=f y->x=y)(nd:l.Nodup):(l.map f).Nodup:=by
 induction l with
 | nil=>exact List.nodup_nil
 | cons a r ih =>
  obtain⟨h1,h2⟩:=List.nodup_cons.mp nd
  refine List.nodup_cons.mpr ⟨fun hm=>?_,ih (fun x hx y hy=>h x (List.mem_cons_of_mem _ hx) y (List.mem_cons_of_mem _ hy)) h2⟩
  obtain⟨y,hy,e⟩:=List.mem_map.mp hm
  have:=h y (List.mem_cons_of_mem _ hy) a List.mem_cons_self e
  subst this
  exact h1 hy
def thenL(a b:List Nat):List Nat:=a.map fun k=>b.getD k 0
def backL(t:List Nat):List Nat:=(List.range t.length).map fun i=>t.idxOf i
theorem zCx{t:List Nat}{n:Nat}(h:IsT n t){i k:Nat}(e:t[i]?=some k):t.idxOf k=i:=by
 obtain⟨hi,e'⟩:=List.getElem?_eq_some_iff.mp e
 rw[← e']
 exact h.nd.idxOf_getElem i hi
theorem zBo{a b:List Nat}{i k m:Nat}(h1:a[i]?=some k)(h2:b[k]?=some m):(thenL a b)[i]?=some m:=by simp[thenL,h1,h2]
theorem zKm{t:List Nat}{i:Nat}(h:i < t.length):(backL t)[i]?=some (t.idxOf i):=by simp[backL,h]
theorem zBH{n:Nat}{a b:List Nat}(ha:IsT n a)(hb:IsT n b):IsT n (thenL a b):=by
 refine⟨by simp[thenL,ha.len],fun k hk=>?_,?_⟩
 ·obtain⟨x,hx,rfl⟩:=List.mem_map.mp hk
  obtain⟨m,hm,hmn⟩:=hb.get (ha.lt x hx)
  simpa [hm] using hmn
 ·unfold thenL
  refine zCz ?_ ha.nd
  intro x hx y hy e
  obtain⟨m,hm,_⟩:=hb.get (ha.lt x hx)
  obtain⟨m',hm',_⟩:=hb.get (ha.lt y hy)
  simp[hm,hm']at e
  subst e
  exact (zCx hb hm).symm.trans (zCx hb hm')
theorem zJn{n:Nat}{t:List Nat}(h:IsT n t):IsT n (backL t):=by
 refine⟨by simp[backL,h.len],fun k hk=>?_,?_⟩
 ·obtain⟨x,hx,rfl⟩:=List.mem_map.mp hk
  have hx':x < n:=by rw[← h.len]; simpa using hx
  have:=List.idxOf_lt_length_iff.mpr (h.mem hx')
  rw[h.len]at this; exact this
 ·unfold backL
  refine zCz ?_ List.nodup_range
  intro x hx y hy e
  have hx':x∈t:=h.mem (by rw[← h.len]; simpa using hx)
  have hy':y∈t:=h.mem (by rw[← h.len]; simpa using hy)
  have e1:=List.getElem_idxOf (List.idxOf_lt_length_iff.mpr hx')
  have e2:=List.getElem_idxOf (List.idxOf_lt_length_iff.mpr hy')
  rw[← e1,← e2]
  congr 1
theorem zDO{n:Nat}{t:List Nat}(h:t.Perm (List.range n)):IsT n t :=
 ⟨by rw[h.length_eq]; simp,fun k hk=>by simpa using h.mem_iff.mp hk,h.nodup_iff.mpr List.nodup_range⟩
theorem zJh(n:Nat):IsT n (List.range n):=⟨by simp,fun k hk=>by simpa using hk,List.nodup_range⟩
theorem zEJ(n:Nat):rngT 0 n=tvT (List.range n):=by simp[rngT]
theorem zHW{fs ls:List Nat}{k z:Nat}(hk:ls[k]?=some z):((fs++[z])++ls.eraseIdx k).Perm (fs++ls):=by
 rw[List.append_assoc]
 refine List.Perm.append_left fs ?_
 obtain⟨hk1,hk2⟩:=List.getElem?_eq_some_iff.mp hk
 rw[List.eraseIdx_eq_take_drop_succ]
 have e:ls=ls.take k++z::ls.drop (k+1):=by
  rw[← hk2,List.getElem_cons_drop,List.take_append_drop]
 conv=>rhs; rw[e]
 show (z::(ls.take k++ls.drop (k+1))).Perm _
 exact List.perm_middle.symm
theorem zI6{α β:Type}(f:α->β)(t:List α)(k:Nat):(t.map f).eraseIdx k=(t.eraseIdx k).map f:=by
 rw[List.eraseIdx_eq_take_drop_succ,List.eraseIdx_eq_take_drop_succ]; simp
theorem zDb:∀ t:List Nat,atomsOf (tvT t)=some (t.map fun (k:Nat)=>V.int (k:Int))
 | []=>rfl
 | k::r=>by simp only[tvT,List.map_cons,atomsOf]; rw[show atomsOf (r.map fun (k:Nat)=>iT (k:Int))=_ from zDb r]; rfl
theorem zGz(t:List Nat):(t.map fun (k:Nat)=>V.int (k:Int)).all flatV=true:=by simp[flatV]
theorem zGG{t:List Nat}{i:Nat}(h:i∈t):((t.map fun (k:Nat)=>V.int (k:Int)).findIdx? fun z=>eqV z (V.int (i:Int)))=some (t.idxOf i):=by
 have hlt:t.idxOf i < t.length:=List.idxOf_lt_length_iff.mpr h
 refine List.findIdx?_eq_some_iff_getElem.mpr ⟨by simpa using hlt,?_,fun j hj=>?_⟩
 ·simp[eqV]
 ·have hne:t[j]'(by omega)≠i:=fun e=>by
   have:=List.not_of_lt_findIdx (p:=(· == i)) (xs:=t) (show j < t.findIdx (· == i) from hj)
   simp[e]at this
  simp only[List.getElem_map,eqV]
  simpa using fun e=>hne (by exact_mod_cast e)
theorem zCZ(xs:List T)(n:Nat):cutT xs none (some (n:Int))=xs.take n:=by
 unfold cutT
 rw[HT.sIx_none,HT.sIx_nat,List.drop_zero,Nat.sub_zero]
 by_cases h:n<=xs.length
 ·rw[Nat.min_eq_left h]
 ·rw[Nat.min_eq_right (by omega),List.take_of_length_le (Nat.le_refl _),List.take_of_length_le (by omega)]
theorem zCe(xs:List T)(n:Nat):cutT xs (some (n:Int)) none=xs.drop n:=by
 unfold cutT
 rw[HT.sIx_none,HT.sIx_nat]
 by_cases h:n<=xs.length
 ·rw[Nat.min_eq_left h,List.take_of_length_le (by simp)]
 ·rw[Nat.min_eq_right (by omega),Nat.sub_self,List.take_zero,List.drop_eq_nil_of_le (by omega)]
theorem zBi(xs:List T)(m n:Nat):cutT xs (some (m:Int)) (some (n:Int))=(xs.drop m).take (n - m):=by
 unfold cutT
 rw[HT.sIx_nat,HT.sIx_nat]
 by_cases h:m<=xs.length
 ·rw[Nat.min_eq_left h]
  by_cases h2:n<=xs.length
  ·rw[Nat.min_eq_left h2]
  ·rw[Nat.min_eq_right (by omega),List.take_of_length_le (by simp),List.take_of_length_le (by simp; omega)]
 ·rw[show min m xs.length=xs.length from Nat.min_eq_right (by omega),List.drop_eq_nil_of_le (Nat.le_refl _),List.drop_eq_nil_of_le (show xs.length<=m by omega)]; simp
theorem zFk{t:List Nat}{i k:Nat}(h:t[i]?=some k):atI (tvT t) (i:Int)=some (iT (k:Int)):=by
 rw[zA2]; simp[h]
abbrev Stp:=Nat×List Nat×List Nat
@[simp] abbrev stT(s:Stp):T:=.t [iT (s.1:Int),tuT s.2.1,tuT s.2.2]
def StOk(n qs:Nat)(st:List Stp):Prop:=∀ s∈st,s.1 < qs/\IsT n s.2.1/\IsT n s.2.2
@[simp] abbrev prT(p:T×T):T:=.t [p.1,p.2]
def intsD(t:List Nat):List PyData:=t.map fun (k:Nat)=>PyData.int (k:Int)
theorem zDG:∀ t:List Nat,toDs (tvT t)=some (intsD t)
 | []=>by simp[toDs,intsD]
 | k::r=>by
  have:=zDG r
  simp only[tvT,iT,List.map_cons]at this ⊢
  rw[toDs,this]
  simp[toD,toDa,intsD]
theorem zBF:∀ t:List Nat,PyData.canLayAll0 (intsD t)=true
 | []=>by simp[intsD,PyData.canLayAll0]
 | k::r=>by
  have:=zBF r
  simp only[intsD,List.map_cons]at this ⊢
  simp[PyData.canLayAll0,PyData.canLay0,this]
theorem zBe:∀ t:List Nat,PyData.depthAll (intsD t)=0
 | []=>by simp[intsD,PyData.depthAll]
 | k::r=>by
  have:=zBe r
  simp only[intsD,List.map_cons]at this ⊢
  simp[PyData.depthAll,PyData.depth,this]
end D
namespace L2
open PySem PySem.Spec PyProof.Rows
section
variable {X:Cx}{pins:List (Addr×Obj)}{s:Shared}{σ:St}{H:Hp}{p:Addr}{vs:List V}
theorem zF2{Q:Value->Shared->Prop}{E:Value->Shared->Prop}(hc:X.calm=true)(I:Inv X pins σ H s)(hq:SqL X.K H p vs\/SqT X.K H p vs)
  (h:∀ (its:List Value) (o:Obj) (St:Nat->Heap->Prop),Vals vs its->Walks X.prog X.w X.A.in1 s.heap.objs.size [s.heap.objs.size,p] [s.heap.objs.size] its.length (fun i v=>its[i]?=some v) St ->
   St 0 (s.heap.push o)->p < s.heap.objs.size->Q (.ref s.heap.objs.size) { s with heap:=s.heap.push o }):wpAny (model X.prog X.w) X.A.in1 (pyIter (.ref p)) Q E s:=by
 rcases hq with hq | hq
 ·obtain⟨its,rv,pl,hz⟩:=I.list hq
  have hl:=pl.isList
  have hlt:p < s.heap.objs.size:=by obtain⟨_,e,_⟩:=hl; exact Heap.lt_size e
  refine wpAny_pyIter_list hl ?_
  have W:=Walks.list (prog:=X.prog) (w:=X.w) (A:=X.A.in1) (I.ok.hd hc) s.heap.objs.size p (Nat.ne_of_lt hlt) its.toArray
  have W':Walks X.prog X.w X.A.in1 s.heap.objs.size [s.heap.objs.size,p] [s.heap.objs.size] its.length (fun i v=>its[i]?=some v) (fun i h=>h.IsListIter s.heap.objs.size p i/\h.IsList p its.toArray):=by simpa using W
  exact h its _ _ rv W' ⟨⟨_,Heap.get?_push_size _ rfl,rfl,rfl⟩,hl.push _⟩ hlt
 ·obtain⟨its,rv,hl,hz⟩:=I.tuple hq
  have hlt:p < s.heap.objs.size:=by obtain⟨_,e,_⟩:=hl; exact Heap.lt_size e
  have hl':s.heap.IsTuple p its.toArray:=by obtain⟨o,e,c,n,d⟩:=hl; exact⟨o,e,c,n,d⟩
  refine wpAny_pyIter_tuple hl' ?_
  have W:=Walks.tuple (prog:=X.prog) (w:=X.w) (A:=X.A.in1) (I.ok.hd hc) s.heap.objs.size p (Nat.ne_of_lt hlt) its.toArray
  have W':Walks X.prog X.w X.A.in1 s.heap.objs.size [s.heap.objs.size,p] [s.heap.objs.size] its.length (fun i v=>its[i]?=some v) (fun i h=>h.IsTupleIter s.heap.objs.size p i/\h.IsTuple p its.toArray):=by simpa using W
  exact h its _ _ rv W' ⟨⟨_,Heap.get?_push_size _ rfl,rfl,rfl⟩,hl'.push _⟩ hlt
theorem zER{ns:List Int}:∀ {its:List Value},Vals (ns.map V.int) its->∀ (i:Nat) v,its[i]?=some v->∃ t,v=.int (ns.getD i 0) t:=by
 induction ns with
 | nil=>intro its h; cases h; intro i v e; simp at e
 | cons n r ih =>
  intro its h
  cases h with
  | cons h1 h2 =>
   intro i v e
   obtain⟨t,rfl⟩:=h1
   cases i with
   | zero=>simp at e; exact⟨t,e.symm⟩
   | succ i=>simpa using ih h2 i v (by simpa using e)
theorem zJS(hc:X.calm=true):CallR X (.builtin "sum") (fun xs H Q=>∃ (p:Addr) (ns:List Int),xs=[.ref p]/\(SqL X.K H p (ns.map V.int)\/SqT X.K H p (ns.map V.int))/\Q (.int ns.sum) H):=by
 intro pins s σ H xs us Q I r h
 obtain⟨p,ns,rfl,hq,q⟩:=h
 obtain⟨u,rfl,rx⟩:=vals1 r
 cases rx
 refine call_sum_walkG (zF2 hc I hq fun its o St rv W st0 hlt=>?_)
 refine⟨_,_,_,_,_,_,fun i=>ns.getD i 0,rfl,W,st0,fun b hb=>?_,zER rv,fun h' tk t' hk=>?_⟩
 ·rw[Heap.size_push]
  simp only[List.mem_cons,List.not_mem_nil,or_false]at hb
  rcases hb with rfl | rfl
  ·exact Nat.lt_succ_self _
  ·exact Nat.lt_succ_of_lt hlt
 ·have hl:=rv.length
  rw[preSum_getD,List.take_of_length_le (by rw[← hl]; simp)]
  exact⟨.int ns.sum,H,I.kept (LSm.kept_iter hk),⟨_,rfl⟩,q⟩
def minI:List Int->Int
 | []=>0
 | x::r=>r.foldl (fun a b=>if b < a then b else a) x
theorem zEw:∀ (r:List Int) (x:Int),(r.foldl (fun a b=>if b < a then b else a) x∈x::r)/\∀ y∈x::r,r.foldl (fun a b=>if b < a then b else a) x<=y
 | [],x=>by simp
 | z::r,x=>by
  obtain⟨h1,h2⟩:=zEw r (if z < x then z else x)
  rw[List.foldl_cons]
  refine⟨?_,fun y hy=>?_⟩
  ·rcases List.mem_cons.mp h1 with e | e
   ·rw[e]; split <;> simp
   ·simp[e]
  ·have h0:=h2 _ List.mem_cons_self
   rcases List.mem_cons.mp hy with e | e
   ·subst e; split at h0 <;> (split <;> omega)
   ·rcases List.mem_cons.mp e with e | e
    ·subst e; split at h0 <;> (split <;> omega)
    ·exact h2 y (List.mem_cons_of_mem _ e)
theorem zF6(val:Nat->Int):∀ k,argBest (fun i j=>decide (val i < val j)) k<=k/\∀ j,j<=k->val (argBest (fun i j=>decide (val i < val j)) k)<=val j
 | 0=>⟨Nat.le_refl _,fun j hj=>by rw[Nat.le_zero.mp hj]; exact Int.le_refl _⟩
 | k+1=>by
  obtain⟨h1,h2⟩:=zF6 val k
  unfold argBest
  split
  ·rename_i h; simp at h
   refine⟨Nat.le_refl _,fun j hj=>?_⟩
   by_cases e:j=k+1
   ·rw[e]; exact Int.le_refl _
   ·have:=h2 j (by omega); omega
  ·rename_i h; simp at h
   refine⟨by omega,fun j hj=>?_⟩
   by_cases e:j=k+1
   ·rw[e]; exact h
   ·exact h2 j (by omega)
theorem zI7{ns:List Int}{i:Nat}(h:i < ns.length):ns.getD i 0∈ns:=by
 rw[List.getD_eq_getElem?_getD,List.getElem?_eq_getElem h]; exact List.getElem_mem h
theorem zJl{ns:List Int}{a:Int}(h:a∈ns):∃ i,i < ns.length/\ns.getD i 0=a:=by
 obtain⟨i,hi,e⟩:=List.getElem_of_mem h
 exact⟨i,hi,by rw[List.getD_eq_getElem?_getD,List.getElem?_eq_getElem hi,e]; rfl⟩
theorem zKA(hc:X.calm=true):CallR X (.builtin "min") (fun xs H Q=>∃ (p:Addr) (ns:List Int),xs=[.ref p]/\(SqL X.K H p (ns.map V.int)\/SqT X.K H p (ns.map V.int))/\0 < ns.length/\Q (.int (minI ns)) H):=by
 intro pins s σ H xs us Q I r h
 obtain⟨p,ns,rfl,hq,h0,q⟩:=h
 obtain⟨u,rfl,rx⟩:=vals1 r
 cases rx
 refine call_min_walk (zF2 hc I hq fun its o St rv W st0 hlt=>?_)
 have hl:=rv.length
 rw[List.length_map]at hl
 refine⟨_,_,_,_,_,_,_,rfl,W,st0,fun b hb=>?_,by omega,CmpOf.ints_lt (fun i=>ns.getD i 0) (zER rv),fun v h' tk hv hk=>?_⟩
 ·rw[Heap.size_push]
  simp only[List.mem_cons,List.not_mem_nil,or_false]at hb
  rcases hb with rfl | rfl
  ·exact Nat.lt_succ_self _
  ·exact Nat.lt_succ_of_lt hlt
 ·obtain⟨t,rfl⟩:=zER rv _ _ hv
  obtain⟨b1,b2⟩:=zF6 (fun i=>ns.getD i 0) (its.length - 1)
  refine⟨.int (minI ns),H,I.kept (LSm.kept_iter hk),?_,q⟩
  have e:ns.getD (argBest (fun i j=>decide (ns.getD i 0 < ns.getD j 0)) (its.length - 1)) 0=minI ns:=by
   cases ns with
   | nil=>simp at h0
   | cons x r =>
    obtain⟨m1,m2⟩:=zEw r x
    have a1:=m2 _ (zI7 (ns:=x::r) (i:=argBest (fun i j=>decide ((x::r).getD i 0 < (x::r).getD j 0)) (its.length - 1)) (by omega))
    obtain⟨j,hj,ej⟩:=zJl m1
    have a2:=b2 j (by omega)
    show _=r.foldl (fun a b=>if b < a then b else a) x
    rw[ej]at a2
    exact Int.le_antisymm a2 a1
  exact⟨t,by rw[e]⟩
end
end L2
namespace D
open PySem L2
def sumS:En->List S->Option S:=fun Γ as=>match as with
 | [a]=>(seqS Γ a).bind fun xs=>(intsOf xs).map fun ns=>.v (.a (.int ns.sum))
 | _=>none
def min1S:En->List S->Option S:=fun Γ as=>match as with
 | [a]=>(seqS Γ a).bind fun xs=>(intsOf xs).bind fun ns=>if 0 < ns.length then some (.v (.a (.int (minI ns)))) else none
 | _=>none
theorem zFj{K:Fg}{C:Fr}{w:W}{Γ:En}{σ:St}{H:Hp}{x:V}{s:S}{xs:List T}{ns:List Int}(R:Rep K C w Γ σ H)(o:SOk K C w σ H x s)(e:seqS Γ s=some xs)(e2:intsOf xs=some ns) :
  ∃ p,x=.ref p/\(SqL K H p (ns.map V.int)\/SqT K H p (ns.map V.int)):=by
 obtain⟨p,us,rfl,h1,i1⟩:=zDk R o e
 have hu:us=ns.map V.int:=by rw[zC1 e2]at i1; exact i1.of_atoms
 subst hu
 exact⟨p,rfl,h1⟩
theorem zJA{K:Fg}:SimRs K (fun xs H Q=>∃ (p:Addr) (ns:List Int),xs=[.ref p]/\(SqL K H p (ns.map V.int)\/SqT K H p (ns.map V.int))/\Q (.int ns.sum) H) sumS:=by
 intro C w Γ σ H vs as s Q R o e k
 unfold sumS at e
 split at e
 ·obtain⟨xs,e1,e⟩:=bind_some e
  obtain⟨ns,e2,e⟩:=zAH e
  cases e
  obtain⟨v,rfl,o1⟩:=soks1 o
  obtain⟨p,rfl,h⟩:=zFj R o1 e1 e2
  exact⟨p,ns,rfl,h,k _ H R .refl SOk.atom trivial⟩
 ·cases e
theorem zIG{K:Fg}:SimRs K (fun xs H Q=>∃ (p:Addr) (ns:List Int),xs=[.ref p]/\(SqL K H p (ns.map V.int)\/SqT K H p (ns.map V.int))/\0 < ns.length/\Q (.int (minI ns)) H) min1S:=by
 intro C w Γ σ H vs as s Q R o e k
 unfold min1S at e
 split at e
 ·obtain⟨xs,e1,e⟩:=bind_some e
  obtain⟨ns,e2,e⟩:=bind_some e
  split at e
  ·cases e
   obtain⟨v,rfl,o1⟩:=soks1 o
   obtain⟨p,rfl,h⟩:=zFj R o1 e1 e2
   exact⟨p,ns,rfl,h,by assumption,k _ H R .refl SOk.atom trivial⟩
  ·cases e
 ·cases e
section
variable {ι:Type}{K:Fg}{X:ι->Cx}{mg:Str->Option Value}{k:Nat}
theorem zOU(M:Fm K mg k X):CalR K X (.builtin "sum") sumS:=⟨_,fun j=>by have:=zJS (M.calm j); rw[M.K j]at this; exact this,zJA⟩
theorem zMW(M:Fm K mg k X):CalR K X (.builtin "min") min1S:=⟨_,fun j=>by have:=zKA (M.calm j); rw[M.K j]at this; exact this,zIG⟩
end
def dK(t:T):DE:=fun Γ=>some (.v t,Γ)
def KV(K:Fg)(mg:Str->Option Value)(x:Str)(t:T):Prop:=∃ v u,mg x=some u/\RelV v u/\∀ H:Hp,Im K H v t
section
variable {ι:Type}{K:Fg}{X:ι->Cx}{mg:Str->Option Value}{k:Nat}{pos:Pos}{x:Str}{t:T}
theorem zP0{v:V}(h:∀ H:Hp,Im K H v t):SimE K (tC v) (dK t):=by
 intro C w Γ σ H s Γ' Q R e k
 cases e
 exact k v H R .refl (h H) trivial
theorem ex_k(t:T)(M:Fm K mg k X)(c:KV K mg x t)(hg:∀ j,Gl (X j) x:=by intro _; rfl)(hd:(x == ("__debug__":Str))=false:=by decide):EX K X (.Name x pos) (dK t) :=
 let ⟨v,u,h1,h2,h3⟩:=c
 ⟨tC v,fun j=>zHC (hg j) (by rw[M.mg]; exact h1) h2 hd,zP0 h3⟩
end
theorem zHO{K:Fg}{mg:Str->Option Value}{x:Str}{p:Addr}{its:List Value}{n:Nat}{sl:Array (Option Value)}(ns:List Int)(h1:mg x=some (.ref p))(h2:K.lookup p=some ⟨.type "tuple",none,.seq its.toArray n,sl⟩)(h3:Vals (ns.map V.int) its)(h4:its.length<=sizeLine)(h5:cOk (ns.map V.int)=true:=by rfl):KV K mg x (.t ((ns.map V.int).map T.a)) :=
 ⟨.ref p,.ref p,h1,rfl,fun H=>by unfold Im; exact⟨p,ns.map V.int,rfl,.inr ⟨_,its.toArray,n,h2,rfl,rfl,rfl,by simpa using h4,by simpa using h3,h5⟩,Ims.atoms _⟩⟩
end D
namespace L2
open PySem PySem.Spec PyProof.Rows
theorem zBR:fillsNumberSlot (.type "tuple") "mul"=pure false :=
 PySem.fillsNumberSlot_seq (id:="tuple.__mul__") (r:=some (.builtin "tuple.__rmul__")) F.slot_tuple_mul.lookup (by decide +kernel) F.slot_tuple_rmul.lookup (by decide +kernel)
theorem zCG:seqRepeat? (.type "tuple")=pure (some (.builtin "tuple.__mul__")):=by
 unfold seqRepeat?
 rw[PySem.seqSlot_of (T:="tuple") (name:="__mul__") (id:="tuple.__mul__") F.slot_tuple_mul.lookup (by decide +kernel),PySem.seqSlot_of (T:="tuple") (name:="__rmul__") (id:="tuple.__rmul__") F.slot_tuple_rmul.lookup (by decide +kernel)]
 rfl
theorem zEN(a:Int)(t:Tok)(l:Addr)(items:Array Value)(n:Nat)(dd:Option Addr)(sl:Array (Option Value)) :
  Meets (Builtin.«int.__rmul__» ⟨[.int a t,.ref l],[]⟩) (fun _ R s=>s.heap.get? l=some { cls:=.type "tuple",dict:=dd,data:=.seq items n,slots:=sl }/\R (.ok (.ret Value.notImplemented)) s) :=
 .of_wp fun prog w A R s h=>by obtain⟨hp,g,d,tk,os⟩:=s; obtain⟨hl,h⟩:=h; wp_walk; exact⟨_,rfl,h⟩
end L2
namespace D
open PySem L2
open PySem.SeqAt
end D
namespace L2
open PySem PySem.Spec PyProof.Rows
def Itzm(b b2:Bool)(K:PySem.W.Frag)(a1 a2:Addr):It :=
 ⟨fun i H=>∃ xs ys x y,Sq b K H a1 xs/\Sq b2 K H a2 ys/\xs[i]?=some x/\ys[i]?=some y,
  fun i H v H'=>∃ T x y,v=.ref T/\H T=none/\H'=upd H T (.tup [x,y])/\(∀ xs,Sq b K H a1 xs->xs[i]?=some x)/\∀ ys,Sq b2 K H a2 ys->ys[i]?=some y,
  fun i H=>∃ xs ys,Sq b K H a1 xs/\Sq b2 K H a2 ys/\(xs.length<=i\/ys.length<=i)⟩
structure ZTnm(b b2:Bool)(z TI TO i1 i2 a1 a2:Addr)(k:Nat)(h:Heap):Prop where
 z:IsZip h z TI TO .none
 ti:IsPair h TI (.ref i1) (.ref i2)
 to:∃ a b,IsPair h TO a b
 s1:SIt b i1 a1 k h
 s2:SIt b2 i2 a2 k h
theorem zJW{P:Program}{w:World}{K:PySem.W.Frag}{elts:List Expr}{x1:Nat}{tp:Pos}(b b2:Bool){z TI TO i1 i2 a1 a2:Addr}(D:ZAp z TI TO i1 i2 a1 a2) :
  Turn P w K (.Tuple elts x1 tp) (Itzm b b2 K a1 a2) [z,TI,TO,i1,i2] z (ZTnm b b2 z TI TO i1 i2 a1 a2) where
 mem:=by simp
 obj:=fun i h st c hc=>by
  simp only[List.mem_cons,List.not_mem_nil,or_false]at hc
  rcases hc with e | e | e | e | e
  ·exact⟨_,e ▸ st.z,fun v z=>by cases z⟩
  ·exact⟨_,e ▸ st.ti,fun v z=>by cases z⟩
  ·obtain⟨a,b,q⟩:=st.to; exact⟨_,e ▸ q,fun v z=>by cases z⟩
  ·obtain⟨o,q,d⟩:=st.s1.live; exact⟨o,e ▸ q,d⟩
  ·obtain⟨o,q,d⟩:=st.s2.live; exact⟨o,e ▸ q,d⟩
 keep:=fun i h h' st k=>⟨k z (by simp) _ st.z,k TI (by simp) _ st.ti,(let ⟨a,b,q⟩:=st.to; ⟨a,b,k TO (by simp) _ q⟩),st.s1.keep fun o e=>k i1 (by simp) o e,st.s2.keep fun o e=>k i2 (by simp) o e⟩
 item:=by
  intro X hP hw hK hc i pins s σ H E I hf st hg
  subst hP hw hK
  obtain⟨xs,ys,x,y,h1,h2,hx,hy⟩:=hg
  obtain⟨its1,v1,o1,z1⟩:=I.sq h1
  obtain⟨its2,v2,o2,z2⟩:=I.sq h2
  obtain⟨u1,e1,r1⟩:=v1.get hx
  obtain⟨u2,e2,r2⟩:=v2.get hy
  have hT:s.TypeIs (.ref z) "zip":=⟨_,st.z,rfl⟩
  have nH:∀ c∈[z,TI,TO,i1,i2],H c=none:=fun c hc=>(hf c hc).1
  unfold pyNext
  refine wpAny_bind (wpAny_attempt (wpAny_callSpecial?_slot (name:=Str.ofString "__next__") hT F.slot_zip_next (wpAny_call_entry F.slot_zip_next hT F.entry_zip_next
   (zEC D (zBX b i1 a1 its1.toArray D.a.l1i1) (zBX b2 i2 a2 its2.toArray D.a.l2i2) ⟨st.z,st.ti,st.to,⟨st.s1,o1⟩,⟨st.s2,o2⟩⟩ (by simpa using e1) (by simpa using e2) fun h' st' hp hk=>wpAny_pure ?_) (F.args_zip_next_1 _))))
  refine⟨_,rfl,?_⟩
  have fT:H s.heap.objs.size=none:=I.hok.fresh (Nat.le_refl _)
  have hk':∀ c o,c∉[z,TO,i1,i2]->s.heap.get? c=some o->h'.get? c=some o:=fun c o hc e=>by
   simp only[List.mem_cons,List.not_mem_nil,or_false,not_or]at hc
   exact hk c o hc.1 hc.2.1 hc.2.2.1 hc.2.2.2 e
  have sub:∀ c∈[z,TO,i1,i2],c∈[z,TI,TO,i1,i2]:=fun c hc=>by
   simp only[List.mem_cons,List.not_mem_nil,or_false]at hc ⊢
   rcases hc with e | e | e | e <;> simp[e]
  have trk:∀ c u,H c=some u->c∉[z,TO,i1,i2]:=fun c u e hc=>by rw[nH c (sub c hc)]at e; cases e
  have nT:∀ c o,s.heap.get? c=some o->c≠s.heap.objs.size:=fun c o e=>Nat.ne_of_lt (Heap.lt_size e)
  have hok1:HOk X.prog X.w H h':=fun c u e=>(I.hok c u e).stay (fun d v hd q=>hk' d v (by
   rcases hd with rfl | hd
   ·exact trk d u e
   ·exact trk d _ hd) q) (fun _ q=>q) fun _ _ q=>q
  have I1:Inv X pins σ (upd H s.heap.objs.size (.tup [x,y])) { s with heap:=h',toks:=s.toks }:=by
   refine I.step (g':=s.gens) (d':=s.drawn) (t':=s.toks) (ch:=[z,TO,i1,i2]) (fun c hc=>?_) (fun c o _ _ hc e _=>hk' c o hc e) (fun c o _ _ hc e _=>⟨o.slots,hk' c o hc e⟩)
    (fun c o _ e n=>by rw[zAK (nT c o e)]; exact n) (fun c o hc e=>⟨o,hk' c o hc e⟩) (fun c xs e=>by rw[zAK (zAV e fT)]; exact e) (fun c o u e=>by rw[zAK (zAV e fT)]; exact e)
    (fun c ps e=>⟨#[],by rw[zAK (zAV e fT),e]; simp⟩) (fun m hm=>?_) (hok1.adopt fT ⟨by show 2<=sizeLine; decide,[u1,u2],.cons r1 (.cons r2 .nil),_,hp,rfl,⟨0,rfl⟩,rfl⟩) I.bare
   ·obtain⟨_,f1,f2,f3,f4,f5⟩:=hf c (sub c hc); exact⟨f3,f1,f4,f5⟩
   ·obtain⟨o,es,ep,ho,r⟩:=hm
    exact⟨o,es,ep,hk' _ o (fun hc=>(hf _ (sub _ hc)).2.1 rfl) ho,r⟩
  refine wpAny_letOwnedTupleGo_zip st'.z fun h9 hz2 hs2=>?_
  obtain⟨_,f1,f2,f3,f4,f5⟩:=hf z (by simp)
  have nz:upd H s.heap.objs.size (.tup [x,y]) z=none:=by rw[zAK (nT z _ st.z)]; exact nH z (by simp)
  have I2:Inv X pins σ (upd H s.heap.objs.size (.tup [x,y])) { s with heap:=h9,toks:=s.toks }:=by
   have q:=I1.turned (h':=h9) (t':=s.toks) (it:=z) (fun c o hc e=>(hs2.2 c hc).trans e) nz f1 f3 f4 f5
   exact q
  refine⟨.ref s.heap.objs.size,_,I2,rfl,⟨s.heap.objs.size,x,y,rfl,fT,rfl,fun xs' q=>by rw[I.sq_inj q h1]; exact hx,fun ys' q=>by rw[I.sq_inj q h2]; exact hy⟩,?_,fun c hc=>?_⟩
  ·have up:∀ c o,c≠z->h'.get? c=some o->h9.get? c=some o:=fun c o hc e=>(hs2.2 c hc).trans e
   exact⟨hz2,up _ _ D.a.TIz st'.ti,(let ⟨a,b,q⟩:=st'.to; ⟨a,b,up _ _ D.a.TOz q⟩),st'.s1.1.keep fun o e=>up _ o D.a.i1z e,st'.s2.1.keep fun o e=>up _ o D.a.i2z e⟩
  ·obtain⟨o,e,_⟩:∃ o,s.heap.get? c=some o/\True:=by
    simp only[List.mem_cons,List.not_mem_nil,or_false]at hc
    rcases hc with e | e | e | e | e
    ·exact⟨_,e ▸ st.z,trivial⟩
    ·exact⟨_,e ▸ st.ti,trivial⟩
    ·obtain⟨a,b,q⟩:=st.to; exact⟨_,e ▸ q,trivial⟩
    ·obtain⟨o,q,d⟩:=st.s1.live; exact⟨o,e ▸ q,trivial⟩
    ·obtain⟨o,q,d⟩:=st.s2.live; exact⟨o,e ▸ q,trivial⟩
   rw[zAK (nT c o e)]; exact nH c hc
 done:=by
  intro X hP hw hK hc i pins s σ H E I hf st hg
  subst hP hw hK
  obtain⟨xs,ys,h1,h2,hl⟩:=hg
  obtain⟨its1,v1,o1,z1⟩:=I.sq h1
  obtain⟨its2,v2,o2,z2⟩:=I.sq h2
  have l1:=v1.length
  have l2:=v2.length
  have hT:s.TypeIs (.ref z) "zip":=⟨_,st.z,rfl⟩
  unfold pyNext
  refine wpAny_bind (wpAny_attempt (wpAny_callSpecial?_slot (name:=Str.ofString "__next__") hT F.slot_zip_next (wpAny_call_entry F.slot_zip_next hT F.entry_zip_next
   (zEt (I.ok.hd hc) D (zBX b i1 a1 its1.toArray D.a.l1i1) (zBX b2 i2 a2 its2.toArray D.a.l2i2) ⟨st.z,st.ti,st.to,⟨st.s1,o1⟩,⟨st.s2,o2⟩⟩
    (hl.imp (fun q=>by simp; omega) fun q=>by simp; omega) fun h' e hk he=>?_) (F.args_zip_next_1 _))))
  obtain⟨o,ho,hcl⟩:=he
  refine wpAny_bind (wpAny_isInstance (T:="StopIteration") (b:=true) ⟨o,ho,hcl⟩ isSubtype_stop (wpAny_pure ⟨rfl,?_⟩))
  have hk':∀ c o,c∉[z,TO,i1,i2]->s.heap.get? c=some o->h'.get? c=some o:=fun c o hc e=>by
   simp only[List.mem_cons,List.not_mem_nil,or_false,not_or]at hc
   exact hk c o hc.1 hc.2.1 hc.2.2.1 hc.2.2.2 e
  have sub:∀ c∈[z,TO,i1,i2],c∈[z,TI,TO,i1,i2]:=fun c hc=>by
   simp only[List.mem_cons,List.not_mem_nil,or_false]at hc ⊢
   rcases hc with e | e | e | e <;> simp[e]
  have trk:∀ c u,H c=some u->c∉[z,TO,i1,i2]:=fun c u e hc=>by rw[(hf c (sub c hc)).1]at e; cases e
  refine I.step (g':=s.gens) (d':=s.drawn) (t':=s.toks) (ch:=[z,TO,i1,i2]) (fun c hc=>?_) (fun c o _ _ hc e _=>hk' c o hc e) (fun c o _ _ hc e _=>⟨o.slots,hk' c o hc e⟩)
   (fun c o _ e n=>n) (fun c o hc e=>⟨o,hk' c o hc e⟩) (fun c xs e=>e) (fun c o u e=>e) (fun c ps e=>⟨#[],by rw[e]; simp⟩) (fun m hm=>?_) (fun c u e=>(I.hok c u e).stay (fun d v hd q=>hk' d v (by
    rcases hd with rfl | hd
    ·exact trk d u e
    ·exact trk d _ hd) q) (fun _ q=>q) fun _ _ q=>q) I.bare
  ·obtain⟨_,f1,f2,f3,f4,f5⟩:=hf c (sub c hc); exact⟨f3,f1,f4,f5⟩
  ·obtain⟨o,es,ep,ho,r⟩:=hm
   exact⟨o,es,ep,hk' _ o (fun hc=>(hf _ (sub _ hc)).2.1 rfl) ho,r⟩
 self:=fun _ _ _ _ _ st h=>wpAny_pyIter_zip st.z h
section
variable {prog:Program}{w:World}{A:Around}{E:Value->Shared->Prop}{s:Shared}
abbrev zM1(h:Heap)(l1:Addr):Heap:=h.push { cls:=.type "list_iterator",data:=.fields #[.ref l1,.int 0 0] }
abbrev zM2(h:Heap)(l1 l2:Addr):Heap:=(zM1 h l1).push { cls:=.type "tuple_iterator",data:=.fields #[.ref l2,.int 0 0] }
abbrev zM3(h:Heap)(l1 l2:Addr):Heap:=(zM2 h l1 l2).push { cls:=.type "tuple",data:=.seq #[.ref h.objs.size,.ref (zM1 h l1).objs.size] }
abbrev zM4(h:Heap)(l1 l2:Addr):Heap:=(zM3 h l1 l2).push { cls:=.type "tuple",data:=.seq #[.none,.none] }
abbrev zM5(h:Heap)(l1 l2:Addr):Heap:=(zM4 h l1 l2).push { cls:=.type "zip",data:=.fields #[.none,.bool false,.bool false,.ref (zM2 h l1 l2).objs.size,.ref (zM3 h l1 l2).objs.size] }
theorem zHY(l1 l2:Addr)(xs ys:Array Value) :
  Meets (Builtin.«zip.__new__» ⟨[.type "zip",.ref l1,.ref l2],[]⟩) (fun _ R s=>s.heap.IsList l1 xs/\s.heap.IsTuple l2 ys/\R (.ok (.ret (.ref (zM4 s.heap l1 l2).objs.size))) { s with heap:=zM5 s.heap l1 l2 }) :=
 .of_wp fun prog w A R s h=>by
  obtain⟨hp,g,d,tk,os⟩:=s; obtain⟨hl1,hl2,h⟩:=h
  have sub0:=sub_zip
  have T1:Heap.IsList (Shared.heap ⟨hp,g,d,tk,os⟩) l1 xs:=hl1
  have T2:Heap.IsTuple (Shared.heap ⟨hp.push { cls:=.type "list_iterator",data:=.fields #[.ref l1,.int 0 0] },g,d,tk,os⟩) l2 ys:=Heap.IsTuple.push hl2 _
  wp_walk using wpAny_pyIter_list T1,wpAny_pyIter_tuple T2
  exact⟨_,rfl,h⟩
theorem zJ4{l1 l2:Addr}{xs ys:Array Value}{Q:Value->Shared->Prop}(hl1:s.heap.IsList l1 xs)(hl2:s.heap.IsTuple l2 ys)
  (h:∀ h',ZTnm false true (s.heap.objs.size+4) (s.heap.objs.size+2) (s.heap.objs.size+3) s.heap.objs.size (s.heap.objs.size+1) l1 l2 0 h'->(∀ c o,s.heap.get? c=some o->h'.get? c=some o)->Q (.ref (s.heap.objs.size+4)) { s with heap:=h' }) :
  wpAny (model prog w) A (call (.type "zip") [.ref l1,.ref l2]) Q E s:=by
 refine callType_new F.called_zip (by decide) (F.typeCall_zip_2 _ _) (F.newCall_zip_2 _ _) (fun obj=>F.args_object_init_3 obj _ _) F.entry_zip_new (zHY l1 l2 xs ys) ⟨hl1,hl2,?_⟩
 have z1:(zM1 s.heap l1).objs.size=s.heap.objs.size+1:=Heap.size_push ..
 have z2:(zM2 s.heap l1 l2).objs.size=s.heap.objs.size+2:=by rw[Heap.size_push,z1]
 have z3:(zM3 s.heap l1 l2).objs.size=s.heap.objs.size+3:=by rw[Heap.size_push,z2]
 have z4:(zM4 s.heap l1 l2).objs.size=s.heap.objs.size+4:=by rw[Heap.size_push,z3]
 have up:∀ c o,(zM4 s.heap l1 l2).get? c=some o->(zM5 s.heap l1 l2).get? c=some o:=fun c o e=>Heap.get?_push_of_some _ e
 have g5:(zM5 s.heap l1 l2).get? (zM4 s.heap l1 l2).objs.size=some _:=Heap.get?_push_size _ rfl
 have g4:(zM5 s.heap l1 l2).get? (zM3 s.heap l1 l2).objs.size=some _:=up _ _ (Heap.get?_push_size _ rfl)
 have g3:(zM5 s.heap l1 l2).get? (zM2 s.heap l1 l2).objs.size=some _:=up _ _ (Heap.get?_push_of_some _ (Heap.get?_push_size _ rfl))
 have g2:(zM5 s.heap l1 l2).get? (zM1 s.heap l1).objs.size=some _:=up _ _ (Heap.get?_push_of_some _ (Heap.get?_push_of_some _ (Heap.get?_push_size _ rfl)))
 have g1:(zM5 s.heap l1 l2).get? s.heap.objs.size=some _:=up _ _ (Heap.get?_push_of_some _ (Heap.get?_push_of_some _ (Heap.get?_push_of_some _ (Heap.get?_push_size _ rfl))))
 show _/\_
 rw[z2,z3,z4]at g5
 rw[z1,z2]at g3
 rw[z3]at g4
 rw[z1]at g2
 rw[z4]
 exact⟨⟨_,g5,rfl⟩,h _ ⟨g5,g3,⟨_,_,g4⟩,⟨_,g1,rfl,rfl⟩,⟨_,g2,rfl,rfl⟩⟩ fun c o x=>up _ _ (Heap.get?_push_of_some _ (Heap.get?_push_of_some _ (Heap.get?_push_of_some _ (Heap.get?_push_of_some _ x))))⟩
end
section
variable {X:Cx}{elts:List Expr}{x1:Nat}{tp:Pos}
def iZipM(K:PySem.W.Frag)(ta:TA):TI:=fun σ H R=>ta σ H fun vs H1=>∃ (a1 a2:Addr),vs=[.ref a1,.ref a2]/\(∃ xs,Sq false K H1 a1 xs)/\(∃ ys,Sq true K H1 a2 ys)/\R (Itzm false true K a1 a2) H1
theorem zNC{e1 e2:Expr}{ta:TA}{p pos:Pos}(hg:Gl X "zip")(hm:X.mg "zip"=none)(ha:PA X [e1,e2] ta)(hs:starEach [e1,e2] X.env=[(false,eval e1 X.env),(false,eval e2 X.env)]:=by rfl)(hs2:starEach [e2] X.env=[(false,eval e2 X.env)]:=by rfl) :
  PI X (.Tuple elts x1 tp) (.Call (.Name "zip" p) [e1,e2] [] pos) (iZipM X.K ta):=by
 intro pins s σ H R I h
 refine Call_ (zBE I hg hm boot_zip (PyProof.Rows.callWith_type1 (thn (ha pos pins s σ H _ I h) fun us s1 ⟨vs,H1,I1,r1,q1⟩=>?_) (by rw[hs,hs2]) (by rw[hs2]; rfl)))
 obtain⟨a1,a2,e,⟨xs,h1⟩,⟨ys,h2⟩,q⟩:=q1
 subst e
 obtain⟨u1,u2,e,r,r'⟩:=vals2 r1
 subst e
 cases r; cases r'
 obtain⟨its1,v1,o1,z1⟩:=I1.sq h1
 obtain⟨its2,v2,o2,z2⟩:=I1.sq h2
 have lt1:a1 < s1.heap.objs.size:=by obtain⟨o,e,_⟩:=(show s1.heap.IsList a1 its1.toArray from o1); exact Heap.lt_size e
 have lt2:a2 < s1.heap.objs.size:=by obtain⟨o,e,_⟩:=(show s1.heap.IsTuple a2 its2.toArray from o2); exact Heap.lt_size e
 have D:ZAp (s1.heap.objs.size+4) (s1.heap.objs.size+2) (s1.heap.objs.size+3) s1.heap.objs.size (s1.heap.objs.size+1) a1 a2 :=
  ⟨zipApart_new lt1 lt2,Nat.ne_of_lt (Nat.lt_of_lt_of_le lt1 (Nat.le_add_right _ 2)),Nat.ne_of_lt (Nat.lt_of_lt_of_le lt2 (Nat.le_add_right _ 2))⟩
 have fin:∀ h',ZTnm false true (s1.heap.objs.size+4) (s1.heap.objs.size+2) (s1.heap.objs.size+3) s1.heap.objs.size (s1.heap.objs.size+1) a1 a2 0 h'->(∀ c o,s1.heap.get? c=some o->h'.get? c=some o) ->
   wpAny (model X.prog X.w) X.A (pyIter (.ref (s1.heap.objs.size+4))) (PIE X pins σ (.Tuple elts x1 tp) R) X.xe { s1 with heap:=h' }:=fun h' st hk=>by
  refine wpAny_pyIter_zip st.z ?_
  refine⟨_,_,_,_,H1,rfl,I1.kept (t':=s1.toks) hk,zJW false true D,st,fun c hc=>?_,q⟩
  have hc':s1.heap.objs.size<=c:=by
   simp only[List.mem_cons,List.not_mem_nil,or_false]at hc
   rcases hc with e | e | e | e | e <;> (rw[e]) <;> first | exact Nat.le_refl _ | exact Nat.le_add_right _ _
  exact I1.fpOk hc' (I1.hok.fresh hc')
 exact zJ4 o1 o2 fin
end
end L2
namespace D
open PySem L2
theorem zMj{K:Fg}{b b2:Bool}{a1 a2:Addr}{vs us:List V}{xs ys:List T}{H2:Hp}(h1:Sq b K H2 a1 vs)(h2:Sq b2 K H2 a2 us)(i1:Ims K H2 vs xs)(i2:Ims K H2 us ys) :
  (∀ (i:Nat) t,(zipT xs ys)[i]?=some t->(Itzm b b2 K a1 a2).go i H2/\∀ x H3,(Itzm b b2 K a1 a2).yld i H2 x H3->(∀ b o,H2 b=some o->H3 b=some o)/\Im K H3 x t)/\(Itzm b b2 K a1 a2).stop (zipT xs ys).length H2:=by
 refine⟨fun i t e=>?_,⟨vs,us,h1,h2,?_⟩⟩
 ·unfold zipT at e
  rw[List.getElem?_map]at e
  obtain⟨⟨t1,t2⟩,e1,e⟩:=zAH e
  subst e
  obtain⟨g1,g2⟩:=List.getElem?_zip_eq_some.mp e1
  obtain⟨v,e3,hv⟩:=i1.get g1
  obtain⟨u,e4,hu⟩:=i2.get g2
  refine⟨⟨vs,us,v,u,h1,h2,e3,e4⟩,fun x H3 y=>?_⟩
  obtain⟨T',x',y',rfl,hT,rfl,k1,k2⟩:=y
  have q1:=k1 vs h1
  have q2:=k2 us h2
  rw[e3]at q1; cases q1
  rw[e4]at q2; cases q2
  have ev:Evo [] H2 (upd H2 T' (.tup [v,u])):=Evo.new hT
  have hL:LL [] H2:=fun q hq=>nomatch hq
  refine⟨fun b o e=>ev b o e nofun,Im.tup zAg (.cons (hv.evo ev hL) (.one (hu.evo ev hL)))⟩
 ·have l1:=i1.len
  have l2:=i2.len
  simp[zipT]
  omega
def dZipM(fa:DA):DI:=fun Γ=>(fa Γ).bind fun p=>match p.1 with
 | [a,.v (.t ys)]=>(sqlOf p.2 a).bind fun xs=>gd xs.length ((zipT xs ys,srcS p.2 a),p.2)
 | _=>none
@[simp] theorem zQj{fa:DA}{Γ:En}:dZipM fa Γ=(fa Γ).bind fun p=>match p.1 with
 | [a,.v (.t ys)]=>(sqlOf p.2 a).bind fun xs=>gd xs.length ((zipT xs ys,srcS p.2 a),p.2)
 | _=>none:=(rfl)
theorem zIy{K:Fg}{ta:TA}{fa:DA}(ha:SimA K ta fa):SimI K (iZipM K ta) (dZipM fa):=by
 intro C w Γ σ H its src Γ' R Rp e k
 obtain⟨⟨as,G1⟩,e1,e⟩:=bind_some e
 dsimp only at e
 have zl:∀ xs ys:List T,(zipT xs ys).length<=xs.length:=fun xs ys=>by simp[zipT]; omega
 split at e
 ·rename_i a ys
  obtain⟨xs,e2,e⟩:=bind_some e
  obtain⟨hz,e⟩:=zBP e
  cases e
  refine ha C w Γ σ H _ _ _ Rp e1 fun vs H1 R1 ev1 o1 n1=>?_
  obtain⟨v,u,rfl,o2,o3⟩:=soks2 o1
  obtain⟨p,vs,rfl,h1,i1,st1⟩:=zCJ R1 o2 e2
  obtain⟨q,us,rfl,h2,i2⟩:=o3.invt
  refine⟨p,q,rfl,⟨vs,h1⟩,⟨us,h2.sq⟩,k _ H1 R1 ev1 ⟨Nat.le_trans (zl _ _) hz,fun L' hs av H2 ev=>?_⟩⟩
  have hL:LL L' H1:=fun q hq=>R1.lst q (hs q hq)
  exact zMj (b:=false) (b2:=true) (st1 L' hs av H2 ev) (zD7 ev hL h2).sq (i1.evo ev hL) (i2.evo ev hL)
 ·cases e
section
variable {ι:Type}{K:Fg}{mg:Str->Option Value}{k:Nat}{X:ι->Cx}{a b:Expr}{da:DA}{p pos:Pos}
theorem zL2{elts:List Expr}{x1:Nat}{tp:Pos}(M:Fm K mg k X)(hm:mg "zip"=none)(ha:AX K X [a,b] da)(hg:∀ j,Gl (X j) "zip":=by intro _; rfl)(hs:∀ j,starEach [a,b] (X j).env=[(false,eval a (X j).env),(false,eval b (X j).env)]:=by intro _; rfl)
  (hs2:∀ j,starEach [b] (X j).env=[(false,eval b (X j).env)]:=by intro _; rfl):IX K X (.Tuple elts x1 tp) (.Call (.Name "zip" p) [a,b] [] pos) (dZipM da) :=
 let ⟨t,q,u⟩:=ha; ⟨iZipM K t,fun j=>by have:=zNC (elts:=elts) (x1:=x1) (tp:=tp) (p:=p) (pos:=pos) (hg j) (by rw[M.mg]; exact hm) (q j) (hs j) (hs2 j); rw[M.K j]at this; exact this,zIy u⟩
end
end D
namespace L2
open PySem PySem.Spec PyProof.Rows
section
variable {κ:Type} [DecidableEq κ]
def valV(kvs:List (κ×V))(k:κ):Option V:=(kvs.find? fun kv=>decide (kv.1=k)).map (·.2)
def putK(kvs:List (κ×V))(k:κ)(v:V):List (κ×V) :=
 if (kvs.any fun kv=>decide (kv.1=k))=true then kvs.map (fun kv=>if kv.1=k then (kv.1,v) else kv) else kvs++[(k,v)]
theorem zCo{p:κ×V}{r:List (κ×V)}{k:κ}(e:p.1=k):valV (p::r) k=some p.2:=by simp[valV,List.find?_cons,e]
theorem zCi{p:κ×V}{r:List (κ×V)}{k:κ}(e:¬ p.1=k):valV (p::r) k=valV r k:=by simp[valV,List.find?_cons,e]
theorem zGU(k:κ):∀ kvs:List (κ×V),(kvs.any fun kv=>decide (kv.1=k))=(valV kvs k).isSome
 | []=>rfl
 | p::r=>by
  rw[List.any_cons]
  by_cases e:p.1=k
  ·simp only[zCo e,decide_eq_true e,Bool.true_or,Option.isSome_some]
  ·rw[zCi e,decide_eq_false e,Bool.false_or]; exact zGU k r
theorem zGr(kvs:List (κ×V))(k:κ)(v:V):(putK kvs k v).length<=kvs.length+1:=by
 unfold putK
 split
 ·rw[List.length_map]; omega
 ·rw[List.length_append,List.length_cons,List.length_nil]; omega
theorem zFv{kvs:List (κ×V)}{k:κ}(v:V)(h:valV kvs k=none):putK kvs k v=kvs++[(k,v)]:=by
 unfold putK
 rw[zGU,h]
 exact if_neg (by decide)
theorem RelO.getD{o:Option V}{u:Option Value}{d:V}{d':Value}(r:RelO o u)(rd:RelV d d'):RelV (o.getD d) (u.getD d'):=by
 cases o with
 | none=>cases u with
  | none=>exact rd
  | some _=>exact (show False from r).elim
 | some _=>cases u with
  | none=>exact (show False from r).elim
  | some _=>exact r
theorem KV.val{kvs:List (κ×V)}{vs:List (κ×Value)}(r:KV kvs vs)(k:κ):RelO (valV kvs k) (valueAt vs k):=by
 unfold KV at r
 induction r with
 | nil=>exact True.intro
 | @cons p q ps qs h t ih =>
  obtain⟨h1,h2⟩:=h
  by_cases e:p.1=k
  ·have e':q.1=k:=h1.symm.trans e
   have b:valueAt (q::qs) k=some q.2:=by simp[valueAt,List.find?_cons,e']
   rw[zCo e,b]; exact h2
  ·have e':¬ q.1=k:=fun z=>e (h1.trans z)
   have b:valueAt (q::qs) k=valueAt qs k:=by simp[valueAt,List.find?_cons,e']
   rw[zCi e,b]; exact ih
theorem KV.any{kvs:List (κ×V)}{vs:List (κ×Value)}(r:KV kvs vs)(k:κ):(kvs.any fun kv=>decide (kv.1=k))=vs.any fun kv=>decide (kv.1=k):=by
 unfold KV at r
 induction r with
 | nil=>rfl
 | cons h t ih=>rw[List.any_cons,List.any_cons,ih,h.1]
theorem KV.repl{kvs:List (κ×V)}{vs:List (κ×Value)}(r:KV kvs vs)(k:κ){y:V}{u:Value}(ry:RelV y u) :
  KV (kvs.map fun kv=>if kv.1=k then (kv.1,y) else kv) (vs.map fun kv=>if kv.1=k then (kv.1,u) else kv):=by
 unfold KV at r ⊢
 induction r with
 | nil=>exact .nil
 | @cons p q ps qs h t ih =>
  rw[List.map_cons,List.map_cons]
  refine .cons ?_ ih
  obtain⟨h1,h2⟩:=h
  by_cases e:p.1=k
  ·rw[if_pos e,if_pos (h1.symm.trans e)]; exact⟨h1,ry⟩
  ·rw[if_neg e,if_neg (fun z=>e (h1.trans z))]; exact⟨h1,h2⟩
theorem KV.put{kvs:List (κ×V)}{vs:List (κ×Value)}(r:KV kvs vs)(k:κ){y:V}{u:Value}(ry:RelV y u):KV (putK kvs k y) (stored vs k u):=by
 unfold putK stored
 rw[r.any k]
 by_cases e:(vs.any fun kv=>decide (kv.1=k))=true
 ·rw[if_pos e,if_pos e]; exact r.repl k ry
 ·rw[if_neg e,if_neg e]; exact Paired.snoc r ⟨rfl,ry⟩
end
theorem zD8{P:Program}{w:World}{k:Key}{u:Value}(r:RelV (kV k) u):(mixKind P w).is k u=true:=by
 cases k with
 | inl i=>obtain⟨t,e⟩:=(show ∃ t,u=Value.int i t from r); subst e; exact zGq P w i t
 | inr x=>obtain⟨t,e⟩:=(show ∃ t,u=Value.str x t from r); subst e; exact zGo P w x t
theorem zE0{P:Program}{w:World}:∀ {ks:List Key} {us:List Value},Vals (ks.map kV) us->ItemsAre (mixKind P w) ks us
 | [],_,r=>by rw[List.map_nil]at r; cases r; exact .nil
 | k::ks,_,r=>by
  rw[List.map_cons]at r
  cases r with
  | cons h t=>exact .cons (zD8 h) (zE0 t)
abbrev KT(H:Hp):List (List Key×V)->List (List Key×Addr×Value)->Prop:=Paired fun p q=>p.1=q.1/\H q.2.1=some (.tup (p.1.map kV))/\RelV p.2 q.2.2
theorem KT.val{H:Hp}{kvs:List (List Key×V)}{xs:List (List Key×Addr×Value)}(r:KT H kvs xs)(k:List Key):RelO (valV kvs k) ((atKey xs k).map (·.2)):=by
 induction r with
 | nil=>exact True.intro
 | @cons p q ps qs h t ih =>
  obtain⟨h1,_,h2⟩:=h
  by_cases e:p.1=k
  ·have e':q.1=k:=h1.symm.trans e
   have b:atKey (q::qs) k=some q.2:=by simp[atKey,List.find?_cons,e']
   rw[zCo e,b]; exact h2
  ·have e':¬ q.1=k:=fun z=>e (h1.trans z)
   have b:atKey (q::qs) k=atKey qs k:=by simp[atKey,List.find?_cons,e']
   rw[zCi e,b]; exact ih
section
variable {P:Program}{w:World}{H:Hp}{h:Heap}{a:Addr}
theorem zLj{u:HO}(ok:HOk P w H h)(e:Rd H a u):ObjOk P w H h a u:=e.ok ok
theorem zDt{kvs:List (Key×V)}(ok:HOk P w H h)(e:Rd H a (.dK kvs)):kvs.length<=sizeLine/\(a == sysModules)=false/\∃ vs,KV kvs vs/\h.DictOf (mixKind P w) a vs :=
 show ObjOk P w H h a (.dK kvs) from zLj ok e
theorem zQT{kvs:List (Key×V)}(ok:HOk P w H h)(e:H a=some (.dK kvs)):kvs.length<=sizeLine/\(a == sysModules)=false/\∃ vs,KV kvs vs/\h.DictOf (mixKind P w) a vs:=zDt ok (.inl e)
theorem zFl{ks:List Key}(ok:HOk P w H h)(e:H a=some (.tup (ks.map kV))):(tupleKind (mixKind P w)).is h ks a:=by
 obtain⟨_,its,r,o,h1,h2,⟨n,h3⟩,_⟩:=(show ObjOk P w H h a (.tup (ks.map kV)) from ok a _ e)
 exact⟨o,its.toArray,n,h1,h2,h3,by simpa using zE0 r⟩
theorem zFR{kvs:List (List Key×V)}(ok:HOk P w H h)(e:Rd H a (.dT kvs)):kvs.length<=sizeLine/\(a == sysModules)=false /\
  ∃ xs,KT H kvs xs/\h.DictOfH (tupleKind (mixKind P w)) a xs:=by
 obtain⟨z,y,xs,r,o,es,ep,h1,h2,h3,h4,h5⟩:=(show ObjOk P w H h a (.dT kvs) from zLj ok e)
 refine⟨z,y,xs,r,o,es,ep,h1,h2,h3,h4,fun x hx=>?_,h5⟩
 have all:∀ {l:List (List Key×V)} {m:List (List Key×Addr×Value)},KT H l m->∀ x∈m,(tupleKind (mixKind P w)).is h x.1 x.2.1:=by
  intro l m q
  induction q with
  | nil=>intro x hx; exact nomatch hx
  | @cons p q ps qs hq t ih =>
   intro x hx
   rcases List.mem_cons.mp hx with e | hx
   ·subst e
    exact zFl ok (by rw[← hq.1]; exact hq.2.1)
   ·exact ih x hx
 exact all r x hx
end
def DGet(H:Hp)(a:Addr)(y:V)(r:Option V):Prop :=
 (∃ kvs k,Rd H a (.dK kvs)/\y=kV k/\r=valV kvs k)\/∃ kvs k b,Rd H a (.dT kvs)/\y=.ref b/\H b=some (.tup (k.map kV))/\r=valV kvs k
theorem DGet.k{H:Hp}{a:Addr}{kvs:List (Key×V)}{k:Key}(e:H a=some (.dK kvs)):DGet H a (kV k) (valV kvs k):=.inl ⟨kvs,k,.inl e,rfl,rfl⟩
section
variable {X:Cx}{pins:List (Addr×Obj)}{σ:St}{H:Hp}{s:Shared}{a:Addr}{y v:V}{u r:Value}{o:Option V}{A:Around}{E:Value->Shared->Prop}
theorem Inv.big(I:Inv X pins σ H s):sysModules < s.heap.objs.size:=by
 have h:mainGlobals < s.heap.objs.size:=(I.mod.glob.keeps I.bk).lt
 exact Nat.lt_trans (by decide) h
theorem zI2{Q:Value->Shared->Prop}(hu:A.units+1 < cLine)(I:Inv X pins σ H s)(g:DGet H a y (some v))(ry:RelV y u)(h:∀ w' s',Inv X pins σ H s'->RelV v w'->Q w' s') :
  wpAny (model X.prog X.w) A (getItem (.ref a) u) Q E s:=by
 rcases g with ⟨kvs,k,e,ey,l⟩ | ⟨kvs,k,b,e,ey,eb,l⟩
 ·subst ey
  obtain⟨z,hd,vs,rel,dd⟩:=zDt I.hok e
  obtain⟨w',hw,rw'⟩:=RelO.some_of (v:=v) (o:=valueAt vs k) (by rw[l]; exact rel.val k)
  exact wpAny_getItem_of (zD8 ry) dd.mapOf hw (h w' _ (I.tok _) rw')
 ·subst ey
  cases (show u=Value.ref b from ry)
  obtain⟨z,hd,xs,rel,dd⟩:=zFR I.hok e
  obtain⟨w',hw,rw'⟩:=RelO.some_of (v:=v) (o:=(atKey xs k).map (·.2)) (by rw[l]; exact rel.val k)
  obtain⟨p,hp,hp2⟩:=Option.map_eq_some_iff.mp hw
  refine wpAny_getItem_heap (tupleKind_room_in1 hu) (zFl I.hok eb) dd hp ?_
  rw[hp2]
  exact h w' _ (I.tok _) rw'
theorem zNY{h':Heap}{t':Nat}{ob:HO}(I:Inv X pins σ H s)(mu:Mut (H a))(hs:Heap.SameBut a s.heap h')(he:∃ q,h'.get? a=some q)(new:ObjOk X.prog X.w (upd H a ob) h' a ob) :
  Inv X pins σ (upd H a ob) { s with heap:=h',toks:=t' } :=
 I.write (x:=a) (e:=a) mu (.inl rfl) (fun b q hb z=>(hs.2 b hb).trans z) he new
theorem zJP{P:Program}{w:World}{H':Hp}{h':Heap}{kvs:List (Key×V)}{vs:List (Key×Value)}(z:kvs.length<=sizeLine)(hd:(a == sysModules)=false)(rel:KV kvs vs)(dd:h'.DictOf (mixKind P w) a vs) :
  ObjOk P w H' h' a (.dK kvs):=⟨z,hd,vs,rel,dd⟩
end
def NoSl(i:Expr):Prop:=∀ ov iv,subscripted i false ov iv=operate [ov,iv] (getItem ov iv)
theorem zMI{prog:Program}{w:World}{A:Around}{E:Value->Shared->Prop}{s:Shared}{env:Env}{value slice:Expr}{pos:Pos}{T id:String}{Q:Value->Shared->Prop}
  (hl:typeLookup (.type T) "__getitem__"=pure (some (.builtin id))) (hs:NoSl slice)
  (h:wpAny (model prog w) A (eval value env) (fun o s₁=>wpAny (model prog w) A (eval slice env) (fun i s₂=>s₂.TypeIs o T/\wpAny (model prog w) A (getItem o i) Q E s₂) E s₁) E s) :
  wpAny (model prog w) A (eval (.Subscript value slice pos) env) Q E s:=by
 refine Subscript_ (wpAny_mono h (fun o s₁ h₁=>wpAny_mono h₁ (fun i s₂ h₂=>?_) fun _ _ x=>x) fun _ _ x=>x)
 obtain⟨hT,h₂⟩:=h₂
 unfold subscriptTail
 refine wpAny_bind ?_
 rw[getitemInPython_of_ne hT.not_modules]
 refine wpAny_bind (wpAny_specialOf hT hl ?_)
 have fin:wpAny (model prog w) A (subscripted slice false o i) (fun r s₃=>wpAny (model prog w) A (letTemporaryGo value o r >>= fun _=>pure r) Q E s₃) E s₂:=by
  rw[hs o i]
  exact wpAny_operating (wpAny_mono h₂ (fun r s₃ h₃=>wpAny_bind (wpAny_letTemporaryGo (wpAny_pure h₃))) fun _ _ x=>x)
 first
  | exact wpAny_pure (wpAny_bind fin)
  | exact wpAny_bind (wpAny_pure (wpAny_bind fin))
  | exact wpAny_bind fin
theorem zGe{X:Cx}{pins:List (Addr×Obj)}{σ:St}{H:Hp}{s:Shared}{a:Addr}{y:V}{o:Option V}(I:Inv X pins σ H s)(g:DGet H a y o):s.TypeIs (.ref a) "dict":=by
 rcases g with ⟨kvs,k,e,_,_⟩ | ⟨kvs,k,b,e,_,_,_⟩
 ·obtain⟨_,_,vs,_,dd⟩:=zDt I.hok e
  exact dd.typeIs
 ·obtain⟨_,_,xs,_,dd⟩:=zFR I.hok e
  exact dd.typeIs
def tDGet(td ty:TE):TE:=fun σ H Q=>td σ H fun x H1=>ty σ H1 fun y H2=>∃ a v,x=.ref a/\DGet H2 a y (some v)/\Q v H2
section
variable {X:Cx}{o i e value:Expr}{pos pos' tpos:Pos}{td ty tv:TE}
theorem zMT(hu:X.A.units+1 < cLine)(ho:PE X o td)(hi:PE X i ty)(hs:NoSl i):PE X (.Subscript o i pos) (tDGet td ty):=by
 intro pins s σ H Q I h
 refine zMI PySem.F.slot_dict_getitem.lookup hs (thn (ho pins s σ H _ I h) fun u s1 ⟨x,H1,I1,rx,q1⟩=>thn (hi pins s1 σ H1 _ I1 q1) fun iv s2 ⟨y,H2,I2,ry,a,v,ex,g,q2⟩=>?_)
 subst ex
 obtain rfl:u=Value.ref a:=rx
 exact⟨zGe I2 g,zI2 hu I2 g ry fun w' s3 I3 rw'=>⟨v,H2,I3,rw',q2⟩⟩
end
theorem zKk{P:Program}{w:World}{H:Hp}(h:Heap)(hb:sysModules < h.objs.size):ObjOk P w H (h.push { cls:=.type "dict",data:=.dict #[] }) h.objs.size (.dK []) :=
 ⟨Nat.zero_le _,beq_eq_false_iff_ne.mpr (Ne.symm (Nat.ne_of_lt hb)),[],.nil,Heap.DictOf.new h⟩
def tPairs:List (TE×TE)->St->Hp->(List (V×V)->Hp->Prop)->Prop
 | [],_,H,Q=>Q [] H
 | (tk,tv)::r,σ,H,Q=>tk σ H fun x H1=>tv σ H1 fun y H2=>tPairs r σ H2 fun ps H3=>Q ((x,y)::ps) H3
abbrev VV:List (V×V)->List (Value×Value)->Prop:=Paired fun p q=>RelV p.1 q.1/\RelV p.2 q.2
def PPs(X:Cx)(pos:Pos)(keys:List (Option Expr))(values:List Expr)(trs:List (TE×TE)):Prop :=
 ∀ (pins:List (Addr×Obj)) (s:Shared) (σ:St) (H:Hp) (Q:List (V×V)->Hp->Prop),Inv X pins σ H s->tPairs trs σ H Q ->
  wpAny (model X.prog X.w) X.A (evalPairs (pairTrees keys values X.env pos)) (fun vs s'=>∃ ps H',Inv X pins σ H' s'/\VV ps vs/\Q ps H') X.xe s
theorem zME{X:Cx}{pos:Pos}:PPs X pos [] [] []:=fun pins s σ H Q I h=>pairTrees_nil_walk ⟨[],H,I,.nil,h⟩
theorem zLI{X:Cx}{pos:Pos}{k v:Expr}{ks:List (Option Expr)}{vs:List Expr}{tk tv:TE}{trs:List (TE×TE)}(hk:PE X k tk)(hv:PE X v tv)(hr:PPs X pos ks vs trs) :
  PPs X pos (some k::ks) (v::vs) ((tk,tv)::trs):=fun pins s σ H Q I h =>
 pairTrees_cons_walk (thn (hk pins s σ H _ I h) fun u s1 ⟨x,H1,I1,rx,q1⟩=>thn (hv pins s1 σ H1 _ I1 q1) fun w2 s2 ⟨y,H2,I2,ry,q2⟩ =>
  thn (hr pins s2 σ H2 _ I2 q2) fun ws s3 ⟨ps,H3,I3,rel,q3⟩=>⟨(x,y)::ps,H3,I3,.cons ⟨rx,ry⟩ rel,q3⟩)
def mergeK(kvs more:List (Key×V)):List (Key×V):=more.foldl (fun acc kv=>putK acc kv.1 kv.2) kvs
theorem KV.merge:∀ {more:List (Key×V)} {rs:List (Key×Value)} {kvs:List (Key×V)} {vs:List (Key×Value)},KV more rs->KV kvs vs->KV (mergeK kvs more) (merged vs rs):=by
 intro more rs kvs vs r
 unfold KV at r
 induction r generalizing kvs vs with
 | nil=>intro q; exact q
 | @cons p q ps qs h t ih =>
  intro r0
  have e:KV (putK kvs p.1 p.2) (stored vs q.1 q.2):=by
   have:=r0.put p.1 h.2
   rw[← h.1]; exact this
  exact ih e
theorem zB3:∀ (more kvs:List (Key×V)),(mergeK kvs more).length<=kvs.length+more.length
 | [],kvs=>by show kvs.length<=kvs.length+0; omega
 | p::r,kvs=>by
  have h1:=zB3 r (putK kvs p.1 p.2)
  have h2:=zGr kvs p.1 p.2
  show (mergeK (putK kvs p.1 p.2) r).length<=_
  rw[List.length_cons]; omega
theorem zDv{P:Program}{w:World}:∀ {kvs:List (Key×V)} {ws:List (Value×Value)},VV (kvs.map fun kv=>(kV kv.1,kv.2)) ws->∃ rs,Carries (mixKind P w) ws rs/\KV kvs rs
 | [],_,r=>by rw[List.map_nil]at r; cases r; exact⟨[],True.intro,.nil⟩
 | p::kvs,_,r=>by
  rw[List.map_cons]at r
  cases r with
  | @cons a b as bs h t =>
   obtain⟨rs,c,q⟩:=zDv (P:=P) (w:=w) t
   obtain⟨b1,b2⟩:=b
   exact⟨(p.1,b2)::rs,⟨zD8 h.1,rfl,c⟩,.cons ⟨rfl,h.2⟩ q⟩
def tDisp(trs:List (TE×TE)):TE:=fun σ H Q=>∀ p,H p=none->tPairs trs σ (upd H p (.dK [])) fun ps H2=>H2 p=some (.dK [])/\∃ kvs:List (Key×V),ps=kvs.map (fun kv=>(kV kv.1,kv.2))/\kvs.length<=15/\Q (.ref p) (upd H2 p (.dK (mergeK [] kvs)))
theorem zMG{X:Cx}{pos:Pos}{keys:List (Option Expr)}{values:List Expr}{trs:List (TE×TE)}(h:PPs X pos keys values trs)(hall:keys.all (·.isSome)=true)(hl:keys.length=values.length)(h0:keys≠[])
  (h15:keys.length<=15):PE X (.Dict keys values pos) (tDisp trs):=by
 intro pins s σ H Q I q
 have hn:=I.hok.fresh (Nat.le_refl s.heap.objs.size)
 have I1:=I.laid (a:=s.heap.objs.size) (o:=.dK []) (h':=s.heap.push { cls:=.type "dict",data:=.dict #[] }) (t':=s.toks) (fun _ _ q=>Heap.get?_push_of_some _ q) (Nat.le_refl _) (zKk s.heap I.big)
 refine wpAny_Dict_walk (knd:=mixKind X.prog X.w) hall hl h0 h15 (thn (h pins _ σ _ _ I1 (q _ hn)) fun ws s2 ⟨ps,H2,I2,rel,e,kvs,ep,lk,q2⟩=>?_)
 subst ep
 obtain⟨rs,c,rk⟩:=zDv (P:=X.prog) (w:=X.w) rel
 obtain⟨z,hd,vs0,r0,dd⟩:=zQT I2.hok e
 cases r0
 refine⟨rs,c,dd,fun h' dd' hs=>⟨.ref s.heap.objs.size,_,?_,rfl,q2⟩⟩
 have hz:(mergeK [] kvs).length<=sizeLine:=by
  have h1:=zB3 kvs []
  rw[List.length_nil]at h1
  rw[sizeLine_eq]; omega
 have he:∃ q,h'.get? s.heap.objs.size=some q:=let ⟨q,_,_,hq,_⟩:=dd'; ⟨q,hq⟩
 exact zNY I2 (by rw[e]; exact True.intro) hs he (zJP hz hd (rk.merge .nil) dd')
structure M1(X:Cx)(o:Expr)(m:Str)(apos:Pos)(e:Expr)(cpos:Pos):Prop where
 base:attributeBase o m X.env (eval o X.env)=eval o X.env
 few:((backTo cpos (starEach [e] X.env)).all (fun x=>!x.1) && (backToKw cpos (keywordEach [] X.env)).all (fun x=>x.1.isSome)
  && decide (([e]:List Expr).length+([]:List Keyword).length+(if ([]:List Keyword).isEmpty then 0 else 1) < 30))=true
 line:(apos.endLine == cpos.line)=true
 trees:backTo cpos (starEach [e] X.env)=[(false,eval e X.env)]
def IsD(H:Hp)(a:Addr):Prop:=(∃ kvs,Rd H a (.dK kvs))\/∃ kvs,Rd H a (.dT kvs)
theorem zOX{X:Cx}{pins:List (Addr×Obj)}{σ:St}{H:Hp}{s:Shared}{a:Addr}(I:Inv X pins σ H s)(d:IsD H a) :
  s.TypeIs (.ref a) "dict"/\(∀ b,Value.ref a=.ref b->∃ ob,s.heap.get? b=some ob/\ob.dict=none)/\(a == sysModules)=false:=by
 rcases d with ⟨kvs,e⟩ | ⟨kvs,e⟩
 ·obtain⟨_,hd,vs,_,dd⟩:=zDt I.hok e
  refine⟨dd.typeIs,fun b q=>?_,hd⟩
  cases q
  obtain⟨ob,_,_,h1,h2,_⟩:=dd
  exact⟨ob,h1,h2.2.1⟩
 ·obtain⟨_,hd,xs,_,dd⟩:=zFR I.hok e
  refine⟨dd.typeIs,fun b q=>?_,hd⟩
  cases q
  obtain⟨ob,_,_,h1,h2,_⟩:=dd
  exact⟨ob,h1,h2.2.1⟩
section
variable {X:Cx}{pins:List (Addr×Obj)}{σ:St}{H:Hp}{s:Shared}{a:Addr}{y d:V}{u r:Value}{o:Option V}{A:Around}{E:Value->Shared->Prop}
theorem zOL{Q:Value->Shared->Prop}(hu:A.units+1 < cLine)(I:Inv X pins σ H s)(g:DGet H a y o)(ry:RelV y u)(h:∀ w' s',Inv X pins σ H s'->RelV (o.getD .non) w'->Q w' s') :
  wpAny (model X.prog X.w) A (call (.builtin "dict.get") [.ref a,u]) Q E s:=by
 rcases g with ⟨kvs,k,e,ey,l⟩ | ⟨kvs,k,b,e,ey,eb,l⟩
 ·subst ey
  obtain⟨z,hd,vs,rel,dd⟩:=zDt I.hok e
  refine call_meetsIn PySem.F.slot_dict_get dd.typeIs PySem.F.entry_dict_get (PySem.F.args_dict_get_2 _ _) (meets_dict_get (mixKind X.prog X.w) a (zD8 ry) hd) ⟨_,dd.mapOf,h _ _ (I.tok _) ?_⟩
  rw[l]
  exact (rel.val k).getD rfl
 ·subst ey
  cases (show u=Value.ref b from ry)
  obtain⟨z,hd,xs,rel,dd⟩:=zFR I.hok e
  refine call_meetsIn PySem.F.slot_dict_get dd.typeIs PySem.F.entry_dict_get (PySem.F.args_dict_get_2 _ _) (meetsH_dict_get (tupleKind (mixKind X.prog X.w)) a b hd) ⟨tupleKind_room_in1 hu,k,xs,zFl I.hok eb,dd,h _ _ (I.tok _) ?_⟩
  rw[l]
  exact (rel.val k).getD rfl
end
def tDGet1(td ty:TE):TE:=fun σ H Q=>td σ H fun x H1=>∃ a,x=.ref a/\IsD H1 a/\ty σ H1 fun y H2=>∃ o,DGet H2 a y o/\Q (o.getD .non) H2
section
variable {X:Cx}{o e f:Expr}{apos cpos:Pos}{td ty tx:TE}
theorem zLX(hu:X.A.units+1 < cLine)(ho:PE X o td)(he:PE X e ty)(m:M1 X o "get" apos e cpos):PE X (.Call (.Attribute o "get" apos) [e] [] cpos) (tDGet1 td ty):=by
 intro pins s σ H Q I h
 refine wpAny_Call_method m.base m.few m.line PySem.F.plainAttrs_dict PySem.F.slot_dict_get PySem.F.type_dict_get (thn (ho pins s σ H _ I h) fun u s1 ⟨x,H1,I1,rx,a,ex,d,q1⟩=>?_)
 subst ex
 obtain rfl:u=Value.ref a:=rx
 obtain⟨t1,t2,_⟩:=zOX I1 d
 refine⟨t1,t2,?_⟩
 rw[m.trees]
 refine Calls.callWith_builtin rfl (Calls.evalArgs_plain (Calls.spliced_cons (thn (he pins s1 σ H1 _ I1 q1) fun iv s2 ⟨y,H2,I2,ry,ov,g,q2⟩=>Calls.spliced_nil ?_)))
 exact zOL hu I2 g ry fun w' s3 I3 rw'=>⟨_,H2,I3,rw',q2⟩
end
end L2
namespace D
open PySem L2
def keyT:T->Option Key
 | .a (.int n)=>some (.inl n)
 | .a (.str x)=>some (.inr x)
 | _=>none
def keyTs:List T->Option (List Key)
 | []=>some []
 | t::r=>(keyT t).bind fun k=>(keyTs r).map fun ks=>k::ks
theorem zEV{K:Fg}{H:Hp}{y:V}{t:T}{k:Key}(h:Im K H y t)(e:keyT t=some k):y=kV k:=by
 unfold keyT at e
 split at e
 ·cases e; exact h.inva
 ·cases e; exact h.inva
 ·cases e
theorem zGA{K:Fg}{H:Hp}:∀ {vs:List V} {ts:List T} {ks:List Key},Ims K H vs ts->keyTs ts=some ks->vs=ks.map kV
 | _,[],_,h,e=>by cases e; exact h.inv0
 | _,t::r,_,h,e=>by
  obtain⟨v,vs,rfl,h1,h2⟩:=h.inv
  obtain⟨k,e1,e⟩:=bind_some e
  obtain⟨ks,e2,e⟩:=zAH e
  subst e
  rw[zEV h1 e1,zGA h2 e2]; rfl
section
variable {κ:Type} [DecidableEq κ]
def valT(kvs:List (κ×T))(k:κ):Option T:=(kvs.find? fun kv=>decide (kv.1=k)).map (·.2)
def putT(kvs:List (κ×T))(k:κ)(t:T):List (κ×T) :=
 if (kvs.any fun kv=>decide (kv.1=k))=true then kvs.map (fun kv=>if kv.1=k then (kv.1,t) else kv) else kvs++[(k,t)]
def PR(K:Fg)(H:Hp)(l:List (κ×V))(kvs:List (κ×T)):Prop:=Paired (fun a b=>a.1=b.1/\Im K H a.2 b.2) l kvs
variable {K:Fg}{H:Hp}
theorem PR.val{l:List (κ×V)}{kvs:List (κ×T)}(h:PR K H l kvs)(k:κ):(valV l k=none/\valT kvs k=none)\/∃ v t,valV l k=some v/\valT kvs k=some t/\Im K H v t:=by
 induction h with
 | nil=>exact .inl ⟨rfl,rfl⟩
 | @cons a b l kvs hab _ ih =>
  by_cases e:a.1=k
  ·refine .inr ⟨a.2,b.2,zCo e,?_,hab.2⟩
   simp[valT,List.find?_cons,← hab.1,e]
  ·rw[zCi e]
   have:valT (b::kvs) k=valT kvs k:=by simp[valT,List.find?_cons,← hab.1,e]
   rw[this]; exact ih
theorem PR.any{l:List (κ×V)}{kvs:List (κ×T)}(h:PR K H l kvs)(k:κ):(l.any fun kv=>decide (kv.1=k))=kvs.any fun kv=>decide (kv.1=k):=by
 induction h with
 | nil=>rfl
 | @cons a b l kvs hab _ ih=>rw[List.any_cons,List.any_cons,ih,hab.1]
theorem PR.app{l m:List (κ×V)}{kvs mvs:List (κ×T)}(h:PR K H l kvs)(h':PR K H m mvs):PR K H (l++m) (kvs++mvs):=by
 induction h with
 | nil=>exact h'
 | @cons a b l kvs hab _ ih=>exact .cons hab ih
theorem PR.put{l:List (κ×V)}{kvs:List (κ×T)}(h:PR K H l kvs)(k:κ){v:V}{t:T}(hv:Im K H v t):PR K H (putK l k v) (putT kvs k t):=by
 unfold putK putT
 rw[h.any k]
 split
 ·rename_i hx; clear hx
  induction h with
  | nil=>exact .nil
  | @cons a b l kvs hab _ ih =>
   rw[List.map_cons,List.map_cons]
   refine .cons ?_ ih
   by_cases e:a.1=k
   ·rw[if_pos e,if_pos (hab.1 ▸ e)]; exact⟨hab.1,hv⟩
   ·rw[if_neg e,if_neg (hab.1 ▸ e)]; exact hab
 ·exact h.app (.cons ⟨rfl,hv⟩ .nil)
end
def dictOf(Γ:En):S->Option Dk
 | .d d=>some d
 | .s i=>match Γ[i]? with
  | some (some (.d d))=>some d
  | some (some (.e d))=>some d
  | _=>none
 | _=>none
def getX(cs:List (List Key))(d:Dk)(t:T):Option (Option T):=match d,t with
 | .inl kvs,t=>(keyT t).map fun k=>valT kvs k
 | .inr kvs,.t ts=>(keyTs ts).bind fun ks=>if (cs.any fun c=>decide (c=ks))=true then none else some (valT kvs ks)
 | _,_=>none
section
variable {K:Fg}{C:Fr}{w:W}{Γ:En}{σ:St}{H:Hp}{cs:List (List Key)}
theorem zEU{x:V}{s:S}{d:Dk}(R:Rep K C w Γ σ H)(o:SOk K C w σ H x s)(e:dictOf Γ s=some d):∃ p ob,x=.ref p/\H p=some ob/\DOk K H ob d:=by
 cases s with
 | v t=>cases e
 | l _=>cases e
 | d d' =>
  cases e
  obtain⟨p,ob,rfl,_,_,_,h1,h2⟩:=o
  exact⟨p,ob,rfl,h1,h2⟩
 | s i =>
  unfold dictOf at e
  have o':σ[i]?=some (some x):=o
  dsimp only at e
  split at e
  ·rename_i d' hi
   cases e
   obtain⟨v,e1,p,ob,rfl,_,h1,h2⟩:=R.val i _ hi
   rw[o']at e1; cases e1
   exact⟨p,ob,rfl,h1,h2⟩
  ·rename_i d' hi
   cases e
   obtain⟨v,e1,p,ob,rfl,h2,h1,_⟩:=R.val i _ hi
   rw[o']at e1; cases e1
   exact⟨p,ob,rfl,h1,h2⟩
  ·cases e
theorem DOk.invK{ob:HO}{kvs:List (Key×T)}(h:DOk K H ob (.inl kvs)):∃ l,ob=.dK l/\PR K H l kvs:=by
 cases ob with
 | dK l=>exact⟨l,rfl,h⟩
 | _=>exact h.elim
theorem DOk.invT{ob:HO}{kvs:List (List Key×T)}(h:DOk K H ob (.inr kvs)):∃ l,ob=.dT l/\PR K H l kvs:=by
 cases ob with
 | dT l=>exact⟨l,rfl,h⟩
 | _=>exact h.elim
theorem DOk.isD{ob:HO}{p:Addr}{d:Dk}(h:DOk K H ob d)(hp:H p=some ob):IsD H p:=by
 cases d with
 | inl kvs=>obtain⟨l,rfl,_⟩:=h.invK; exact .inl ⟨l,.inl hp⟩
 | inr kvs=>obtain⟨l,rfl,_⟩:=h.invT; exact .inr ⟨l,.inl hp⟩
end
def rDGet:R2:=fun x y H Q=>∃ a v,x=.ref a/\DGet H a y (some v)/\Q v H
section
variable {ι:Type}{K:Fg}{mg:Str->Option Value}{k:Nat}{X:ι->Cx}{cs:List (List Key)}{o i e f:Expr}{fo fk fx:DE}{pos apos cpos:Pos}{ip:Option Nat}
theorem un1(M:Fm K mg k X)(j:ι):(X j).A.units+1 < cLine:=by have:=(M.room j).un; omega
end
section
variable {K:Fg}{C:Fr}{w:W}{Γ:En}{σ:St}{H:Hp}
theorem Rep.tmp{p:Addr}{ob ob':HO}(r:Rep K C w Γ σ H)(n1:p∉w.L)(n2:¬ w.R p)(ow:Ow C p)(hp:H p=some ob)(m:Mu ob):Rep K C w Γ σ (upd H p ob'):=by
 have ev:Evo (p::w.L) H (upd H p ob'):=fun c o e n=>by rw[zAK (fun z:c=p=>n (by rw[z]; exact List.mem_cons_self))]; exact e
 have hL:LL (p::w.L) H:=fun q hq=>by
  rcases List.mem_cons.mp hq with z | z
  ·subst z; exact⟨ob,hp,m⟩
  ·exact r.lst q z
 have nl:∀ {q:Addr},q∈w.L->q≠p:=fun hq z=>n1 (z ▸ hq)
 have nr:∀ {q:Addr},w.R q->q≠p:=fun hq z=>n2 (z ▸ hq)
 refine⟨r.len,fun i g h=>?_,r.apart,fun q hq=>?_,r.own,fun q hq=>?_,r.rl,fun b o hb n=>?_,r.pin⟩
 ·obtain⟨v,e1,e2⟩:=r.val i g h
  refine⟨v,e1,?_⟩
  cases g with
  | v t=>exact Im.evo ev hL e2
  | l xs=>obtain⟨q,vs,rfl,hq,hv,hi⟩:=e2; exact⟨q,vs,rfl,hq,by rw[zAK (nl hq)]; exact hv,hi.evo ev hL⟩
  | r xs=>obtain⟨q,vs,rfl,hi,hv,a,b⟩:=e2; exact⟨q,vs,rfl,hi.evo ev hL,by rw[zAK (nr b)]; exact hv,a,b⟩
  | k xs=>obtain⟨q,vs,rfl,hi,hk⟩:=e2; exact⟨q,vs,rfl,hi.evo ev hL,hk.evo ev hL⟩
  | d xs=>obtain⟨q,o,rfl,hq,hv,hi⟩:=e2; exact⟨q,o,rfl,hq,by rw[zAK (nl hq)]; exact hv,hi.evo ev hL⟩
  | e xs=>obtain⟨q,o,rfl,hi,hv,a,b⟩:=e2; exact⟨q,o,rfl,hi.evo ev hL,by rw[zAK (nr b)]; exact hv,a,b⟩
 ·obtain⟨o,e,m⟩:=r.lst q hq
  exact⟨o,by rw[zAK (nl hq)]; exact e,m⟩
 ·obtain⟨o,e⟩:=r.ra q hq
  exact⟨o,by rw[zAK (nr hq)]; exact e⟩
 ·have hb':=r.frame b o hb n
  have:b≠p:=fun z=>by
   subst z
   rcases ow with ow | ow
   ·exact n ow
   ·rw[ow]at hb; cases hb
  rw[zAK this]; exact hb'
end
end D
namespace L2
open PySem PySem.Spec PyProof.Rows
theorem zDZ:typeLookup (.type "zip") "__getattr__"=pure none:=by rw[typeLookup_type,builtinLookup_eq_fast]; kernel_rfl
theorem zE8:typeLookup (.type "zip") "keys"=pure none:=by rw[typeLookup_type,builtinLookup_eq_fast]; kernel_rfl
theorem zCK:entryFor table "zip.__getattribute__"=some Builtin.«object.__getattribute__» :=
 entryFor_alias (id':="object.__getattribute__") (by kernel_rfl) (by decide +kernel) (by decide +kernel) (by kernel_rfl)
theorem zES(a:Addr)(fs:Array Value)(sl:Array (Option Value))(u:Tok) :
  Meets (Builtin.«object.__getattribute__» ⟨[.ref a,.str "keys" u],[]⟩) (fun A R s=>s.heap.get? a=some { cls:=.type "zip",dict:=none,data:=.fields fs,slots:=sl }/\raisesAttr (.ref a) "keys" A R s) :=
 Meets.of_wp fun prog w A R s hs=>by
  obtain⟨hp,g,d,tk,os⟩:=s
  obtain⟨hx,hs⟩:=hs
  have hT:(⟨hp,g,d,tk,os⟩:Shared).TypeIs (.ref a) "zip":=⟨_,hx,rfl⟩
  have hname:(["__module__","__name__","__qualname__","__doc__","__annotations__"]:List Str).contains "keys"=false:=by decide +kernel
  have hmiss:=zE8
  unfold Builtin.«object.__getattribute__»
  repeat (any_goals (first | assumption | wp_step))
  repeat (any_goals (first | assumption | wp_step))
  exact wpAny_raiseAttrError hs.1 hs.2 (attrMsg_fits (by decide +kernel) (by decide +kernel))
theorem getAttr?_miss_zip{prog:Program}{w:World}{A:Around}{E:Value->Shared->Prop}{s:Shared}{a:Addr}{fs:Array Value}{Q:Option Value->Shared->Prop}
  (hx:s.heap.get? a=some { cls:=.type "zip",data:=.fields fs }) (hA:A.handled=none)
  (h:∀ h' tk e,Heap.NewExcOf s.heap h' e "AttributeError"->Q none { s with heap:=h',toks:=tk }) :
  wpAny (model prog w) A (getAttr? (.ref a) "keys") Q E s:=by
 obtain⟨hp,g,d,tk,os⟩:=s
 have hT:∀ tk',(⟨hp,g,d,tk',os⟩:Shared).TypeIs (.ref a) "zip":=fun _=>⟨_,hx,rfl⟩
 have f1:=sub_AttributeError
 have f3:=F.slot_zip_getattribute.lookup
 have f4:=F.slot_zip_getattribute.bind (.ref a)
 have f5:=zDZ
 unfold getAttr? getAttrBy? getAttrBy
 repeat (any_goals (first | assumption | exact hT _ | ((with_reducible show wpAny _ _ (call (Value.builtin "zip.__getattribute__") _ _) _ _ _); refine call_meets F.slot_zip_getattribute (hT _) zCK (F.args_zip_getattribute_2 _ _) (zES a fs #[] _) ⟨hx,hA,fun h' tk' e hx'=>?_⟩) | wp_step))
 obtain⟨t',u',he⟩:=hx'.there
 show wpAny _ _ (getattributeRaised _ _ _ _ _ _ _) _ _ _
 unfold getattributeRaised
 repeat (any_goals (first | assumption | wp_step))
 exact h _ _ _ hx'.of
abbrev IsZO(h:Heap)(z TI TO T:Addr)(f:Bool):Prop :=
 h.get? z=some { cls:=.type "zip",dict:=none,data:=.fields #[rawInt T,.bool f,.bool false,.ref TI,.ref TO],slots:=#[] }
section
variable {prog:Program}{w:World}{A:Around}{E:Value->Shared->Prop}{s:Shared}
theorem zKz{a:Addr}{o:Obj}{Q:Option Obj->Shared->Prop}(ho:s.heap.get? a=some o)(h:Q (some o) s):wpAny (model prog w) A (loadIfAlive a) Q E s:=by
 exact PySem.W.kdx_alive ho h
variable {z TI TO i1 i2 l1 l2 T:Addr}{S1 S2:Nat->Heap->Prop}{xs ys:Array Value}{k:Nat}{f:Bool}{oT:Obj}
theorem zEk{Q:Bool->Shared->Prop}(hz:IsZO s.heap z TI TO T f)(hT:s.heap.get? T=some oT)
  (h:∀ h1,IsZO h1 z TI TO T true->Heap.SameBut z s.heap h1->Q false { s with heap:=h1 }):wpAny (model prog w) A (Builtin.SmallTypes.ownedTupleIsFree (.ref z)) Q E s:=by
 unfold Builtin.SmallTypes.ownedTupleIsFree
 refine wpAny_bind (wpAny_field hz rfl (x:=rawInt T) rfl ?_)
 show wpAny _ _ (loadIfAlive (T:Int).toNat >>= _) _ _ _
 rw[Int.toNat_natCast]
 refine wpAny_bind (zKz hT ?_)
 simp only[Option.isNone_some,Bool.false_eq_true,if_false]
 refine wpAny_bind (wpAny_field hz rfl (x:=.bool f) rfl ?_)
 cases f with
 | true=>exact wpAny_pure (h _ hz (Heap.SameBut.refl _ _))
 | false =>
  refine wpAny_bind (wpAny_setField_rec hz (by simp) fun h1 z1 b1=>?_)
  exact wpAny_pure (h h1 z1 b1)
theorem zJ3{x y:Value}{Q:Value->Shared->Prop}(D:ZAp z TI TO i1 i2 l1 l2)(D1:Drawer prog w i1 l1 xs S1)(D2:Drawer prog w i2 l2 ys S2)(hz:IsZO s.heap z TI TO T f)(hT:s.heap.get? T=some oT)(hTI:IsPair s.heap TI (.ref i1) (.ref i2))(st1:S1 k s.heap)(st2:S2 k s.heap)(hx:xs[k]?=some x)(hy:ys[k]?=some y)
  (hQ:∀ h',IsZO h' z TI TO T true->S1 (k+1) h'->S2 (k+1) h'->IsPair h' s.heap.objs.size x y ->
   (∀ c o,c≠z->c≠i1->c≠i2->s.heap.get? c=some o->h'.get? c=some o)->Q (.ref s.heap.objs.size) { s with heap:=h' }) :
  wpAny (model prog w) A (Builtin.«zip.__next__» ⟨[.ref z],[]⟩) (fun fin s'=>∃ v,fin=.done (.ret v)/\Q v s') E s:=by
 obtain⟨⟨TIz,TOz,i1z,i2z,TITO,TIi1,TIi2,TOi1,TOi2,i12,l1z,l1TO,l1i1,l1i2,l2z,l2TO,l2i1,l2i2⟩,_,_⟩:=D
 show wpAny _ _ (field (.ref z) 2 >>= _) _ _ _; refine wpAny_bind (wpAny_field hz rfl (x:=.bool false) rfl ?_)
 show wpAny _ _ (field (.ref z) 3 >>= _) _ _ _; refine wpAny_bind (wpAny_field hz rfl (x:=.ref TI) rfl (wpAny_bind (wpAny_seqItems hTI rfl ?_)))
 show wpAny _ _ (Builtin.SmallTypes.ownedTupleIsFree (.ref z) >>= _) _ _ _
 refine wpAny_bind (zEk hz hT fun h1 z1 b1=>?_)
 simp only[Bool.false_eq_true,if_false]
 refine wpAny_bind ?_
 rw[← Array.forIn_toList]
 simp only[List.forIn_cons,List.forIn_nil]
 refine wpAny_bind (wpAny_bind (wpAny_holding ?_)); show wpAny _ _ (Builtin.SmallTypes.nextOf (.ref i1) >>= _) _ _ _
 refine wpAny_bind (D1.item _ k _ x _ _ (D1.keep _ _ _ st1 (fun o e=>b1.extBut _ _ i1z e) fun o e=>b1.extBut _ _ l1z e) hx fun h2 t1 b2=>wpAny_pure ?_)
 refine wpAny_pure (wpAny_bind (wpAny_bind (wpAny_holding ?_))); show wpAny _ _ (Builtin.SmallTypes.nextOf (.ref i2) >>= _) _ _ _
 have s2':S2 k h2:=D2.keep _ _ _ st2 (fun o e=>b2.extBut _ _ i12.symm (b1.extBut _ _ i2z e)) fun o e=>b2.extBut _ _ l2i1 (b1.extBut _ _ l2z e)
 refine wpAny_bind (D2.item _ k _ y _ _ s2' hy fun h4 t2 b4=>wpAny_pure ?_)
 refine wpAny_pure (wpAny_pure ?_)
 refine wpAny_bind (wpAny_newTuple ?_ (by show 2<=sizeLine; decide))
 have hsz:h4.objs.size=s.heap.objs.size:=by rw[b4.1,b2.1,b1.1]
 have z4:IsZO h4 z TI TO T true:=b4.extBut _ _ i2z.symm (b2.extBut _ _ i1z.symm z1)
 have k4:∀ c o,c≠z->c≠i1->c≠i2->s.heap.get? c=some o->h4.get? c=some o:=fun c o c1 c3 c4 e=>b4.extBut _ _ c4 (b2.extBut _ _ c3 (b1.extBut _ _ c1 e))
 have t1':S1 (k+1) h4:=D1.keep _ _ _ t1 (fun o e=>b4.extBut _ _ i12 e) fun o e=>b4.extBut _ _ l1i2 e
 refine wpAny_pure ⟨_,rfl,?_⟩
 show Q (.ref h4.objs.size) _
 rw[hsz]
 have up:∀ c o,h4.get? c=some o->(h4.push { cls:=.type "tuple",data:=.seq #[x,y] }).get? c=some o:=fun c o e=>Heap.get?_push_of_some _ e
 refine hQ _ (up _ _ z4) (D1.keep _ _ _ t1' (fun o e=>up _ o e) fun o e=>up _ o e) (D2.keep _ _ _ t2 (fun o e=>up _ o e) fun o e=>up _ o e) ?_ fun c o c1 c2 c3 e=>up _ _ (k4 c o c1 c2 c3 e)
 rw[← hsz]
 exact Heap.get?_push_size _ rfl
theorem zKu{Q:Fin->Shared->Prop}(hh:A.handled=none)(D:ZAp z TI TO i1 i2 l1 l2)(D1:Drawer prog w i1 l1 xs S1)(hz:IsZO s.heap z TI TO T f)(hT:s.heap.get? T=some oT)(hTI:IsPair s.heap TI (.ref i1) (.ref i2))(st1:S1 k s.heap)(hx:xs[k]?=none)
  (hE:∀ h' e,(∀ c o,c≠z->c≠i1->s.heap.get? c=some o->h'.get? c=some o)->(∃ o,h'.get? e=some o/\o.cls=.type "StopIteration")->E (.ref e) { s with heap:=h' }) :
  wpAny (model prog w) A (Builtin.«zip.__next__» ⟨[.ref z],[]⟩) Q E s:=by
 obtain⟨⟨TIz,TOz,i1z,i2z,TITO,TIi1,TIi2,TOi1,TOi2,i12,l1z,l1TO,l1i1,l1i2,l2z,l2TO,l2i1,l2i2⟩,_,_⟩:=D
 show wpAny _ _ (field (.ref z) 2 >>= _) _ _ _; refine wpAny_bind (wpAny_field hz rfl (x:=.bool false) rfl ?_)
 show wpAny _ _ (field (.ref z) 3 >>= _) _ _ _; refine wpAny_bind (wpAny_field hz rfl (x:=.ref TI) rfl (wpAny_bind (wpAny_seqItems hTI rfl ?_)))
 show wpAny _ _ (Builtin.SmallTypes.ownedTupleIsFree (.ref z) >>= _) _ _ _
 refine wpAny_bind (zEk hz hT fun h1 z1 b1=>?_)
 simp only[Bool.false_eq_true,if_false]
 refine wpAny_bind ?_
 rw[← Array.forIn_toList]
 simp only[List.forIn_cons,List.forIn_nil]
 refine wpAny_bind (wpAny_bind (wpAny_holding ?_)); show wpAny _ _ (Builtin.SmallTypes.nextOf (.ref i1) >>= _) _ _ _
 refine wpAny_bind (D1.fini _ k _ _ _ hh (D1.keep _ _ _ st1 (fun o e=>b1.extBut _ _ i1z e) fun o e=>b1.extBut _ _ l1z e) hx fun h2 e b2 he=>?_)
 exact hE h2 e (fun c o c1 c2 q=>b2 _ _ c2 (b1.extBut _ _ c1 q)) he
end
theorem zB4:entryFor table "dict.update.loop"=some Builtin.«dict.update.loop»:=entryFor_of_tree (by kernel_rfl)
theorem zBB:plainId "dict.update.loop"=true:=by decide +kernel
structure ZL(z TI TO i1 i2 a1 a2 d:Addr)(xs ys:Array Value)(k:Nat)(h:Heap):Prop where
 zz:(IsZip h z TI TO .none/\∃ a b,IsPair h TO a b)\/∃ T oT f,IsZO h z TI TO T f/\h.get? T=some oT/\T≠z/\T≠i1/\T≠i2/\T≠d
 ti:IsPair h TI (.ref i1) (.ref i2)
 s1:h.IsTupleIter i1 a1 k/\h.IsTuple a1 xs
 s2:h.IsTupleIter i2 a2 k/\h.IsTuple a2 ys
section
variable {prog:Program}{w:World}{A:Around}{E:Value->Shared->Prop}{s:Shared}{z TI TO i1 i2 a1 a2 d:Addr}{xs ys:Array Value}{k:Nat}
theorem ZL.type{h:Heap}(st:ZL z TI TO i1 i2 a1 a2 d xs ys k h):∃ o,h.get? z=some o/\o.cls=.type "zip":=by
 rcases st.zz with ⟨q,_⟩ | ⟨T,oT,f,q,_⟩
 ·exact⟨_,q,rfl⟩
 ·exact⟨_,q,rfl⟩
theorem ZL.keep{h h':Heap}(st:ZL z TI TO i1 i2 a1 a2 d xs ys k h)(n1:z≠d)(n2:TI≠d)(n3:TO≠d)(n4:i1≠d)(n5:i2≠d)(n6:a1≠d)(n7:a2≠d)(kp:∀ c o,c≠d->h.get? c=some o->h'.get? c=some o):ZL z TI TO i1 i2 a1 a2 d xs ys k h' where
 zz:=by
  rcases st.zz with ⟨q,a,b,q2⟩ | ⟨T,oT,f,q,q2,q3,q4,q5,q6⟩
  ·exact .inl ⟨kp _ _ n1 q,a,b,kp _ _ n3 q2⟩
  ·exact .inr ⟨T,oT,f,kp _ _ n1 q,kp _ _ q6 q2,q3,q4,q5,q6⟩
 ti:=kp _ _ n2 st.ti
 s1:=⟨(let ⟨o,e,r⟩:=st.s1.1; ⟨o,kp _ _ n4 e,r⟩),(let ⟨o,e,r⟩:=st.s1.2; ⟨o,kp _ _ n6 e,r⟩)⟩
 s2:=⟨(let ⟨o,e,r⟩:=st.s2.1; ⟨o,kp _ _ n5 e,r⟩),(let ⟨o,e,r⟩:=st.s2.2; ⟨o,kp _ _ n7 e,r⟩)⟩
theorem zNa{x y:Value}{Q:Option Value->Shared->Prop}(D:ZAp z TI TO i1 i2 a1 a2)(hd:d < s.heap.objs.size)(st:ZL z TI TO i1 i2 a1 a2 d xs ys k s.heap)(hx:xs[k]?=some x)(hy:ys[k]?=some y)
  (hQ:∀ h',ZL z TI TO i1 i2 a1 a2 d xs ys (k+1) h'->IsPair h' s.heap.objs.size x y->(∀ c o,c≠z->c≠TO->c≠i1->c≠i2->s.heap.get? c=some o->h'.get? c=some o)->Q (some (.ref s.heap.objs.size)) { s with heap:=h' }) :
  wpAny (model prog w) A (pyNext (.ref z)) Q E s:=by
 have hT:s.TypeIs (.ref z) "zip":=st.type
 have lz:z < s.heap.objs.size:=by obtain⟨o,e,_⟩:=st.type; exact Heap.lt_size e
 have l1:i1 < s.heap.objs.size:=by obtain⟨o,e,_⟩:=st.s1.1; exact Heap.lt_size e
 have l2:i2 < s.heap.objs.size:=by obtain⟨o,e,_⟩:=st.s2.1; exact Heap.lt_size e
 have lT:TI < s.heap.objs.size:=Heap.lt_size st.ti
 unfold pyNext
 refine wpAny_bind (wpAny_attempt (wpAny_callSpecial?_slot (name:=Str.ofString "__next__") hT F.slot_zip_next (wpAny_call_entry F.slot_zip_next hT F.entry_zip_next ?_ (F.args_zip_next_1 _))))
 rcases st.zz with ⟨q,a,b,q2⟩ | ⟨T,oT,f,q,q2,q3,q4,q5,q6⟩
 ·refine zEC D (zA5 i1 a1 xs D.a.l1i1) (zA5 i2 a2 ys D.a.l2i2) ⟨q,st.ti,⟨a,b,q2⟩,st.s1,st.s2⟩ hx hy fun h' st' hp hk=>wpAny_pure ?_
  exact hQ h' ⟨.inr ⟨_,_,false,st'.z,hp,Nat.ne_of_gt lz,Nat.ne_of_gt l1,Nat.ne_of_gt l2,Nat.ne_of_gt hd⟩,st'.ti,st'.s1,st'.s2⟩ hp hk
 ·refine zJ3 D (zA5 i1 a1 xs D.a.l1i1) (zA5 i2 a2 ys D.a.l2i2) q q2 st.ti st.s1 st.s2 hx hy fun h' z' t1 t2 hp hk=>wpAny_pure ?_
  exact hQ h' ⟨.inr ⟨T,oT,true,z',hk _ _ q3 q4 q5 q2,q3,q4,q5,q6⟩,hk _ _ D.a.TIz D.a.TIi1 D.a.TIi2 st.ti,t1,t2⟩ hp fun c o c1 _ c3 c4 e=>hk c o c1 c3 c4 e
theorem zN2{Q:Option Value->Shared->Prop}(hh:A.handled=none)(D:ZAp z TI TO i1 i2 a1 a2)(st:ZL z TI TO i1 i2 a1 a2 d xs ys k s.heap)(hx:xs[k]?=none)
  (hQ:∀ h',(∀ c o,c≠z->c≠TO->c≠i1->c≠i2->s.heap.get? c=some o->h'.get? c=some o)->Q none { s with heap:=h' }) :
  wpAny (model prog w) A (pyNext (.ref z)) Q E s:=by
 have hT:s.TypeIs (.ref z) "zip":=st.type
 unfold pyNext
 refine wpAny_bind (wpAny_attempt (wpAny_callSpecial?_slot (name:=Str.ofString "__next__") hT F.slot_zip_next (wpAny_call_entry F.slot_zip_next hT F.entry_zip_next ?_ (F.args_zip_next_1 _))))
 rcases st.zz with ⟨q,a,b,q2⟩ | ⟨T,oT,f,q,q2,q3,q4,q5,q6⟩
 ·refine zEt hh D (zA5 i1 a1 xs D.a.l1i1) (zA5 i2 a2 ys D.a.l2i2) ⟨q,st.ti,⟨a,b,q2⟩,st.s1,st.s2⟩ (.inl hx) fun h' e hk he=>?_
  obtain⟨o,ho,hcl⟩:=he
  exact wpAny_bind (wpAny_isInstance (T:="StopIteration") (b:=true) ⟨o,ho,hcl⟩ isSubtype_stop (wpAny_pure (hQ h' hk)))
 ·refine zKu hh D (zA5 i1 a1 xs D.a.l1i1) q q2 st.ti st.s1 hx fun h' e hk he=>?_
  obtain⟨o,ho,hcl⟩:=he
  exact wpAny_bind (wpAny_isInstance (T:="StopIteration") (b:=true) ⟨o,ho,hcl⟩ isSubtype_stop (wpAny_pure (hQ h' fun c o c1 _ c3 _ e=>hk c o c1 c3 e)))
theorem zKW{knd:PySem.KeyKind prog w Key}{R:Result->Shared->Prop}(hh:A.handled=none)(D:ZAp z TI TO i1 i2 a1 a2)(n1:z≠d)(n2:TI≠d)(n3:TO≠d)(n4:i1≠d)(n5:i2≠d)(n6:a1≠d)(n7:a2≠d)
  (rs:List (Key×Value)) (hx:∀ (j:Nat) p,rs[j]?=some p->∃ key,xs[j]?=some key/\knd.is p.1 key=true/\ys[j]?=some p.2) (hxe:xs[rs.length]?=none) (hsz:rs.length<=100000) {s0:Shared}
  (hR:∀ h' tk,h'.DictOf knd d (merged [] rs)->(∀ c o,c≠z->c≠TO->c≠i1->c≠i2->c≠d->s0.heap.get? c=some o->h'.get? c=some o)->R (.ok (.ret .none)) { s0 with heap:=h',toks:=tk }) :
  ∀ (m k:Nat) (h:Heap) (tk:Nat) (t:Tok),rs.length - k=m->k<=rs.length->ZL z TI TO i1 i2 a1 a2 d xs ys k h->h.DictOf knd d (merged [] (rs.take k))->(∀ c o,c≠z->c≠TO->c≠i1->c≠i2->c≠d->s0.heap.get? c=some o->h.get? c=some o) ->
   codeAny (model prog w) A (.builtin "dict.update.loop" ⟨[.ref d,.ref z,.int (k:Int) t,.none],[]⟩) R { s0 with heap:=h,toks:=tk }:=by
 intro m
 induction m with
 | zero =>
  intro k h tk t hm hk st hD hkp
  have hkn:k=rs.length:=by omega
  subst hkn
  refine codeAny_builtin zB4 ?_
  rw[Around.under_plainId zBB _]
  show wpAny _ A.in1 (pyNext (.ref z) >>= _) _ _ _
  refine wpAny_bind (zN2 (s:={ s0 with heap:=h,toks:=tk }) (A:=A.in1) hh D st hxe fun h' hk'=>?_)
  show wpAny _ _ (Builtin.Dict.addKeywords d [] >>= _) _ _ _
  refine wpAny_bind (wpAny_pure (wpAny_pure ?_))
  rw[List.take_length]at hD
  refine hR h' tk (hD.at fun o e=>hk' d o n1.symm n3.symm n4.symm n5.symm e) fun c o c1 c2 c3 c4 c5 e=>hk' c o c1 c2 c3 c4 (hkp c o c1 c2 c3 c4 c5 e)
 | succ m ih =>
  intro k h tk t hm hk st hD hkp
  have hlt:k < rs.length:=by omega
  obtain⟨key,e1,e2,e3⟩:=hx k rs[k] (by simp[hlt])
  refine codeAny_builtin zB4 ?_
  rw[Around.under_plainId zBB _]
  show wpAny _ A.in1 (pyNext (.ref z) >>= _) _ _ _
  have hdl:d < h.objs.size:=by obtain⟨o,_,_,e,_⟩:=hD; exact Heap.lt_size e
  refine wpAny_bind (zNa (s:={ s0 with heap:=h,toks:=tk }) (A:=A.in1) D hdl st e1 e3 fun h' st' hp hk'=>?_)
  refine wpAny_bind (wpAny_holding ?_)
  refine wpAny_bind (wpAny_tryCatch ?_)
  unfold Builtin.Dict.pairItems
  refine wpAny_bind (wpAny_typeOf (show Shared.TypeIs _ (.ref h.objs.size) "tuple" from ⟨_,hp,rfl⟩) ?_)
  show wpAny _ _ (seqItems? (.ref h.objs.size) >>= _) _ _ _
  refine wpAny_bind (wpAny_seqItems hp rfl (wpAny_pure ?_))
  show wpAny _ _ (holding [key,(rs[k]).2] (dictSet d key (rs[k]).2)) _ _ _
  have hD':h'.DictOf knd d (merged [] (rs.take k)):=hD.at fun o e=>hk' d o n1.symm n3.symm n4.symm n5.symm e
  have hlm:(merged [] (rs.take k)).length<=sizeLine:=by
   have:=merged_length_le ([]:List (Key×Value)) (rs.take k)
   have e:(rs.take k).length<=100000:=by rw[List.length_take]; omega
   rw[List.length_nil]at this
   exact Nat.le_trans (by omega) (show 100000<=sizeLine by decide)
  refine wpAny_holding (wpAny_dictSet_pairs (hsz:=hlm) e2 hD' fun h2 hD2 hs=>?_)
  rw[← merged_take_succ [] rs k rs[k] (by simp[hlt])]at hD2
  refine wpAny_pure ⟨plainId_quiet zBB _,?_⟩
  refine ih (k+1) h2 (tk+1) 0 (by omega) (by omega) (st'.keep n1 n2 n3 n4 n5 n6 n7 fun c o hc e=>(hs.2 c hc).trans e) hD2 fun c o c1 c2 c3 c4 c5 e=>(hs.2 c c5).trans (hk' c o c1 c2 c3 c4 (hkp c o c1 c2 c3 c4 c5 e))
end
section
variable {prog:Program}{w:World}{A:Around}{E:Value->Shared->Prop}{s:Shared}{z TI TO i1 i2 a1 a2:Addr}{xs ys:Array Value}
theorem zFO{knd:PySem.KeyKind prog w Key}{Q:Value->Shared->Prop}(hh:A.handled=none)(D:ZAp z TI TO i1 i2 a1 a2)(hz:IsZip s.heap z TI TO .none)(hTO:∃ a b,IsPair s.heap TO a b)(hTI:IsPair s.heap TI (.ref i1) (.ref i2))
  (h1:s.heap.IsTupleIter i1 a1 0/\s.heap.IsTuple a1 xs) (h2:s.heap.IsTupleIter i2 a2 0/\s.heap.IsTuple a2 ys)
  (rs:List (Key×Value)) (hx:∀ (j:Nat) p,rs[j]?=some p->∃ key,xs[j]?=some key/\knd.is p.1 key=true/\ys[j]?=some p.2) (hxe:xs[rs.length]?=none) (hsz:rs.length<=100000)
  (h:∀ h' tk,h'.DictOf knd s.heap.objs.size (merged [] rs)->(∀ c o,c≠z->c≠TO->c≠i1->c≠i2->s.heap.get? c=some o->h'.get? c=some o)->Q (.ref s.heap.objs.size) { s with heap:=h',toks:=tk }) :
  wpAny (model prog w) A (call (.type "dict") [.ref z]) Q E s:=by
 refine callType_codes (Q₁:=fun obj s₁=>obj=.ref s.heap.objs.size/\s₁={ s with heap:=s.heap.push { cls:=.type "dict",data:=.dict #[] } }) PySem.F.kt_called_dict (PySem.F.kt_typeCall_dict_1 _) PySem.F.entry_dict_init (kt_code_dict_new _ ⟨rfl,rfl⟩) ?_
 rintro obj s₁ ⟨rfl,rfl⟩
 have hnew:(s.heap.push { cls:=.type "dict",data:=.dict #[] }).DictOf knd s.heap.objs.size []:=Heap.DictOf.new s.heap
 have up:∀ c o,s.heap.get? c=some o->(s.heap.push { cls:=.type "dict",data:=.dict #[] }).get? c=some o:=fun c o e=>Heap.get?_push_of_some _ e
 have hz':=up _ _ hz
 refine⟨hnew.typeIs,PySem.F.args_dict_init_2 _ _,?_⟩
 unfold Builtin.«dict.__init__»
 refine wpAny_bind ?_
 unfold Builtin.Dict.selfAndRest
 refine wpAny_bind (wpAny_notOrdered_dict hnew.typeIs ?_)
 show wpAny _ _ (pure (s.heap.objs.size,[Value.ref z])) _ _ _
 refine wpAny_pure ?_
 show wpAny _ _ (Builtin.Dict.updateFrom "dict.__init__" s.heap.objs.size (.ref z) [] .none) _ _ _
 unfold Builtin.Dict.updateFrom
 refine wpAny_bind (wpAny_typeOf (show Shared.TypeIs _ (.ref z) "zip" from ⟨_,hz',rfl⟩) ?_)
 rw[if_pos (by decide)]
 refine wpAny_bind (getAttr?_miss_zip hz' hh fun h3 tk3 e3 x3=>?_)
 rw[if_pos (by rfl)]
 refine wpAny_bind (wpAny_rule (wpAny_bind ?_))
 have up3:∀ c o,s.heap.get? c=some o->h3.get? c=some o:=fun c o e=>x3.1 c o (up c o e)
 refine wpAny_pyIter_zip (up3 _ _ hz) ?_
 have ne:∀ {c:Addr} {o:Obj},s.heap.get? c=some o->c≠s.heap.objs.size:=fun e=>Nat.ne_of_lt (Heap.lt_size e)
 obtain⟨pa,pb,hTO⟩:=hTO
 have g1:=h1; have g2:=h2
 obtain⟨⟨o1,q1,r1⟩,⟨o2,q2,r2⟩⟩:=h1
 obtain⟨⟨o3,q3,r3⟩,⟨o4,q4,r4⟩⟩:=h2
 refine wpAny_pure ⟨plainId_quiet zBB _,?_⟩
 refine zKW (knd:=knd) (d:=s.heap.objs.size) (A:=A.in1) (s0:={ s with heap:=h3,toks:=tk3 }) hh D (ne hz) (ne hTI) (ne hTO) (ne q1) (ne q3) (ne q2) (ne q4) rs hx hxe hsz (fun h' tk hd hk=>⟨rfl,h h' tk hd fun c o c1 c2 c3 c4 e=>hk c o c1 c2 c3 c4 (ne e) (up3 c o e)⟩) rs.length 0 h3 tk3 0 (by omega) (Nat.zero_le _) ⟨.inl ⟨up3 _ _ hz,pa,pb,up3 _ _ hTO⟩,up3 _ _ hTI,⟨⟨o1,up3 _ _ q1,r1⟩,⟨o2,up3 _ _ q2,r2⟩⟩,⟨⟨o3,up3 _ _ q3,r3⟩,⟨o4,up3 _ _ q4,r4⟩⟩⟩ (hnew.at fun o e=>x3.1 _ o e) fun c o _ _ _ _ _ e=>e
end
def tDZip(K:PySem.W.Frag)(ta:TA):TE:=fun σ H Q=>ta σ H fun vs H1=>∃ (a1 a2:Addr) (ks:List Key) (us:List V),vs=[.ref a1,.ref a2]/\SqT K H1 a1 (ks.map kV)/\SqT K H1 a2 us/\us.length=ks.length/\ks.length<=100000/\∀ p,H1 p=none->Q (.ref p) (upd H1 p (.dK (mergeK [] (ks.zip us))))
theorem zNJ{X:Cx}{e1 e2:Expr}{ta:TA}{p p0 pos pos0:Pos}(hr:X.A.handled=none)(hg:Gl X "zip")(hm:X.mg "zip"=none)(hg0:Gl X "dict")(hm0:X.mg "dict"=none)(ha:PA X [e1,e2] ta)(hs:starEach [e1,e2] X.env=[(false,eval e1 X.env),(false,eval e2 X.env)]:=by rfl)(hs2:starEach [e2] X.env=[(false,eval e2 X.env)]:=by rfl)
  (hs3:starEach [.Call (.Name "zip" p) [e1,e2] [] pos] X.env=[(false,eval (.Call (.Name "zip" p) [e1,e2] [] pos) X.env)]:=by rfl) :
  PE X (.Call (.Name "dict" p0) [.Call (.Name "zip" p) [e1,e2] [] pos] [] pos0) (tDZip X.K ta):=by
 intro pins s σ H Q I h
 refine Call_ (zBE I hg0 hm0 PyProof.Rows.boot_dict (PyProof.Rows.callWith_type1 ?_ hs3 rfl))
 rw[hs3]
 refine Calls.spliced_cons ?_
 refine Call_ (zBE I hg hm boot_zip (PyProof.Rows.callWith_type1 (thn (ha pos pins s σ H _ I h) fun us s1 ⟨vs,H1,I1,r1,q1⟩=>?_) (by rw[hs,hs2]) (by rw[hs2]; rfl)))
 obtain⟨a1,a2,ks,ws,e,h1,h2,hlen,hsz,q⟩:=q1
 subst e
 obtain⟨u1,u2,e,r,r'⟩:=vals2 r1
 subst e
 cases r; cases r'
 obtain⟨its1,v1,o1,z1⟩:=I1.tuple h1
 obtain⟨its2,v2,o2,z2⟩:=I1.tuple h2
 have lt1:a1 < s1.heap.objs.size:=by obtain⟨o,e,_⟩:=(show s1.heap.IsTuple a1 its1.toArray from o1); exact Heap.lt_size e
 have lt2:a2 < s1.heap.objs.size:=by obtain⟨o,e,_⟩:=(show s1.heap.IsTuple a2 its2.toArray from o2); exact Heap.lt_size e
 have D:ZAp (s1.heap.objs.size+4) (s1.heap.objs.size+2) (s1.heap.objs.size+3) s1.heap.objs.size (s1.heap.objs.size+1) a1 a2 :=
  ⟨zipApart_new lt1 lt2,Nat.ne_of_lt (Nat.lt_of_lt_of_le lt1 (Nat.le_add_right _ 2)),Nat.ne_of_lt (Nat.lt_of_lt_of_le lt2 (Nat.le_add_right _ 2))⟩
 refine zJT o1 o2 fun h' st hk=>Calls.spliced_nil ?_
 have hl1:=v1.length
 have hl2:=v2.length
 rw[List.length_map]at hl1
 have lrs:(ks.zip its2).length=ks.length:=by rw[List.length_zip]; omega
 obtain⟨t1o,t1e,t1r⟩:=(show s1.heap.IsTuple a1 its1.toArray from o1)
 obtain⟨t2o,t2e,t2r⟩:=(show s1.heap.IsTuple a2 its2.toArray from o2)
 refine zFO (knd:=mixKind X.prog X.w) (s:={ s1 with heap:=h' }) (xs:=its1.toArray) (ys:=its2.toArray) hr D st.z st.to st.ti ⟨st.s1,⟨t1o,hk _ _ t1e,t1r⟩⟩ ⟨st.s2,⟨t2o,hk _ _ t2e,t2r⟩⟩ (ks.zip its2) (fun j pr hj=>?_) (by rw[lrs]; simp; omega) (by rw[lrs]; exact hsz) fun h4 tk hd hk4=>?_
 ·obtain⟨g1,g2⟩:=List.getElem?_zip_eq_some.mp hj
  obtain⟨key,e1,r1⟩:=v1.get (i:=j) (x:=kV pr.1) (by rw[List.getElem?_map,g1]; rfl)
  exact⟨key,by simpa using e1,zD8 r1,by simpa using g2⟩
 ·have old:∀ c o,s1.heap.get? c=some o->h4.get? c=some o:=fun c o e=>by
   have hc:=Heap.lt_size e
   exact hk4 c o (Nat.ne_of_lt (Nat.lt_of_lt_of_le hc (Nat.le_add_right _ 4))) (Nat.ne_of_lt (Nat.lt_of_lt_of_le hc (Nat.le_add_right _ 3))) (Nat.ne_of_lt hc) (Nat.ne_of_lt (Nat.lt_of_lt_of_le hc (Nat.le_add_right _ 1))) (hk c o e)
  have hb:s1.heap.objs.size<=h'.objs.size:=Nat.le_of_lt (Nat.lt_of_le_of_lt (Nat.le_add_right _ 4) (Heap.lt_size st.z))
  have rel:KV (ks.zip ws) (ks.zip its2):=by
   have gen:∀ (ks:List Key) (ws:List V) (its2:List Value),Vals ws its2->ws.length=ks.length->KV (ks.zip ws) (ks.zip its2):=by
    intro ks
    induction ks with
    | nil=>intro ws its2 v2 hlen; simp; exact .nil
    | cons k r ih =>
     intro ws its2 v2 hlen
     cases v2 with
     | nil=>cases hlen
     | cons a b=>exact .cons ⟨rfl,a⟩ (ih _ _ b (by simpa using hlen))
   exact gen ks ws its2 v2 hlen
  refine⟨.ref h'.objs.size,_,I1.laid (a:=h'.objs.size) (o:=.dK (mergeK [] (ks.zip ws))) (t':=tk) old hb (zJP ?_ ?_ (rel.merge .nil) hd),rfl,q _ (I1.hok.fresh hb)⟩
  ·have e1:=zB3 (ks.zip ws) []
   have e2:(ks.zip ws).length<=ks.length:=by rw[List.length_zip]; omega
   rw[List.length_nil]at e1
   exact Nat.le_trans (by omega) (show 100000<=sizeLine by decide)
  ·exact beq_eq_false_iff_ne.mpr (Nat.ne_of_gt (Nat.lt_of_lt_of_le I1.big hb))
end L2
namespace D
open PySem L2
def dDZip(fa:DA):DE:=fun Γ=>(fa Γ).bind fun p=>match p.1 with
 | [.v (.t xs),.v (.t ys)]=>(keyTs xs).bind fun ks=>if ys.length=ks.length/\ks.length<=100000 then some (.d (.inl ((ks.zip ys).foldl (fun acc kv=>putT acc kv.1 kv.2) [])),p.2) else none
 | _=>none
theorem zJ5{K:Fg}{H:Hp}:∀ (ks:List Key) {us:List V} {ys:List T},Ims K H us ys->PR K H (ks.zip us) (ks.zip ys)
 | [],_,_,_=>by simp; exact .nil
 | k::r,us,[],h=>by rw[h.inv0]; exact .nil
 | k::r,us,y::ys,h=>by obtain⟨v,vs,rfl,h1,h2⟩:=h.inv; exact .cons ⟨rfl,h1⟩ (zJ5 r h2)
theorem zKY{K:Fg}{H:Hp}{more:List (Key×V)}{mt:List (Key×T)}(h:PR K H more mt):∀ {l:List (Key×V)} {kvs:List (Key×T)},PR K H l kvs->PR K H (mergeK l more) (mt.foldl (fun acc kv=>putT acc kv.1 kv.2) kvs):=by
 induction h with
 | nil=>intro l kvs q; exact q
 | @cons a b more mt hab _ ih =>
  intro l kvs q
  have:=q.put a.1 hab.2
  rw[hab.1]at this
  show PR K H (mergeK (putK l a.1 a.2) more) _
  rw[hab.1]
  exact ih this
theorem zKi{K:Fg}{ta:TA}{fa:DA}(ha:SimA K ta fa):SimE K (tDZip K ta) (dDZip fa):=by
 intro C w Γ σ H s Γ' Q R e k
 obtain⟨⟨as,G1⟩,e1,e⟩:=bind_some e
 dsimp only at e
 split at e
 ·rename_i xs ys
  obtain⟨ks,e2,e⟩:=bind_some e
  split at e
  ·rename_i hl
   cases e
   refine ha C w Γ σ H _ _ _ R e1 fun vs H1 R1 ev1 o1 n1=>?_
   obtain⟨v,u,rfl,o2,o3⟩:=soks2 o1
   obtain⟨p,vs,rfl,h1,i1⟩:=o2.invt
   obtain⟨q,us,rfl,h2,i2⟩:=o3.invt
   have hv:=zGA i1 e2
   subst hv
   refine⟨p,q,ks,us,rfl,h1.sq,h2.sq,by rw[i2.len]; exact hl.1,hl.2,fun c hc=>?_⟩
   exact k _ _ (R1.new hc) (ev1.trans (Evo.new hc)) (R1.newd (kvs:=.inl _) hc (zKY (zJ5 ks i2) (show PR K H1 [] [] from .nil))) ⟨c,rfl,by
    cases hz:H c with
    | none=>rfl
    | some o =>
     by_cases hL:c∈w.L
     ·exact absurd hL (R1.fresh hc).1
     ·rw[ev1 c o hz hL]at hc; cases hc⟩
  ·cases e
 ·cases e
def getKS:En->S->S->Option S:=fun Γ a b=>(dictOf Γ a).bind fun d=>match d,b with
 | .inl kvs,.v t=>(keyT t).bind fun k=>(valT kvs k).map .v
 | _,_=>none
theorem zGs{K:Fg}:SimR2 K rDGet getKS:=by
 intro C w Γ σ H x y a b s Q R ox oy e k
 obtain⟨d,e1,e⟩:=bind_some e
 split at e
 ·rename_i kvs t
  obtain⟨ky,e2,e⟩:=bind_some e
  obtain⟨p,ob,rfl,hp,hd⟩:=zEU R ox e1
  obtain⟨l,rfl,h1⟩:=hd.invK
  rcases h1.val ky with ⟨_,q⟩ | ⟨v,t',q1,q2,q3⟩
  ·rw[q]at e; cases e
  ·rw[q2]at e; cases e
   have hy:=zEV oy e2
   subst hy
   exact⟨p,v,rfl,by rw[← q1]; exact DGet.k hp,k _ H R .refl q3 trivial⟩
 ·cases e
section
variable {ι:Type}{K:Fg}{mg:Str->Option Value}{k:Nat}{X:ι->Cx}{o i:Expr}{fo fk:DE}{pos:Pos}{Γ:En}
theorem zKx(M:Fm K mg k X)(ho:EX K X o fo)(hk:EX K X i fk)(hs:NoSl i:=by intro _ _; rfl):EX K X (.Subscript o i pos) (dOp getKS fo fk) :=
 let ⟨_,p,s⟩:=ho; let ⟨_,q,u⟩:=hk; ⟨_,fun j=>zMT (un1 M j) (p j) (q j) hs,zC9 zGs s u⟩
end
section
variable {ι:Type}{K:Fg}{mg:Str->Option Value}{k:Nat}{X:ι->Cx}{a b:Expr}{da:DA}{p p0 pos pos0:Pos}{Γ:En}
theorem zNA(M:Fm K mg k X)(hm:mg "zip"=none)(hm0:mg "dict"=none)(ha:AX K X [a,b] da)(hg:∀ j,Gl (X j) "zip":=by intro _; rfl)(hg0:∀ j,Gl (X j) "dict":=by intro _; rfl)(hs:∀ j,starEach [a,b] (X j).env=[(false,eval a (X j).env),(false,eval b (X j).env)]:=by intro _; rfl)
  (hs2:∀ j,starEach [b] (X j).env=[(false,eval b (X j).env)]:=by intro _; rfl) (hs3:∀ j,starEach [.Call (.Name "zip" p) [a,b] [] pos] (X j).env=[(false,eval (.Call (.Name "zip" p) [a,b] [] pos) (X j).env)]:=by intro _; rfl):EX K X (.Call (.Name "dict" p0) [.Call (.Name "zip" p) [a,b] [] pos] [] pos0) (dDZip da) :=
 let ⟨t,q,u⟩:=ha; ⟨tDZip K t,fun j=>by have:=zNJ (p:=p) (p0:=p0) (pos:=pos) (pos0:=pos0) (M.room j).hd (hg j) (by rw[M.mg]; exact hm) (hg0 j) (by rw[M.mg]; exact hm0) (q j) (hs j) (hs2 j) (hs3 j); rw[M.K j]at this; exact this,zKi u⟩
end
end D
namespace L2
open PySem PySem.W PyProof.Rows
section
variable {n:Nat}(h0:0 < n)
include h0
end
open PySem PySem.Spec PyProof.Rows
theorem zCH(a:Int)(t:Tok)(l:Addr)(items:Array Value)(n:Nat)(dd:Option Addr)(sl:Array (Option Value)) :
  Meets (Builtin.«int.__rmul__» ⟨[.int a t,.ref l],[]⟩) (fun _ R s=>s.heap.get? l=some { cls:=.type "tuple",dict:=dd,data:=.seq items n,slots:=sl }/\R (.ok (.ret Value.notImplemented)) s):=zEN a t l items n dd sl
theorem mul_one(l:Addr)(v:Value)(n:Nat)(dd:Option Addr)(sl:Array (Option Value))(t:Tok) :
  Meets (Builtin.«tuple.__mul__» ⟨[.ref l,.int 1 t],[]⟩) (fun _ R s=>s.heap.get? l=some { cls:=.type "tuple",dict:=dd,data:=.seq #[v] n,slots:=sl }/\R (.ok (.ret (.ref l))) s) :=
 .of_wp fun prog w A R s h=>by
  obtain⟨hp,g,d,tk,os⟩:=s; obtain⟨hl,h⟩:=h
  have f1:=AutoSeq1.idx_int; have f2:=AutoSeq1.sub_tuple_tuple
  wp_walk using wpAny_loadPart' hl
  exact⟨_,rfl,h⟩
theorem zKy(l:Addr)(items:Array Value)(n:Nat)(k:Int)(dd:Option Addr)(sl:Array (Option Value))(t:Tok)(h1:¬ (decide (k < -2 ^ 63) || decide (k ≥ 2 ^ 63))=true)(h2:¬ (items.isEmpty || k == 1)=true)(h3:¬ (decide (k<=0) || items.isEmpty)=true)
  (h4:¬ (items.size:Int) * k > (2 ^ 63 - 1) / 8) (h5:¬ Builtin.Tuple.tupleTooMany (items.size * k)=true) (hsz:((List.replicate k.toNat items).foldl (fun x1 x2=>x1++x2) #[]).size<=sizeLine) :
  Meets (Builtin.«tuple.__mul__» ⟨[.ref l,.int k t],[]⟩) (fun _ R s=>s.heap.get? l=some { cls:=.type "tuple",dict:=dd,data:=.seq items n,slots:=sl }/\R (.ok (.ret (.ref s.heap.objs.size))) { s with heap:=s.heap.push { cls:=.type "tuple",data:=.seq ((List.replicate k.toNat items).foldl (fun x1 x2=>x1++x2) #[]) } }) :=
 .of_wp fun prog w A R s h=>by
  obtain⟨hp,g,d,tk,os⟩:=s; obtain⟨hl,h⟩:=h
  have f1:=AutoSeq1.idx_int; have f2:=AutoSeq1.sub_tuple_tuple
  wp_walk using wpAny_loadPart' hl
  rw[if_neg h1]
  wp_walk using wpAny_loadPart' hl
  rw[if_neg h4]
  dsimp only
  rw[if_neg h5]
  wp_walk using wpAny_loadPart' hl
  exact⟨_,rfl,h⟩
theorem zGJ(v:Value):∀ (n:Nat) (acc:Array Value),(List.replicate n #[v]).foldl (fun x1 x2=>x1++x2) acc=acc++(List.replicate n v).toArray
 | 0,acc=>by simp
 | n+1,acc=>by rw[List.replicate_succ,List.foldl_cons,zGJ v n,List.replicate_succ]; apply Array.ext'; simp
def rRepN(K:PySem.W.Frag):R2:=fun x y H Q=>∃ a z,∃ n:Nat,x=.ref a/\y=.int (n:Int)/\D.Tp K H a [z]/\0 < n/\n<=1000/\∀ p H',Same H H'->D.Tp K H' p (List.replicate n z)->Q (.ref p) H'
theorem zMV{X:Cx}:OpR X (binaryOp .Mult) (rRepN X.K):=by
 intro pins s σ H x y v u Q I rx ry h
 obtain⟨a,z,k,rfl,rfl,ht,h0,hz,q⟩:=h
 cases rx
 obtain⟨t,rfl⟩:=ry
 obtain⟨its,rv,⟨⟨cls,dd,data,sl⟩,ho,hc,n,hd⟩,hz2⟩:=I.tuple ht.sq
 obtain⟨w1,rfl,r1⟩:=vals1 rv
 simp only at hc hd
 subst hc hd
 refine wpAny_binaryOp_repeat_ref (T:="tuple") (U:="int") (by decide) ⟨_,ho,rfl⟩ (fun s'=>typeIs_int s' _ t) zBR F.fills_int_mul F.slot_int_rmul zCG F.slot_int_index.lookup
  (call_meets F.slot_int_rmul (typeIs_int s _ t) F.entry_int_rmul (F.args_int_rmul_2 _ _) (zCH _ t a _ n dd sl) ⟨ho,rfl,⟨_,ho,rfl⟩,?_⟩)
 by_cases h1:k=1
 ·subst h1
  exact call_meets F.slot_tuple_mul ⟨_,ho,rfl⟩ F.entry_tuple_mul (F.args_tuple_mul_2 _ _) (mul_one a w1 n dd sl t) ⟨ho,⟨.ref a,H,I,rfl,q a H (Same.refl H) ht⟩⟩
 ·have fl:(List.replicate (k:Int).toNat [w1].toArray).foldl (fun x1 x2=>x1++x2) #[]=(List.replicate k w1).toArray:=by
   rw[Int.toNat_natCast]
   have:=zGJ w1 k #[]
   simpa using this
  have e1:((k:Int) == 1)=false:=by simp; omega
  have e2:decide ((k:Int)<=0)=false:=by simp; omega
  have hs:([w1].toArray.size:Int)=1:=rfl
  refine call_meets F.slot_tuple_mul ⟨_,ho,rfl⟩ F.entry_tuple_mul (F.args_tuple_mul_2 _ _) (zKy a [w1].toArray n (k:Int) dd sl t (by simp; omega) (by rw[e1]; simp) (by rw[e2]; simp) (by rw[hs]; omega) (by
   unfold Builtin.Tuple.tupleTooMany
   rw[hs,sizeLine_eq]
   simp; omega) (by rw[fl,List.size_toArray,List.length_replicate,sizeLine_eq]; omega)) ⟨ho,?_⟩
  rw[fl]
  have hf:H s.heap.objs.size=none:=I.hok.fresh (Nat.le_refl _)
  have rr:∀ m:Nat,Vals (List.replicate m z) (List.replicate m w1):=fun m=>by
   induction m with
   | zero=>exact .nil
   | succ m ih=>exact .cons r1 ih
  exact⟨.ref s.heap.objs.size,_,I.laid (t':=s.toks) (fun b o e=>Heap.get?_push_of_some _ e) (Nat.le_refl _) (show ObjOk X.prog X.w _ _ _ (.tup (List.replicate k z)) from ⟨by rw[List.length_replicate,sizeLine_eq]; omega,List.replicate k w1,rr k,TupD.new _ _⟩),rfl,q _ _ (Same.upd hf) (.inl zAg)⟩
end L2
namespace D
open PySem L2
def mulTupN:En->S->S->Option S:=fun _ a b=>match a,b with
 | .v (.t [x]),.v (.a (.int n))=>if 0 < n.toNat/\n.toNat<=1000 then some (.v (.t (List.replicate n.toNat x))) else none
 | _,_=>none
theorem zFI{K:Fg}:SimR2 K (rRepN K) mulTupN:=by
 intro C w Γ σ H x y a b s Q R ox oy e k
 unfold mulTupN at e
 split at e
 ·rename_i x' n
  split at e
  ·rename_i hl
   cases e
   obtain⟨p,vs,rfl,ht,hi⟩:=ox.invt
   obtain⟨v,r,rfl,i1,i2⟩:=hi.inv
   have:=i2.inv0
   subst this
   have ey:=oy.inva
   subst ey
   refine⟨p,v,n.toNat,rfl,by rw[Int.toNat_of_nonneg (by omega)],ht,hl.1,hl.2,fun q H' hs hq=>?_⟩
   have i1':Im K H' v x':=i1.evo (L:=[]) (fun b o e _=>hs b o e) (fun _ z=>nomatch z)
   have ir:∀ m:Nat,Ims K H' (List.replicate m v) (List.replicate m x'):=fun m=>by
    induction m with
    | zero=>exact .nil
    | succ m ih=>exact .cons i1' ih
   exact k _ H' (R.same hs) (Evo.of_same hs) (by show Im K H' (.ref q) _; unfold Im; exact⟨q,_,rfl,hq,ir _⟩) trivial
  ·cases e
 ·cases e
def mulS3:En->S->S->Option S:=fun Γ x y=>(mulS Γ x y).or (mulTupN Γ x y)
theorem zHf{K:Fg}:SimR2 K (fun x y H Q=>rMulS x y H Q\/rRepN K x y H Q) mulS3:=zE2.or zFI
end D
namespace D
open PySem L2
example (P:Program) (w:World):(mixKind P w).hash (.inl 1)=1/\(mixKind P w).hash (.inl 2)=2:=⟨by rfl,by rfl⟩
end D
namespace L2
open PySem PySem.Spec PyProof.Rows PySem.W
structure Kds(prog:Program)(w:World)(T:String)(r d:Addr)(n:Nat)(P:Nat->Value->Prop)(St:Nat->Heap->Prop):Prop where
 type:∀ s:Shared,St 0 s.heap->s.TypeIs (.ref r) T
 there:∀ h:Heap,St 0 h->r < h.objs.size/\d < h.objs.size
 notList:(Value.type T == Value.type "list")=false
 notTuple:(Value.type T == Value.type "tuple")=false
 hint:∀ (A:Around) (E:Value->Shared->Prop) (s:Shared) (Q:Bool->Shared->Prop),St 0 s.heap->(∀ b tk,Q b { s with toks:=tk })->wpAny (model prog w) A (Builtin.List.listLengthHint (.ref r)) Q E s
 iter:∀ (A:Around) (E:Value->Shared->Prop) (s:Shared) (Q:Value->Shared->Prop),St 0 s.heap->Q (.ref r) s->wpAny (model prog w) A (pyIter (.ref r)) Q E s
 walks:∀ (A:Around),A.handled=none->Walks prog w A r [r,d] [r] n P St
section
variable {prog:Program}{w:World}{A:Around}{E:Value->Shared->Prop}{s:Shared}{T:String}{r d:Addr}{n:Nat}{P:Nat->Value->Prop}{St:Nat->Heap->Prop}
theorem zH9{R:Result->Shared->Prop}(K:Kds prog w T r d n P St)(hh:A.handled=none)(hok:St 0 s.heap)(S:Addr)(hSr:S≠r)(hSd:S≠d)(res:Value)(c₀:Nat)(hS:s.heap.get? S=some { cls:=.type "list",data:=.seq #[] c₀ })
  (hR:∀ h' tk acc' c',(∀ b o,b≠S->b≠r->s.heap.get? b=some o->h'.get? b=some o)->h'.get? S=some { cls:=.type "list",dict:=none,data:=.seq acc' c',slots:=#[] }->ItemsOf P acc' n->R (.ok (.ret res)) { s with heap:=h',toks:=tk }) (hn:n<=sizeLine) :
  wpAny (model prog w) A.in1 (Builtin.List.listExtendWith (.ref S) (.ref r) res)
   (fun fin s'=>match fin with | .done f=>R (.ok f) s' | .again c'=>c'.quiet=true/\codeAny (model prog w) A c' R s') (fun e s'=>R (.error e) s') s:=by
 have hSf:S∉[r,d]:=by simp only[List.mem_cons,List.not_mem_nil,or_false,not_or]; exact⟨hSr,hSd⟩
 have W:=K.walks A.in1 hh
 have key:∀ (h:Heap) (c₁ tk:Nat),St 0 h->(∀ b o,b≠S->b≠r->s.heap.get? b=some o->h.get? b=some o) ->
   h.get? S=some { cls:=.type "list",data:=.seq #[] c₁ }->codeAny (model prog w) A (.builtin "list.extend.loop" ⟨[.ref S,.ref r,res],[]⟩) R { s with heap:=h,toks:=tk }:=by
  intro h c₁ tk hst hk hS₁
  refine codeAny_extend_loopS W.toS hn S hSf res n 0 _ #[] c₁ rfl (Nat.zero_le _) hst hS₁ (ItemsOf.nil _) fun s' acc' c' hm hS' hacc=>?_
  rw[Moved.eq_with hm]
  refine hR s'.heap s'.toks acc' c' (fun b o hb hb2 e=>hm.heap b o (fun hmem=>?_) (hk b o hb hb2 e)) hS' hacc
  rcases List.mem_cons.mp hmem with e' | hmem
  ·exact hb e'
  ·exact hb2 (List.mem_singleton.mp hmem)
 unfold Builtin.List.listExtendWith
 refine wpAny_bind (wpAny_typeOf (T:=T) (K.type s hok) ?_)
 have h1:Builtin.List.listSameRef (.ref S) (.ref r)=false:=by simp[Builtin.List.listSameRef,hSr]
 simp only[h1,K.notList,K.notTuple,Bool.or_false,Bool.false_eq_true,if_false]
 refine wpAny_bind (K.iter _ _ _ _ hok ?_)
 refine wpAny_bind (wpAny_holding (K.hint _ _ _ _ hok fun b tk=>?_))
 refine wpAny_ite_split (fun _=>?_) (fun _=>wpAny_pure ⟨plainId_quiet PySem.F.plain_extend_loop _,key _ c₀ _ hok (fun b o _ _ e=>e) hS⟩)
 refine wpAny_bind (wpAny_rule ?_)
 refine wpAny_bind ?_
 show wpAny _ _ (updateSeq S (·.push .none) >>= fun _=>updateSeq S (·.pop)) _ _ _
 refine wpAny_bind (wpAny_updateSeq hS rfl ?_)
 have hS₂:=Heap.get?_update_self (Obj.mapSeq (·.push Value.none)) hS rfl
 refine wpAny_updateSeq (hz:=by seq_fits) hS₂ rfl ?_
 have hS₃:=Heap.get?_update_self (Obj.mapSeq (·.pop)) hS₂ rfl
 refine wpAny_pure ⟨plainId_quiet PySem.F.plain_extend_loop _,key _ _ _ ?_ (fun b o hb _ e=>?_) hS₃⟩
 ·refine W.frame 0 _ _ hok fun b hb o e=>?_
  have hbS:b≠S:=fun h=>hSf (h ▸ hb)
  exact (Heap.get?_update_other _ _ (Ne.symm hbS)).trans ((Heap.get?_update_other _ _ (Ne.symm hbS)).trans e)
 ·exact (Heap.get?_update_other _ _ (Ne.symm hb)).trans ((Heap.get?_update_other _ _ (Ne.symm hb)).trans e)
theorem zKX{R:Result->Shared->Prop}(K:Kds prog w T r d n P St)(hh:A.handled=none)(hok:St 0 s.heap)(S:Addr)(hSr:S≠r)(hSd:S≠d)(hS:s.heap.get? S=some { cls:=.type "list",data:=.seq #[] })
  (hR:∀ h' tk acc' c',(∀ b o,b≠S->b≠r->s.heap.get? b=some o->h'.get? b=some o)->h'.get? S=some { cls:=.type "list",dict:=none,data:=.seq acc' c',slots:=#[] }->ItemsOf P acc' n->R (.ok (.ret .none)) { s with heap:=h',toks:=tk }) (hn:n<=sizeLine) :
  wpAny (model prog w) A.in1 (Builtin.«list.__init__» ⟨[.ref S,.ref r],[]⟩)
   (fun fin s'=>match fin with | .done f=>R (.ok f) s' | .again c'=>c'.quiet=true/\codeAny (model prog w) A c' R s') (fun e s'=>R (.error e) s') s:=by
 show wpAny _ _ (do let old ← Builtin.List.listItems (.ref S); Builtin.List.listUpdate (.ref S) (fun _=>#[]); letGo old.toList.reverse; Builtin.List.listExtendWith (.ref S) (.ref r) .none) _ _ s
 refine wpAny_bind ?_
 unfold Builtin.List.listItems
 refine wpAny_bind (wpAny_seqItems hS rfl (wpAny_pure ?_))
 show wpAny _ _ (updateSeq S (fun _=>#[]) >>= fun _=>letGo (#[]:Array Value).toList.reverse >>= fun _=>Builtin.List.listExtendWith (.ref S) (.ref r) .none) _ _ s
 refine wpAny_bind (wpAny_updateSeq hS rfl ?_)
 have hS₂:=Heap.get?_update_self (Obj.mapSeq (fun _=>(#[]:Array Value))) hS rfl
 have oth:∀ b o,b≠S->s.heap.get? b=some o->(s.heap.update S (Obj.mapSeq (fun _=>(#[]:Array Value)))).get? b=some o :=
  fun b o hb e=>(Heap.get?_update_other _ _ (Ne.symm hb)).trans e
 refine wpAny_bind (wpAny_letGo ?_)
 refine zH9 K hh ((K.walks A hh).frame 0 _ _ hok fun b hb o e=>oth b o (fun z=>by
  subst z
  simp only[List.mem_cons,List.not_mem_nil,or_false]at hb
  rcases hb with q | q
  ·exact hSr q
  ·exact hSd q) e) S hSr hSd .none _ hS₂ (fun h' tk acc' c' hk hS' hacc=>?_) hn
 exact hR h' tk acc' c' (fun b o hb hb2 e=>hk b o hb hb2 (oth b o hb e)) hS' hacc
theorem zF1{Q:Value->Shared->Prop}(K:Kds prog w T r d n P St)(hh:A.handled=none)(hok:St 0 s.heap)(hn:n<=sizeLine)
  (hQ:∀ h' tk acc' c',(∀ b o,b≠r->s.heap.get? b=some o->h'.get? b=some o)->h'.get? s.heap.objs.size=some { cls:=.type "list",dict:=none,data:=.seq acc' c',slots:=#[] }->ItemsOf P acc' n->Q (.ref s.heap.objs.size) { s with heap:=h',toks:=tk }) :
  wpAny (model prog w) A (call (.type "list") [.ref r]) Q E s:=by
 refine callType_codes (Q₁:=fun obj s₁=>obj=.ref s.heap.objs.size/\s₁={ s with heap:=s.heap.push { cls:=.type "list",data:=.seq #[] } }) PySem.F.called_list (PySem.F.typeCall_list_1 _) PySem.F.entry_list_init
  (code_list_new _ ⟨rfl,rfl⟩) fun obj s₁ h₁=>?_
 obtain⟨rfl,rfl⟩:=h₁
 have hS:(s.heap.push { cls:=.type "list",data:=.seq #[] }).get? s.heap.objs.size=some { cls:=.type "list",data:=.seq #[] }:=Heap.get?_push_size _ rfl
 have hlt:=K.there _ hok
 refine⟨⟨_,hS,rfl⟩,PySem.F.args_list_init_2 _ _,zKX (A:=A.in1) K hh ((K.walks A hh).frame 0 _ _ hok fun b _ o e=>Heap.get?_push_of_some _ e) _ (Nat.ne_of_gt hlt.1) (Nat.ne_of_gt hlt.2) hS (fun h' tk acc' c' hk hS' hacc=>?_) hn⟩
 exact⟨rfl,hQ h' tk acc' c' (fun b o hb e=>hk b o (Nat.ne_of_lt (Heap.lt_size e)) hb (Heap.get?_push_of_some _ e)) hS' hacc⟩
end
section
variable {prog:Program}{w:World}{A:Around}{E:Value->Shared->Prop}{s:Shared}
theorem zKh{r:Addr}{Q:Bool->Shared->Prop}(hT:s.TypeIs (.ref r) "list_reverseiterator")(h:Q false s):wpAny (model prog w) A (Builtin.List.listLengthHint (.ref r)) Q E s:=by
 unfold Builtin.List.listLengthHint
 refine wpAny_bind (wpAny_specialOf (r:=none) hT (by rw[typeLookup_type,builtinLookup_eq_fast]; kernel_rfl) ?_)
 wp_delta
 refine wpAny_bind (wpAny_specialOf (r:=some (.builtin "list_reverseiterator.__length_hint__")) hT (by rw[typeLookup_type,builtinLookup_eq_fast]; kernel_rfl) ?_)
 generalize hid:("list_reverseiterator.__length_hint__":String)=id0
 wp_delta
 rw[show splitId id0=some ("list_reverseiterator","__length_hint__") from by subst hid; decide +kernel]
 subst hid
 refine wpAny_bind (wpAny_isInstance (T:="list_reverseiterator") (b:=true) hT (by rw[isSubtype_type]; kernel_rfl) ?_)
 refine wpAny_ite_split (fun hab=>absurd hab (by decide)) (fun _=>?_)
 refine wpAny_ite_split (fun _=>?_) (fun hab=>absurd (by decide +kernel) hab)
 refine wpAny_ite_split (fun hab=>absurd hab (by decide +kernel)) (fun _=>?_)
 exact wpAny_pure h
theorem zG8:Slot "reversed" "__length_hint__" "reversed.__length_hint__" :=
 .of (owner:="reversed") (n:="__length_hint__") (by rw[typeLookup_type,builtinLookup_eq_fast]; kernel_rfl) (by decide +kernel) (by decide +kernel) (by decide +kernel)
  (by first | exact .inl (by decide +kernel) | exact .inr (by decide +kernel)) (by rw[isSubtype_type]; kernel_rfl)
theorem zFC:entryFor table "reversed.__length_hint__"=some Builtin.«reversed.__length_hint__»:=entryFor_of_tree (by kernel_rfl)
theorem zGS(a:Value):argsOk "reversed.__length_hint__" ⟨[a],[]⟩:=by
 unfold argsOk; rw[signature?_of (id:="reversed.__length_hint__") (n:=['_','_','t','n','i','h','_','h','t','g','n','e','l','_','_']) (o:=['d','e','s','r','e','v','e','r']) (by kernel_rfl) zDd]; kernel_rfl
theorem zM9{r l:Addr}{i:Nat}{xs:Array Value}{Q:Bool->Shared->Prop}(he:IsRv s.heap r l ((i:Int) - 1))(hl:s.heap.IsTuple l xs)(hz:xs.size<=sizeLine)(hi:i<=xs.size)(h:∀ b tk,Q b { s with toks:=tk }):wpAny (model prog w) A (Builtin.List.listLengthHint (.ref r)) Q E s:=by
 have hT:s.TypeIs (.ref r) "reversed":=⟨_,he,rfl⟩
 unfold Builtin.List.listLengthHint
 refine wpAny_bind (wpAny_specialOf (r:=none) hT (by rw[typeLookup_type,builtinLookup_eq_fast]; kernel_rfl) ?_)
 wp_delta
 refine wpAny_bind (wpAny_specialOf (r:=some (.builtin "reversed.__length_hint__")) hT (by rw[typeLookup_type,builtinLookup_eq_fast]; kernel_rfl) ?_)
 generalize hid:("reversed.__length_hint__":String)=id0
 wp_delta
 rw[show splitId id0=some ("reversed","__length_hint__") from by subst hid; decide +kernel]
 subst hid
 refine wpAny_bind (wpAny_isInstance (T:="reversed") (b:=true) hT (by rw[isSubtype_type]; kernel_rfl) ?_)
 refine wpAny_ite_split (fun hab=>absurd hab (by decide)) (fun _=>?_)
 refine wpAny_ite_split (fun hab=>absurd hab (by decide +kernel)) (fun _=>?_)
 refine wpAny_bind (wpAny_rule ?_)
 refine wpAny_bind (wpAny_of_eq (zG8.bind _) ?_)
 try dsimp only
 refine wpAny_bind (wpAny_attempt (wpAny_call_entry zG8 hT zFC ?_ (zGS _)))
 unfold Builtin.«reversed.__length_hint__»
 refine wpAny_bind (wpAny_of_eq (a:=Value.ref r) rfl ?_)
 try dsimp only
 refine wpAny_bind (wpAny_field he rfl (x:=.ref l) rfl ?_)
 have h62:(sizeLine:Int) < 2 ^ 62:=by decide
 refine wpAny_ite_split (fun hab=>absurd (show false=true from hab) (by decide)) (fun _=>?_)
 refine wpAny_bind (len_tuple hl (by have:=hz; rw[sizeLine_eq]at this; omega) ?_)
 refine wpAny_bind (wpAny_of_eq (a:=some (xs.size:Int)) (by first | rfl | kernel_rfl) ?_)
 try dsimp only
 refine wpAny_bind (wpAny_field he rfl (x:=rawInt ((i:Int) - 1)) rfl ?_)
 try dsimp only[rawInt]
 refine wpAny_ite_split (fun hab=>?_) (fun _=>?_)
 ·exact absurd hab (by omega)
 ·unfold retInt
  refine wpAny_bind (wpAny_mkInt ?_)
  refine wpAny_pure ⟨_,rfl,?_⟩
  refine wpAny_bind (wpAny_of_eq (a:=some ((i:Int) - 1+1)) (by first | rfl | kernel_rfl) ?_)
  try dsimp only
  have e1:(i:Int) - 1+1=i:=by omega
  rw[e1]
  have e2:Builtin.List.listFitsIndex (i:Int)=true:=by
   unfold Builtin.List.listFitsIndex
   rw[Bool.and_eq_true]
   exact⟨decide_eq_true (by omega),decide_eq_true (by omega)⟩
  have e3:Builtin.List.listTooLong (i:Int).toNat=false:=by
   unfold Builtin.List.listTooLong
   exact decide_eq_false (by rw[Int.toNat_natCast]; omega)
  rw[if_neg (by rw[e2]; decide),if_neg (by omega),if_neg (by rw[e3]; decide)]
  exact wpAny_pure (h _ _)
end
section
variable {prog:Program}{w:World}{r l:Addr}
theorem zLN(hne:l≠r)(items:Array Value):Kds prog w "list_reverseiterator" r l items.size (fun i v=>items[items.size - 1 - i]?=some v) (fun i h=>i<=items.size/\h.IsRevIter r l ((items.size:Int) - 1 - (i:Int))/\h.IsList l items) where
 type:=fun s st=>st.2.1.typeIs
 there:=fun h st=>by
  obtain⟨_,⟨o,e,_⟩,⟨o2,e2,_⟩⟩:=st
  exact⟨Heap.lt_size e,Heap.lt_size e2⟩
 notList:=by decide
 notTuple:=by decide
 hint:=fun A E s Q st h=>zKh st.2.1.typeIs (h false s.toks)
 iter:=fun A E s Q st h=>wpAny_pyIter_revIter st.2.1 h
 walks:=fun A hh=>Walks.listRev hh r l hne items
theorem zL8(hne:l≠r)(items:Array Value)(hz:items.size<=sizeLine):Kds prog w "reversed" r l items.size (fun i v=>items[items.size - 1 - i]?=some v) (fun i h=>i<=items.size/\IsRv h r l ((items.size:Int) - 1 - (i:Int))/\h.IsTuple l items) where
 type:=fun s st=>⟨_,st.2.1,rfl⟩
 there:=fun h st=>by
  obtain⟨_,e,⟨o2,e2,_⟩⟩:=st
  exact⟨Heap.lt_size e,Heap.lt_size e2⟩
 notList:=by decide
 notTuple:=by decide
 hint:=fun A E s Q st h=>by
  have:=st.2.1
  simp only[Int.natCast_zero,Int.sub_zero]at this
  exact zM9 this st.2.2 hz (Nat.le_refl _) h
 iter:=fun A E s Q st h=>zEn st.2.1 h
 walks:=fun A hh=>{
  sub:=fun b hb=>by simp at hb; simp[hb]
  frame:=fun i h h' x hk=>⟨x.1,hk r (by simp) _ x.2.1,by
   obtain⟨o,e,q⟩:=x.2.2
   exact⟨o,hk l (by simp) _ e,q⟩⟩
  item:=fun i s Q E hi x hQ=>by
   have e:(items.size:Int) - 1 - (i:Int)=((items.size - 1 - i:Nat):Int):=by omega
   have hit:=x.2.1
   rw[e]at hit
   have hx:items[items.size - 1 - i]?=some (items[items.size - 1 - i]'(by omega)):=Array.getElem?_eq_getElem (by omega)
   refine zNQ hit x.2.2 hz hx fun h' tk hit' hs'=>?_
   have e2:((items.size - 1 - i:Nat):Int) - 1=(items.size:Int) - 1 - ((i+1:Nat):Int):=by omega
   rw[e2]at hit'
   refine hQ _ h' tk hx ⟨hi,hit',?_⟩ fun b o hb eo=>hs'.extBut b o (fun h=>hb (by simp[h])) eo
   obtain⟨o,eo,q⟩:=x.2.2
   exact⟨o,(hs'.2 l hne).trans eo,q⟩
  done:=fun s Q E x hQ=>by
   have e:(items.size:Int) - 1 - (items.size:Int)=-1:=by omega
   have hit:=x.2.1
   rw[e]at hit
   exact zOQ hh hit fun h' he'=>hQ h' s.toks fun b o hb eo=>he' b o (fun h=>hb (by simp[h])) eo
  self:=fun _ _ _ _ x hQ=>zEn x.2.1 hQ }
end
theorem zEp{items:List Value}{acc:Array Value}(h:ItemsOf (fun i v=>items.toArray[items.toArray.size - 1 - i]?=some v) acc items.toArray.size):acc.toList=items.reverse:=by
 have h1:acc.size=items.length:=by have:=h.1; simpa using this
 refine List.ext_getElem? fun i=>?_
 rcases Nat.lt_or_ge i items.length with hi | hi
 ·have hi':i < acc.size:=by omega
  have:=h.2 i acc[i] (by simp[hi'])
  rw[List.getElem?_reverse hi]
  simp only[List.size_toArray,List.getElem?_toArray]at this
  rw[this]
  simp[hi']
 ·rw[List.getElem?_eq_none (by simpa using by omega),List.getElem?_eq_none (by simpa using hi)]
theorem Vals.rev:∀ {xs:List V} {us:List Value},Vals xs us->Vals xs.reverse us.reverse
 | _,_,.nil=>.nil
 | _,_,.cons r t=>by
  simp only[List.reverse_cons]
  exact (Vals.rev t).append (.cons r .nil)
section
variable {X:Cx}
def tLRev(K:PySem.W.Frag)(ta:TA):TE:=fun σ H Q=>ta σ H fun vs H1=>∃ (a:Addr) (xs:List V),vs=[.ref a]/\(SqL K H1 a xs\/SqT K H1 a xs)/\∀ l,H1 l=none->Q (.ref l) (upd H1 l (.lst xs.reverse))
theorem zMK{e1:Expr}{ta:TA}{p0 p1 pos0 pos1:Pos}(hr:X.A.handled=none)(hg0:Gl X "list")(hm0:X.mg "list"=none)(hg1:Gl X "reversed")(hm1:X.mg "reversed"=none)(ha:PA X [e1] ta)
  (hs:starEach [e1] X.env=[(false,eval e1 X.env)]:=by rfl)
  (hs3:starEach [.Call (.Name "reversed" p1) [e1] [] pos1] X.env=[(false,eval (.Call (.Name "reversed" p1) [e1] [] pos1) X.env)]:=by rfl) :
  PE X (.Call (.Name "list" p0) [.Call (.Name "reversed" p1) [e1] [] pos1] [] pos0) (tLRev X.K ta):=by
 intro pins s σ H Q I h
 refine Call_ (zBE I hg0 hm0 PyProof.Rows.boot_list (PyProof.Rows.callWith_type1 ?_ hs3 rfl))
 rw[hs3]
 refine Calls.spliced_cons ?_
 refine Call_ (zBE I hg1 hm1 boot_reversed (PyProof.Rows.callWith_type1 (thn (ha pos1 pins s σ H _ I h) fun us s1 ⟨vs,H1,I1,r1,q1⟩=>?_) (by rw[hs]; rfl) (by rfl)))
 obtain⟨a,xs,e,hq,q⟩:=q1
 subst e
 obtain⟨u1,e,r⟩:=r1.one
 subst e
 cases r
 have fin:∀ (s2:Shared) (its:List Value) (h':Heap) (tk:Nat) (acc:Array Value) (c:Nat),s2.heap.objs.size=s1.heap.objs.size+1->s2={ s1 with heap:=s2.heap,toks:=s2.toks }->(∀ b o,s1.heap.get? b=some o->s2.heap.get? b=some o)->Vals xs its->xs.length<=sizeLine ->
   (∀ b o,b≠s1.heap.objs.size->s2.heap.get? b=some o->h'.get? b=some o)->h'.get? s2.heap.objs.size=some { cls:=.type "list",dict:=none,data:=.seq acc c,slots:=#[] }->acc.toList=its.reverse ->
   EP X pins σ Q (.ref s2.heap.objs.size) { s2 with heap:=h',toks:=tk }:=fun s2 its h' tk acc c hz he k12 rv hl kp hS ea=>by
  have kk:∀ b o,s1.heap.get? b=some o->h'.get? b=some o:=fun b o e=>kp b o (Nat.ne_of_lt (Heap.lt_size e)) (k12 b o e)
  have hf:H1 s2.heap.objs.size=none:=I1.hok.fresh (by omega)
  refine⟨.ref s2.heap.objs.size,upd H1 s2.heap.objs.size (.lst xs.reverse),?_,rfl,q _ hf⟩
  rw[he]
  refine I1.laid (t':=tk) kk (by show s1.heap.objs.size<=s2.heap.objs.size; omega) ⟨by simpa using hl,its.reverse,c,rv.rev,?_⟩
  rw[← ea,Array.toArray_toList]
  exact hS
 rcases hq with h1 | h1
 ·obtain⟨its,rv,pl,z⟩:=I1.list h1
  have l1:=rv.length
  have hlist:s1.heap.IsList a its.toArray:=pl.isList
  have lt1:a < s1.heap.objs.size:=by obtain⟨o,e,_⟩:=hlist; exact Heap.lt_size e
  refine call_reversed_list hlist (Calls.spliced_nil ?_)
  refine zF1 (s:={ s1 with heap:=s1.heap.push (revObj a ((its.toArray.size:Int) - 1)) }) (zLN (Nat.ne_of_lt lt1) its.toArray) hr ⟨Nat.zero_le _,⟨_,Heap.get?_push_size _ rfl,rfl,by simp[revObj]⟩,hlist.at fun o e=>Heap.get?_push_of_some _ e⟩ (by rw[List.size_toArray]; omega) fun h' tk acc c kp hS hacc=>?_
  exact fin { s1 with heap:=s1.heap.push (revObj a ((its.toArray.size:Int) - 1)) } its h' tk acc c (Heap.size_push _ _) rfl (fun b o e=>Heap.get?_push_of_some _ e) rv (by omega) kp hS (zEp hacc)
 ·obtain⟨its,rv,pl,z⟩:=I1.tuple h1
  have l1:=rv.length
  have htup:s1.heap.IsTuple a its.toArray:=pl
  have lt1:a < s1.heap.objs.size:=by obtain⟨o,e,_⟩:=htup; exact Heap.lt_size e
  refine callType_new zKR (by decide) (F.typeCall_reversed_1 _) (F.newCall_reversed_1 _) (fun obj=>F.args_object_init_2 obj _) F.entry_reversed_new (zI1 a its.toArray (by rw[List.size_toArray]; omega)) ⟨htup,?_⟩
  have g:=Heap.get?_push_size s1.heap (o:={ cls:=.type "reversed",data:=.fields #[.ref a,rawInt ((its.toArray.size:Int) - 1)] }) rfl
  refine⟨⟨_,g,rfl⟩,Calls.spliced_nil ?_⟩
  refine zF1 (zL8 (Nat.ne_of_lt lt1) its.toArray (by rw[List.size_toArray]; omega)) hr ⟨Nat.zero_le _,by simpa using g,by
   obtain⟨o,e,q⟩:=htup
   exact⟨o,Heap.get?_push_of_some _ e,q⟩⟩ (by rw[List.size_toArray]; omega) fun h' tk acc c kp hS hacc=>?_
  exact fin _ its h' tk acc c (Heap.size_push _ _) rfl (fun b o e=>Heap.get?_push_of_some _ e) rv (by omega) kp hS (zEp hacc)
end
end L2
namespace D
open PySem L2
def dLRev(fa:DA):DE:=fun Γ=>(fa Γ).bind fun p=>match p.1 with
 | [a]=>(seqS p.2 a).map fun xs=>(.l xs.reverse,p.2)
 | _=>none
theorem zLO{K:Fg}{ta:TA}{fa:DA}(ha:SimA K ta fa):SimE K (tLRev K ta) (dLRev fa):=by
 intro C w Γ σ H s Γ' Q R e k
 obtain⟨⟨as,G1⟩,e1,e⟩:=bind_some e
 dsimp only at e
 split at e
 ·obtain⟨xs,e2,e⟩:=zAH e
  cases e
  refine ha C w Γ σ H _ _ _ R e1 fun vs H1 R1 ev1 o1 n1=>?_
  obtain⟨v,rfl,o2⟩:=soks1 o1
  obtain⟨p,us,rfl,h1,i1⟩:=zDk R1 o2 e2
  exact⟨p,us,rfl,h1,fun l hl=>k _ _ (R1.new hl) (ev1.trans (Evo.new hl)) (R1.newl hl i1.rev) ⟨l,rfl,zAz ev1 R1.lst hl⟩⟩
 ·cases e
section
variable {ι:Type}{K:Fg}{X:ι->Cx}{mg:Str->Option Value}{k:Nat}{a:Expr}{da:DA}{Γ:En}
theorem zNN{p0 p1 pos0 pos1:Pos}(M:Fm K mg k X)(hm0:mg "list"=none)(hm1:mg "reversed"=none)(ha:AX K X [a] da)(hg0:∀ j,Gl (X j) "list":=by intro _; rfl)(hg1:∀ j,Gl (X j) "reversed":=by intro _; rfl)
  (hs:∀ j,starEach [a] (X j).env=[(false,eval a (X j).env)]:=by intro _; rfl)
  (hs3:∀ j,starEach [.Call (.Name "reversed" p1) [a] [] pos1] (X j).env=[(false,eval (.Call (.Name "reversed" p1) [a] [] pos1) (X j).env)]:=by intro _; rfl) :
  EX K X (.Call (.Name "list" p0) [.Call (.Name "reversed" p1) [a] [] pos1] [] pos0) (dLRev da) :=
 let ⟨t,q,u⟩:=ha; ⟨tLRev K t,fun j=>by have:=zMK (p0:=p0) (p1:=p1) (pos0:=pos0) (pos1:=pos1) (M.room j).hd (hg0 j) (by rw[M.mg]; exact hm0) (hg1 j) (by rw[M.mg]; exact hm1) (q j) (hs j) (hs3 j); rw[M.K j]at this; exact this,zLO u⟩
@[simp] theorem zQm:dLRev da Γ=(da Γ).bind fun p=>match p.1 with
 | [a]=>(seqS p.2 a).map fun xs=>(.l xs.reverse,p.2)
 | _=>none:=(rfl)
end
end D
namespace L2
open PySem PySem.Spec PyProof.Rows
def Itw(K:PySem.W.Frag)(a1:Addr)(n:Nat):It :=
 ⟨fun i H=>∃ xs x,SqL K H a1 xs/\xs.length=n/\i < n/\xs[n - 1 - i]?=some x,
  fun i H v H'=>H'=H/\∀ xs,SqL K H a1 xs->xs[n - 1 - i]?=some v,
  fun i H=>i=n⟩
theorem zLD{P:Program}{w:World}{K:PySem.W.Frag}{tg:Expr}{e a1:Addr}(n:Nat)(hle:a1≠e) :
  Turn P w K tg (Itw K a1 n) [e] e (fun i h=>h.IsRevIter e a1 ((n:Int) - 1 - (i:Int))) where
 mem:=by simp
 obj:=fun i h st b hb=>by
  have q:b=e:=by simpa using hb
  subst q
  obtain⟨o,e,c,d⟩:=st
  exact⟨o,e,fun v z=>by rw[d]at z; cases z⟩
 keep:=fun i h h' st k=>st.at fun o q=>k e (by simp) o q
 item:=by
  intro X hP hw hK hc i pins s σ H E I hf st hg
  subst hP hw hK
  obtain⟨xs,x,h1,hn,hi,hx⟩:=hg
  obtain⟨its1,v1,o1,z1⟩:=I.list h1
  obtain⟨u1,e1,r1⟩:=v1.get hx
  have l1:=v1.length
  have ei:(n:Int) - 1 - (i:Int)=((n - 1 - i:Nat):Int):=by omega
  have st':s.heap.IsRevIter e a1 ((n - 1 - i:Nat):Int):=by rw[← ei]; exact st
  obtain⟨f0,f1,f2,f3,f4,f5⟩:=hf e (by simp)
  refine wpAny_pyNext_rev_item (items:=its1.toArray) st' o1.isList (x:=u1) (by simpa using e1) fun h' he sb=>?_
  have I1:Inv X pins σ H { s with heap:=h' }:=I.turned (t':=s.toks) (fun b o hb q=>(sb.2 b hb).trans q) f0 f1 f3 f4 f5
  have he':h'.IsRevIter e a1 ((n:Int) - 1 - ((i+1:Nat):Int)):=by
   have:(n:Int) - 1 - ((i+1:Nat):Int)=((n - 1 - i:Nat):Int) - 1:=by omega
   rw[this]; exact he
  obtain⟨o,q1,q2,q3⟩:=id he'
  exact⟨u1,rfl,zFU (s:={ s with heap:=h' }) q1 q2 q3 (by decide) ⟨x,H,I1,r1,⟨rfl,fun ys hy=>by rw[I.list_inj hy h1]; exact hx⟩,he',fun b hb=>(hf b hb).1⟩⟩
 done:=by
  intro X hP hw hK hc i pins s σ H E I hf st hg
  subst hP hw hK
  have hg:i=n:=hg
  subst hg
  obtain⟨f0,f1,f2,f3,f4,f5⟩:=hf e (by simp)
  have st':s.heap.IsRevIter e a1 (-1):=by
   have:(i:Int) - 1 - (i:Int)=-1:=by omega
   rw[← this]; exact st
  exact wpAny_pyNext_rev_end (I.ok.hd hc) st' fun h' eb=>⟨rfl,I.turned (t':=s.toks) (fun b o hb q=>eb b o hb q) f0 f1 f3 f4 f5⟩
 self:=fun _ _ _ _ _ st h=>wpAny_pyIter_revIter st h
section
variable {X:Cx}{tg:Expr}
def iRevL(K:PySem.W.Frag)(ta:TA):TI:=fun σ H R=>ta σ H fun vs H1=>∃ (a1:Addr) (xs:List V),vs=[.ref a1]/\SqL K H1 a1 xs/\R (Itw K a1 xs.length) H1
theorem zMg{e1:Expr}{ta:TA}{p pos:Pos}(hg:Gl X "reversed")(hm:X.mg "reversed"=none)(ha:PA X [e1] ta)(hs:starEach [e1] X.env=[(false,eval e1 X.env)]:=by rfl) :
  PI X tg (.Call (.Name "reversed" p) [e1] [] pos) (iRevL X.K ta):=by
 intro pins s σ H R I h
 refine Call_ (zBE I hg hm boot_reversed (PyProof.Rows.callWith_type1 (thn (ha pos pins s σ H _ I h) fun us s1 ⟨vs,H1,I1,r1,q1⟩=>?_) (by rw[hs]; rfl) (by rfl)))
 obtain⟨a1,xs,e,h1,q⟩:=q1
 subst e
 obtain⟨u1,e,r⟩:=r1.one
 subst e
 cases r
 obtain⟨its1,v1,o1,z1⟩:=I1.list h1
 have l1:=v1.length
 have hlist:s1.heap.IsList a1 its1.toArray:=o1.isList
 have lt1:a1 < s1.heap.objs.size:=by obtain⟨o,e,_⟩:=hlist; exact Heap.lt_size e
 refine call_reversed_list hlist ?_
 have st':(s1.heap.push (revObj a1 ((its1.toArray.size:Int) - 1))).IsRevIter s1.heap.objs.size a1 ((xs.length:Int) - 1 - ((0:Nat):Int)):=by
  have:((xs.length:Int) - 1 - ((0:Nat):Int))=(its1.toArray.size:Int) - 1:=by rw[List.size_toArray]; omega
  rw[this]
  exact⟨_,Heap.get?_push_size _ rfl,rfl,rfl⟩
 refine wpAny_pyIter_revIter st' ?_
 refine⟨_,_,_,_,H1,rfl,I1.kept (t':=s1.toks) fun b o e=>Heap.get?_push_of_some _ e,zLD xs.length (Nat.ne_of_lt lt1),st',fun c hc=>?_,q⟩
 have e:c=s1.heap.objs.size:=by simpa using hc
 subst e
 exact I1.fpOk (Nat.le_refl _) (I1.hok.fresh (Nat.le_refl _))
end
end L2
namespace D
open PySem L2
def dRevL(fa:DA):DI:=fun Γ=>(fa Γ).bind fun p=>match p.1 with
 | [a]=>(sqlOf p.2 a).bind fun xs=>gd xs.length ((xs.reverse,srcS p.2 a),p.2)
 | _=>none
section
variable {K:Fg}
theorem zJx{ta:TA}{fa:DA}(ha:SimA K ta fa):SimI K (iRevL K ta) (dRevL fa):=by
 intro C w Γ σ H its src Γ' R Rp e k
 obtain⟨⟨as,G1⟩,e1,e⟩:=bind_some e
 dsimp only at e
 split at e
 ·obtain⟨xs,e2,e⟩:=bind_some e
  obtain⟨hz,e⟩:=zBP e
  cases e
  refine ha C w Γ σ H _ _ _ Rp e1 fun vs H1 R1 ev1 o1 n1=>?_
  obtain⟨v,rfl,o2⟩:=soks1 o1
  obtain⟨p,us,rfl,h1,i1,st⟩:=zCJ R1 o2 e2
  refine⟨p,us,rfl,h1,k _ H1 R1 ev1 ⟨by simpa using hz,fun L' hs av H2 ev=>?_⟩⟩
  have hL:LL L' H1:=fun q hq=>R1.lst q (hs q hq)
  have h2:=st L' hs av H2 ev
  have i2:=i1.evo ev hL
  have l2:=i2.len
  refine⟨fun i t e=>?_,by show _=_; simp[l2]⟩
  have hi:i < xs.length:=by simpa using (List.getElem?_eq_some_iff.mp e).1
  rw[List.getElem?_reverse hi]at e
  obtain⟨v,e3,hv⟩:=i2.get e
  refine⟨⟨us,v,h2,rfl,by omega,by rw[l2]; exact e3⟩,fun x H3 y=>?_⟩
  obtain⟨rfl,k1⟩:=y
  have q1:=k1 us h2
  rw[l2,e3]at q1; cases q1
  exact⟨fun b o e=>e,hv⟩
 ·cases e
end
section
variable {ι:Type}{K:Fg}{X:ι->Cx}{mg:Str->Option Value}{k:Nat}{a:Expr}{da:DA}{p pos:Pos}{Γ:En}
theorem zL0{tg:Expr}(M:Fm K mg k X)(hm:mg "reversed"=none)(ha:AX K X [a] da)(hg:∀ j,Gl (X j) "reversed":=by intro _; rfl)(hs:∀ j,starEach [a] (X j).env=[(false,eval a (X j).env)]:=by intro _; rfl) :
  IX K X tg (.Call (.Name "reversed" p) [a] [] pos) (dRevL da) :=
 let ⟨t,q,u⟩:=ha; ⟨iRevL K t,fun j=>by have:=zMg (tg:=tg) (p:=p) (pos:=pos) (hg j) (by rw[M.mg]; exact hm) (q j) (hs j); rw[M.K j]at this; exact this,zJx u⟩
@[simp] theorem zQp:dRevL da Γ=(da Γ).bind fun p=>match p.1 with
 | [a]=>(sqlOf p.2 a).bind fun xs=>gd xs.length ((xs.reverse,srcS p.2 a),p.2)
 | _=>none:=(rfl)
end
@[simp high,simp ↓ high] theorem zRh{α:Type}{x y:α}:ifO (some 3) 3 x y=x:=rfl
end D
namespace L2
open PySem PySem.Spec PyProof.Rows
section
variable {X:Cx}{x:Str}{p pos:Pos}{e:Expr}{es:List Expr}{t:TA}{k:Nat}
def tCallV(i:Nat)(C:Addr->Sp->Prop)(t:TA):TE:=fun σ H Q=>∃ f sp,σ[i]?=some (some (.ref f))/\C f sp/\t σ H fun vs H1=>sp (vs++[]) H1 Q E0
theorem zK9{i:Nat}{C:Addr->Sp->Prop}(hC:Mod X.K X.mg X.base->∀ f sp,C f sp->∃ fd ps,FnOk X.prog X.w X.K X.mg X.base CX0 k f fd ps sp/\PySem.W.keepIn X.K (.ref f)=true/\Binds X.K fd ps [])
  (hr:Room k X.A) (hN:X.N[i]?=some x) (hv:Vis X.env.scope x) (ha:PA X (e::es) t) (hd:(x == ("__debug__":Str))=false:=by decide) (hcd:(x == ("__classdict__":Str))=false:=by decide)
  (he:starEach (e::es) X.env=(false,eval e X.env)::starEach es X.env:=by rfl) (hpl:(backTo pos (starEach es X.env)).any (·.1)=false:=by rfl) :
  PE X (.Call (.Name x p) (e::es) [] pos) (tCallV i C t):=by
 intro pins s σ H Q I h
 obtain⟨f,sp,e1,c,h⟩:=h
 obtain⟨fd,ps,F,hk,hb⟩:=hC I.mod f sp c
 refine wpAny_Call_Name_kw ?_
 refine thn (zFZ (X:=X) (i:=i) (x:=x) (pos:=p) hN hv hd hcd pins s σ H (fun v H'=>v=.ref f/\H'=H) I ⟨.ref f,e1,rfl,rfl⟩) fun u s1 ⟨v,H1,I1,r1,q1⟩=>?_
 obtain⟨rfl,rfl⟩:=q1
 obtain rfl:u=Value.ref f:=r1
 refine PySem.W.callWith_K (h₀:=X.base) I1.ok.mod.kin hk (thn (ha pos pins s1 σ _ _ I1 h) fun us s2 ⟨vs,H2,I2,r,q⟩=>⟨I2.kIn,?_⟩) he hpl
 exact zJp F hr hb .nil pass0 I2 r q
end
end L2
namespace D
open PySem L2
abbrev Tb:=List (Str×Nat×DF)
def TbOk(P:Program)(wd:World)(K:Fg)(mg:Str->Option Value)(base:Heap)(k:Nat)(tb:Tb):Prop:=∀ q∈tb,FD P wd K mg base k q.1 none q.2.1 q.2.2
section
variable {P:Program}{wd:World}{K:Fg}{mg:Str->Option Value}{base:Heap}{k:Nat}
theorem FD.mono{k':Nat}{x:Str}{ip:Option Nat}{n:Nat}{F:DF}(D0:FD P wd K mg base k' x ip n F)(h:k'<=k):FD P wd K mg base k x ip n F:=by
 obtain⟨f,fd,ps,h1,h2⟩:=D0.ex
 exact⟨⟨f,fd,ps,h1.mono h,h2⟩,D0.len⟩
theorem zGc:TbOk P wd K mg base k []:=fun _ h=>nomatch h
theorem zBV{k':Nat}{x:Str}{n:Nat}{F:DF}{tb:Tb}(D0:FD P wd K mg base k' x none n F)(r:TbOk P wd K mg base k tb)(h:k'<=k:=by first | exact Nat.le_refl _ | decide | omega):TbOk P wd K mg base k ((x,n,F)::tb):=fun q hq=>by
 rcases List.mem_cons.mp hq with rfl | hq
 ·exact D0.mono h
 ·exact r q hq
end
def dFn(n:Str):DE:=fun Γ=>some (.v (.f n),Γ)
def dCallV(i:Nat)(tb:Tb)(fa:DA):DE:=fun Γ=>match Γ[i]? with
 | some (some (.v (.f n)))=>match tb.find? fun q=>decide (q.1=n) with
  | some q=>dCall none q.2.2 [] fa Γ
  | none=>none
 | _=>none
def NK(K:Fg)(mg:Str->Option Value)(n:Str):Prop:=∃ f,PySem.W.nsIn K mainGlobals n=some (some (.ref f))/\mg n=some (.ref f)
theorem zNk{K:Fg}{n:Str}{f:Addr}(h:PySem.W.nsIn K mainGlobals n=some (some (.ref f))):SimE K (tC (.ref f)) (dFn n):=by
 intro C w Γ σ H s Γ' Q R e k
 cases e
 exact k _ H R .refl (show Im K H _ (.f n) from Im.fn ⟨f,rfl,h⟩) trivial
def CallC(K:Fg)(tb:Tb)(f:Addr)(sp:Sp):Prop:=∃ q∈tb,PySem.W.nsIn K mainGlobals q.1=some (some (.ref f))/\sp=spD K none q.2.1 q.2.2
theorem zJe{K:Fg}{i:Nat}{tb:Tb}{t:TA}{fa:DA}(hl:∀ q∈tb,∀ gs r,q.2.2 gs=some r->gs.length=q.2.1)(ha:SimA K t fa):SimE K (tCallV i (CallC K tb) t) (dCallV i tb fa):=by
 intro C w Γ σ H s Γ' Q R e k
 unfold dCallV at e
 split at e
 ·rename_i n hn
  split at e
  ·rename_i q hq
   obtain⟨v,e1,hv⟩:=R.val i _ hn
   obtain⟨f,rfl,hf⟩:=(show Im K H v (.f n) from hv).invf
   have hm:=List.mem_of_find?_eq_some hq
   have hqn:q.1=n:=by simpa using List.find?_some hq
   exact⟨f,spD K none q.2.1 q.2.2,e1,⟨q,hm,by rw[hqn]; exact hf,rfl⟩,zDT (hl q hm) ha C w Γ σ H s Γ' Q R e k⟩
  ·cases e
 ·cases e
section
variable {ι:Type}{P:Program}{wd:World}{base:Heap}{K:Fg}{mg:Str->Option Value}{k k' n:Nat}{X:ι->Cx}{e:Expr}{es:List Expr}{pos p:Pos}{da:DA}{x:Str}{tb:Tb}{Γ:En}
theorem zCg(M:Fm K mg k X)(h:NK K mg x)(hg:∀ j,Gl (X j) x:=by intro _; rfl)(hd:(x == ("__debug__":Str))=false:=by decide):EX K X (.Name x pos) (dFn x):=by
 obtain⟨f,h1,h2⟩:=h
 exact⟨_,fun j=>zHC (v:=.ref f) (hg j) (by rw[M.mg]; exact h2) rfl hd,zNk h1⟩
theorem zDc(i:Nat)(M:Fm K mg k X)(B:Fb P wd base X)(T0:TbOk P wd K mg base k' tb)(ha:AX K X (e::es) da)(hk:k'<=k:=by first | exact Nat.le_refl _ | decide | omega)
  (hN:∀ j,(X j).N[i]?=some x:=by intro _; rfl) (hv:∀ j,Vis (X j).env.scope x:=by intro _; first | exact Or.inl rfl | exact Or.inr (Or.inl rfl) | exact Or.inr (Or.inr rfl)) (hd:(x == ("__debug__":Str))=false:=by decide) (hcd:(x == ("__classdict__":Str))=false:=by decide)
  (he:∀ j,starEach (e::es) (X j).env=(false,eval e (X j).env)::starEach es (X j).env:=by intro _; rfl) (hpl:∀ j,(backTo pos (starEach es (X j).env)).any (·.1)=false:=by intro _; rfl) :
  EX K X (.Call (.Name x p) (e::es) [] pos) (dCallV i tb da):=by
 obtain⟨t,q,u⟩:=ha
 refine⟨tCallV i (CallC K tb) t,fun j=>?_,zJe (fun q hq=>(T0 q hq).len) u⟩
 refine zK9 (k:=k') (fun hm f sp hc=>?_) ((M.room j).mono hk) (hN j) (hv j) (q j) hd hcd (he j) (hpl j)
 obtain⟨q,hq,h1,rfl⟩:=hc
 obtain⟨f',fd,ps,g1,g2,g3,g4⟩:=(T0 q hq).ex
 have hm':Mod K mg base:=by rw[← M.K j,← M.mg j,← B.b j]; exact hm
 have e:=PySem.W.mg_of hm'.kin hm'.glob h1
 rw[g2]at e
 cases e
 exact⟨fd,ps,by rw[B.P,B.w,M.K,M.mg,B.b]; exact g1,by rw[M.K]; exact g3,by rw[M.K]; exact g4⟩
@[simp,simp ↓] theorem zSQ{n:Str}:dFn n Γ=some (.v (.f n),Γ):=rfl
end
def fuelX:Nat:=100000
theorem zCd:fuelX=100000:=rfl
inductive Rs where
 | mk (e v:T) (ks:List Rs)
def Rs.e:Rs->T | .mk e _ _=>e
def Rs.v:Rs->T | .mk _ v _=>v
mutual
def Rs.pre:Rs->List Rs
 | .mk e v ks=>.mk e v ks::pres ks
def pres:List Rs->List Rs
 | []=>[]
 | r::rs=>r.pre++pres rs
end
theorem zAa:pres []=[]:=by unfold pres; rfl
theorem zAb(r:Rs)(rs:List Rs):pres (r::rs)=r.pre++pres rs:=by rw[pres]
theorem zAe(e v:T)(ks:List Rs):(Rs.mk e v ks).pre=.mk e v ks::pres ks:=by rw[Rs.pre]
theorem zDW:∀ (a b:List Rs),pres (a++b)=pres a++pres b
 | [],b=>by rw[zAa]; rfl
 | r::a,b=>by rw[List.cons_append,zAb,zAb,zDW a b,List.append_assoc]
mutual
def Rs.In(ins:DF):Rs->Prop
 | .mk e _ ks=>(ins [.v e]=some (.v (.t (ks.map Rs.e)),[])\/ins [.v e]=some (.l (ks.map Rs.e),[]))/\Ins ins ks
def Ins(ins:DF):List Rs->Prop
 | []=>True
 | r::rs=>r.In ins/\Ins ins rs
end
mutual
def Rs.Put(put:DF):Rs->Prop
 | .mk e v ks=>put [.v e,.r (ks.map Rs.v)]=some (.v v,[])/\Puts put ks
def Puts(put:DF):List Rs->Prop
 | []=>True
 | r::rs=>r.Put put/\Puts put rs
end
theorem zAT{ins:DF}{r:Rs}{rs:List Rs}:Ins ins (r::rs) ↔ r.In ins/\Ins ins rs:=by rw[Ins]
theorem zAw{ins:DF}{e v:T}{ks:List Rs}:(Rs.mk e v ks).In ins ↔ (ins [.v e]=some (.v (.t (ks.map Rs.e)),[])\/ins [.v e]=some (.l (ks.map Rs.e),[]))/\Ins ins ks:=by rw[Rs.In]
theorem zAY{put:DF}{r:Rs}{rs:List Rs}:Puts put (r::rs) ↔ r.Put put/\Puts put rs:=by rw[Puts]
theorem zAp{put:DF}{e v:T}{ks:List Rs}:(Rs.mk e v ks).Put put ↔ put [.v e,.r (ks.map Rs.v)]=some (.v v,[])/\Puts put ks:=by rw[Rs.Put]
theorem zAl{ins:DF}:Ins ins []:=by unfold Ins; trivial
theorem zAh{put:DF}:Puts put []:=by unfold Puts; trivial
theorem zHA{ins:DF}:∀ {a b:List Rs},Ins ins a->Ins ins b->Ins ins (a++b)
 | [],_,_,h=>h
 | _::_,_,h,h'=>zAT.mpr ⟨(zAT.mp h).1,zHA (zAT.mp h).2 h'⟩
theorem zCy{i:Nat}{tb:Tb}{fa:DA}{Γ:En}{n:Str}{a:Nat}{F:DF}(h:Γ[i]?=some (some (.v (.f n))))(hf:tb.find? (fun q=>decide (q.1=n))=some (n,a,F)):dCallV i tb fa Γ=dCall none F [] fa Γ:=by
 unfold dCallV
 rw[h]
 dsimp only
 rw[hf]
def awC:DT:=dTru (jV 3)
def awB(tb:Tb):DS:=dSeq (dSet 4 (dMut 3 hPop qQ)) (dSeq (dDrop (dMut 2 hAppend (jW (jV 4) qQ))) (dDrop (dMut 3 hExtend (jW (dLRev (jW (dCallV 1 tb (jW (jV 4) qQ)) qQ)) qQ))))
def awD(tb:Tb):DS:=dSeq (dSet 2 (dLst qQ)) (dSeq (dSet 3 (dLst (jW (jV 0) qQ))) (dSeq (dWhile awC (awB tb) fuelX) (dRet (jV 2))))
@[simp] theorem zJg{Γ:En}{xs ys:List T}(h:xs.length+ys.length<=sizeLine):hExtend Γ xs [.l ys]=some (.a .non,xs++ys):=by
 unfold hExtend
 dsimp only
 simp[zMF,gd,h]
section
variable {tb:Tb}{n:Str}{ka:Nat}{ins:DF}
theorem zMY(hf:tb.find? (fun q=>decide (q.1=n))=some (n,ka,ins)):∀ (m:Nat) (st:List Rs) (acc:List T) (w:T) (p4:Option G) (fuel:Nat),(pres st).length=m->m < fuel->acc.length+m<=90000->st.length<=90000->Ins ins st ->
  ∃ p4',dWhile awC (awB tb) fuel [some (.v w),some (.v (.f n)),some (.l acc),some (.l (st.reverse.map Rs.e)),p4]=some (.nx [some (.v w),some (.v (.f n)),some (.l (acc++(pres st).map Rs.e)),some (.l []),p4']):=by
 intro m
 induction m with
 | zero =>
  intro st acc w p4 fuel hm hfu hb hs hi
  cases st with
  | nil =>
   obtain⟨f,rfl⟩:∃ f,fuel=f+1:=⟨fuel - 1,by omega⟩
   exact⟨p4,by rw[zAy]; simp[awC,zAa]⟩
  | cons r rs =>
   cases r with
   | mk e v ks=>rw[zAb,zAe]at hm; simp at hm
 | succ m ih =>
  intro st acc w p4 fuel hm hfu hb hs hi
  obtain⟨f,rfl⟩:∃ f,fuel=f+1:=⟨fuel - 1,by omega⟩
  cases st with
  | nil=>rw[zAa]at hm; cases hm
  | cons r rs =>
   cases r with
   | mk e v ks =>
    obtain⟨h1,h2⟩:=zAT.mp hi
    obtain⟨h3,h4⟩:=zAw.mp h1
    rw[zAb,zAe]at hm
    have hlen:∀ l:List Rs,l.length<=(pres l).length:=fun l=>by
     induction l with
     | nil=>simp
     | cons x l ih =>
      cases x with
      | mk a b c=>rw[zAb,zAe]; simp; omega
    have hk:=hlen ks
    have hr:=hlen rs
    simp only[List.cons_append,List.length_cons,List.length_append]at hm
    obtain⟨p4',e4⟩:=ih (ks++rs) (acc++[e]) w (some (.v e)) f (by rw[zDW,List.length_append]; omega) (by omega) (by simp; omega) (by simp; omega) (zHA h4 h2)
    refine⟨p4',?_⟩
    have hl1:acc.length < sizeLine:=Nat.lt_of_lt_of_le (show acc.length < 100000 by omega) (by decide)
    have hl2:rs.length+ks.length<=sizeLine:=Nat.le_trans (show rs.length+ks.length<=100000 by omega) (by decide)
    have e0:(List.map Rs.e (Rs.mk e v ks::rs).reverse)=List.map Rs.e rs.reverse++[e]:=by simp[Rs.e]
    have pop:(awB tb) [some (.v w),some (.v (.f n)),some (.l acc),some (.l (List.map Rs.e rs.reverse++[e])),p4]=some (.nx [some (.v w),some (.v (.f n)),some (.l (acc++[e])),some (.l (List.map Rs.e rs.reverse++(ks.map Rs.e).reverse)),some (.v e)]):=by
     have cv:dCallV 1 tb (jW (jV 4) qQ) [some (.v w),some (.v (.f n)),some (.l (acc++[e])),some (.l (List.map Rs.e rs.reverse)),some (.v e)]=dCall none ins [] (jW (jV 4) qQ) [some (.v w),some (.v (.f n)),some (.l (acc++[e])),some (.l (List.map Rs.e rs.reverse)),some (.v e)]:=zCy rfl hf
     have ex:∀ Γ,hExtend Γ (List.map Rs.e rs.reverse) [.l (ks.map Rs.e).reverse]=some (.a .non,List.map Rs.e rs.reverse++(ks.map Rs.e).reverse):=fun Γ=>zJg (by simpa using hl2)
     have hs':rs.length+1<=sizeLine:=Nat.le_trans (show rs.length+1<=100000 by simp at hs; omega) (by decide)
     have hq:(List.map Rs.e rs.reverse).length+1<=sizeLine:=by simpa using hs'
     have hl0:acc.length<=sizeLine:=Nat.le_of_lt hl1
     generalize List.map Rs.e rs.reverse=RR at cv ex hq ⊢
     have hq':RR.length<=sizeLine:=by omega
     rcases h3 with h3 | h3
     ·simp[awB,cv,h3,hl1,ex,gd,hq,hq',hl0]
     ·simp[awB,cv,h3,hl1,ex,gd,hq,hq',hl0]
    rw[zAy,e0]
    have tr:awC [some (.v w),some (.v (.f n)),some (.l acc),some (.l (List.map Rs.e rs.reverse++[e])),p4]=some (true,[some (.v w),some (.v (.f n)),some (.l acc),some (.l (List.map Rs.e rs.reverse++[e])),p4]):=by
     simp[awC]
    rw[tr,Option.bind_some,if_pos rfl,pop,Option.bind_some]
    dsimp only
    have e5:List.map Rs.e rs.reverse++(ks.map Rs.e).reverse=List.map Rs.e (ks++rs).reverse:=by simp
    rw[e5,e4,zDW]
    rw[zAb,zAe]
    simp[Rs.e]
theorem zFJ(hf:tb.find? (fun q=>decide (q.1=n))=some (n,ka,ins))(r:Rs)(h:r.In ins)(hb:r.pre.length<=80000):fnD none 2 5 (awD tb) [.v r.e,.v (.f n)]=some (.l (r.pre.map Rs.e),[]):=by
 have hp:pres [r]=r.pre:=by rw[zAb,zAa,List.append_nil]
 obtain⟨p4',e⟩:=zMY hf r.pre.length [r] [] r.e none fuelX (by rw[hp]) (by rw[zCd]; omega) (by simp; omega) (by simp) (zAT.mpr ⟨h,zAl⟩)
 rw[hp]at e
 simp only[List.reverse_cons,List.reverse_nil,List.nil_append,List.map_cons,List.map_nil]at e
 have g1:(1:Nat)<=sizeLine:=by decide
 simp[fnD,awD,gd,e,g1]
end
def fwE:DE:=dMut 1 hPop qQ
def fwB(tb1 tb2:Tb):DS:=dSeq (dSet 5 (dComp (some (1,3)) [none,some 3] (dSeqI (dCallV 1 tb1 (jW (jV 4) qQ))) (gdName 0) dYes fwE))
 (dDrop (dMut 3 hAppend (jW (dCallV 2 tb2 (jW (jV 4) (jW (jV 5) qQ))) qQ)))
def fwD(FA:DF)(tb1 tb2:Tb):DS:=dSeq (dSet 3 (dLst qQ))
 (dSeq (dFor none (dRevL (jW (dCall none FA [] (jW (jV 0) (jW (jV 1) qQ))) qQ)) (gdName 4) (fwB tb1 tb2))
 (dRet (dOp ixS (jV 3) (dC (.int 0)))))
theorem zJC:∀ (es vs t0:List T) (o:Option G),es.length=vs.length->t0.length+vs.length<=100000->∃ o',compD (gdName 0) dYes fwE es [o,some (.l (t0++vs.reverse))]=some (vs,[o',some (.l t0)])
 | [],[],t0,o,_,_=>⟨o,by simp[zAN]⟩
 | [],_::_,_,_,h,_=>by cases h
 | _::_,[],_,_,h,_=>by cases h
 | e::es,v::vs,t0,o,h,hb=>by
  obtain⟨o',h2⟩:=zJC es vs t0 (some (.v e)) (by simpa using h) (by simp at hb; omega)
  refine⟨o',?_⟩
  have e1:t0++(v::vs).reverse=(t0++vs.reverse)++[v]:=by simp
  have hq:(t0++vs.reverse).length+1<=sizeLine:=Nat.le_trans (show _<=100001 by simp at hb ⊢; omega) (by decide)
  rw[e1,zAQ]
  generalize t0++vs.reverse=RR at h2 hq ⊢
  unfold fwE at h2 ⊢
  simp[gd,hq,h2]
section
variable {tb1 tb2:Tb}{n m:Str}{ka kb:Nat}{ins put:DF}
theorem zLu(hf:tb1.find? (fun q=>decide (q.1=n))=some (n,ka,ins))(hg:tb2.find? (fun q=>decide (q.1=m))=some (m,kb,put)){e v:T}{ks:List Rs}{t0:List T}{w:T}{p5:Option G}(h1:ins [.v e]=some (.v (.t (ks.map Rs.e)),[])\/ins [.v e]=some (.l (ks.map Rs.e),[]))
  (h2:put [.v e,.r (ks.map Rs.v)]=some (.v v,[])) (hb:t0.length+ks.length<=90000) :
  fwB tb1 tb2 [some (.v w),some (.v (.f n)),some (.v (.f m)),some (.l (t0++(ks.map Rs.v).reverse)),some (.v e),p5]=some (.nx [some (.v w),some (.v (.f n)),some (.v (.f m)),some (.l (t0++[v])),some (.v e),some (.l (ks.map Rs.v))]):=by
 obtain⟨o',hc⟩:=zJC (ks.map Rs.e) (ks.map Rs.v) t0 none (by simp) (by simp; omega)
 have cv:dCallV 1 tb1 (jW (jV 4) qQ) [some (.v w),some (.v (.f n)),some (.v (.f m)),some (.l (t0++(ks.map Rs.v).reverse)),some (.v e),p5]=dCall none ins [] (jW (jV 4) qQ) [some (.v w),some (.v (.f n)),some (.v (.f m)),some (.l (t0++(ks.map Rs.v).reverse)),some (.v e),p5]:=zCy rfl hf
 have cw:dCallV 2 tb2 (jW (jV 4) (jW (jV 5) qQ)) [some (.v w),some (.v (.f n)),some (.v (.f m)),some (.l t0),some (.v e),some (.l (ks.map Rs.v))]=dCall none put [] (jW (jV 4) (jW (jV 5) qQ)) [some (.v w),some (.v (.f n)),some (.v (.f m)),some (.l t0),some (.v e),some (.l (ks.map Rs.v))]:=zCy rfl hg
 have hz:(ks.map Rs.e).length<=sizeLine:=Nat.le_trans (show (ks.map Rs.e).length<=100000 by simp; omega) (by decide)
 have ht:t0.length < sizeLine:=Nat.lt_of_lt_of_le (show t0.length < 100000 by omega) (by decide)
 have ht':t0.length<=sizeLine:=Nat.le_of_lt ht
 generalize t0++(ks.map Rs.v).reverse=RR at hc cv ⊢
 generalize ks.map Rs.e=EE at h1 hc hz ⊢
 generalize ks.map Rs.v=VV at h2 hc cw ⊢
 rcases h1 with h1 | h1
 ·simp[fwB,cv,h1,hc,cw,h2,gd,hz,ht,ht']
 ·simp[fwB,cv,h1,hc,cw,h2,gd,hz,ht,ht']
mutual
theorem zJt(hf:tb1.find? (fun q=>decide (q.1=n))=some (n,ka,ins))(hg:tb2.find? (fun q=>decide (q.1=m))=some (m,kb,put))(w:T):∀ (r:Rs) (t0 more:List T) (p4 p5:Option G),r.In ins->r.Put put->t0.length+r.pre.length<=90000 ->
  ∃ p4' p5',forD (gdName 4) (fwB tb1 tb2) (r.pre.reverse.map Rs.e++more) [some (.v w),some (.v (.f n)),some (.v (.f m)),some (.l t0),p4,p5]=forD (gdName 4) (fwB tb1 tb2) more [some (.v w),some (.v (.f n)),some (.v (.f m)),some (.l (t0++[r.v])),p4',p5']
 | .mk e v ks,t0,more,p4,p5,hi,hp,hb=>by
  obtain⟨h1,h2⟩:=zAw.mp hi
  obtain⟨h3,h4⟩:=zAp.mp hp
  rw[zAe]at hb ⊢
  simp only[List.length_cons]at hb
  have hlen:∀ l:List Rs,l.length<=(pres l).length:=fun l=>by
   induction l with
   | nil=>simp
   | cons x l ih =>
    cases x with
    | mk a b c=>rw[zAb,zAe]; simp; omega
  have hk:=hlen ks
  obtain⟨q4,q5,e1⟩:=zJw hf hg w ks t0 (e::more) p4 p5 h2 h4 (by omega)
  refine⟨some (.v e),some (.l (ks.map Rs.v)),?_⟩
  rw[List.reverse_cons,List.map_append,List.append_assoc,List.map_cons,List.map_nil]
  show forD _ _ (List.map Rs.e (pres ks).reverse++(e::more)) _=_
  rw[e1,zCu]
  simp only[zI8]
  rw[show (List.set [some (G.v w),some (.v (.f n)),some (.v (.f m)),some (.l (t0++(ks.map Rs.v).reverse)),q4,q5] 4 (some (.v e)))=[some (.v w),some (.v (.f n)),some (.v (.f m)),some (.l (t0++(ks.map Rs.v).reverse)),some (.v e),q5] from rfl]
  rw[Option.bind_some,zLu hf hg h1 h3 (by omega),Option.bind_some]
  rfl
theorem zJw(hf:tb1.find? (fun q=>decide (q.1=n))=some (n,ka,ins))(hg:tb2.find? (fun q=>decide (q.1=m))=some (m,kb,put))(w:T):∀ (ks:List Rs) (t0 more:List T) (p4 p5:Option G),Ins ins ks->Puts put ks->t0.length+(pres ks).length<=90000 ->
  ∃ p4' p5',forD (gdName 4) (fwB tb1 tb2) ((pres ks).reverse.map Rs.e++more) [some (.v w),some (.v (.f n)),some (.v (.f m)),some (.l t0),p4,p5]=forD (gdName 4) (fwB tb1 tb2) more [some (.v w),some (.v (.f n)),some (.v (.f m)),some (.l (t0++(ks.map Rs.v).reverse)),p4',p5']
 | [],t0,more,p4,p5,_,_,_=>⟨p4,p5,by simp[zAa]⟩
 | r::rs,t0,more,p4,p5,hi,hp,hb=>by
  obtain⟨h1,h2⟩:=zAT.mp hi
  obtain⟨h3,h4⟩:=zAY.mp hp
  rw[zAb]at hb ⊢
  simp only[List.length_append]at hb
  have hlen:∀ l:List Rs,l.length<=(pres l).length:=fun l=>by
   induction l with
   | nil=>simp
   | cons x l ih =>
    cases x with
    | mk a b c=>rw[zAb,zAe]; simp; omega
  have hk:=hlen rs
  obtain⟨q4,q5,e1⟩:=zJw hf hg w rs t0 (r.pre.reverse.map Rs.e++more) p4 p5 h2 h4 (by omega)
  obtain⟨q6,q7,e2⟩:=zJt hf hg w r (t0++(rs.map Rs.v).reverse) more q4 q5 h1 h3 (by simp; omega)
  refine⟨q6,q7,?_⟩
  rw[List.reverse_append,List.map_append,List.append_assoc,e1,e2]
  simp
end
theorem zBL(hf:tb1.find? (fun q=>decide (q.1=n))=some (n,ka,ins))(hg:tb2.find? (fun q=>decide (q.1=m))=some (m,kb,put))(r:Rs)(h1:r.In ins)(h2:r.Put put)(hb:r.pre.length<=80000) :
  fnD none 3 6 (fwD (fnD none 2 5 (awD tb1)) tb1 tb2) [.v r.e,.v (.f n),.v (.f m)]=some (.v r.v,[]):=by
 have ha:=zFJ hf r h1 hb
 obtain⟨q4,q5,e⟩:=zJt hf hg r.e r [] [] none none h1 h2 (by simp; omega)
 rw[List.append_nil,zGR]at e
 have hz:(r.pre.map Rs.e).length<=sizeLine:=Nat.le_trans (show (r.pre.map Rs.e).length<=100000 by simp; omega) (by decide)
 have e2:(List.map Rs.e r.pre).reverse=List.map Rs.e r.pre.reverse:=by simp
 generalize fnD none 2 5 (awD tb1)=FA at ha ⊢
 generalize r.pre.map Rs.e=EE at ha hz e2
 rw[← e2]at e
 simp[fnD,fwD,ha,gd,hz,e]
end
def SimP(K:Fg)(trs:List (TE×TE))(ks:List Key)(fa:DA):Prop:=∀ (C:Fr) (w:W) (Γ:En) (σ:St) (H:Hp) (ss:List S) (Γ':En) (Q:List (V×V)->Hp->Prop),Rep K C w Γ σ H->fa Γ=some (ss,Γ') ->
 (∀ vs H',Rep K C w Γ' σ H'->Evo w.L H H'->SOks K C w σ H' vs ss->vs.length=ks.length->Q ((ks.map kV).zip vs) H')->tPairs trs σ H Q
theorem zK2{K:Fg}:SimP K [] [] qQ:=by
 intro C w Γ σ H ss Γ' Q R e k
 cases e
 exact k [] H R .refl trivial rfl
theorem zKG{K:Fg}{trs:List (TE×TE)}{ks:List Key}{fa:DA}{tv:TE}{fv:DE}(key:Key)(hv:SimE K tv fv)(hr:SimP K trs ks fa):SimP K ((tC (kV key),tv)::trs) (key::ks) (jW fv fa):=by
 intro C w Γ σ H ss Γ' Q R e k
 obtain⟨p,e1,e⟩:=bind_some e
 obtain⟨q,e2,e⟩:=bind_some e
 cases e
 show tv σ H _
 refine hv C w Γ σ H p.1 p.2 _ R e1 fun v1 H1 R1 ev1 o1 _=>?_
 exact hr C w p.2 σ H1 q.1 q.2 _ R1 e2 fun vs H2 R2 ev2 o2 hl=>k (v1::vs) H2 R2 (ev1.trans ev2) ⟨o1.evo ev2 R1.lst,o2⟩ (by simp[hl])
def dDispK(ks:List Key)(fa:DA):DE:=fun Γ=>(fa Γ).bind fun p=>(trees p.1).bind fun ts=>if ks.length<=15/\ks.Nodup then some (.d (.inl (ks.zip ts)),p.2) else none
theorem zFv{kvs:List (Key×V)}{k:Key}{v:V}(h:k∉kvs.map (·.1)):putK kvs k v=kvs++[(k,v)]:=by
 unfold putK
 rw[if_neg]
 intro z
 obtain⟨a,ha,e⟩:=List.any_eq_true.mp z
 exact h (List.mem_map.mpr ⟨a,ha,of_decide_eq_true e⟩)
theorem zDf{K:Fg}{H:Hp}:∀ (ks:List Key) {vs:List V} {ts:List T},Ims K H vs ts->Paired (fun (a:Key×V) (b:Key×T)=>a.1=b.1/\Im K H a.2 b.2) (ks.zip vs) (ks.zip ts)
 | [],_,_,_=>.nil
 | a::r,vs,[],h=>by rw[h.inv0]; exact .nil
 | a::r,vs,t::ts,h=>by
  obtain⟨v,us,rfl,h1,h2⟩:=h.inv
  exact .cons ⟨rfl,h1⟩ (zDf r h2)
theorem zDA:∀ (more kvs:List (Key×V)),((kvs++more).map (·.1)).Nodup->mergeK kvs more=kvs++more
 | [],kvs,_=>by simp[mergeK]
 | p::r,kvs,h=>by
  show mergeK (putK kvs p.1 p.2) r=_
  have hn:p.1∉kvs.map (·.1):=fun z=>by
   rw[List.map_append,List.map_cons]at h
   exact (List.nodup_append.mp h).2.2 _ z _ List.mem_cons_self rfl
  rw[zFv hn,zDA r (kvs++[p]) (by simpa using h)]
  simp
theorem zJE{K:Fg}{trs:List (TE×TE)}{ks:List Key}{fa:DA}(h:SimP K trs ks fa):SimE K (tDisp trs) (dDispK ks fa):=by
 intro C w Γ σ H s Γ' Q R e k
 obtain⟨⟨ss,G1⟩,e1,e⟩:=bind_some e
 obtain⟨ts,e2,e⟩:=bind_some e
 split at e
 ·rename_i hk
  cases e
  intro p hp
  obtain⟨n1,n2,ow⟩:=R.fresh hp
  refine h C w Γ σ _ ss G1 _ (R.new hp) e1 fun vs H2 R2 ev2 o2 hl=>?_
  have hp2:H2 p=some (.dK []):=ev2 p _ zAg n1
  have hi:=zCk o2 e2
  have hts:ts.length=ks.length:=by rw[← hi.len]; exact hl
  refine⟨hp2,ks.zip vs,?_,by simp[List.length_zip,hl]; exact hk.1,?_⟩
  ·refine List.ext_getElem (by simp) fun i h1 h2=>?_
   simp
  have em:mergeK [] (ks.zip vs)=ks.zip vs:=by
   rw[zDA _ _ (by
    rw[List.nil_append,List.map_fst_zip (by omega)]
    exact hk.2)]
   rfl
  rw[em]
  refine k _ _ (R2.tmp n1 n2 ow hp2 trivial) (fun c o hcc nn=>?_) ⟨p,_,rfl,n1,n2,ow,zAg,?_⟩ ⟨p,rfl,hp⟩
  ·have ne:=zAV hcc hp
   rw[zAK ne]
   exact ev2 c o (by rw[zAK ne]; exact hcc) nn
  ·have ev3:Evo (p::w.L) H2 (upd H2 p (.dK (ks.zip vs))):=fun c o e n=>by rw[zAK (fun z:c=p=>n (by rw[z]; exact List.mem_cons_self))]; exact e
   have hL3:LL (p::w.L) H2:=fun q hq=>by
    rcases List.mem_cons.mp hq with z | z
    ·subst z; exact⟨_,hp2,trivial⟩
    ·exact R2.lst q z
   have hi3:=hi.evo ev3 hL3
   exact (show DOk K _ (.dK (ks.zip vs)) (.inl (ks.zip ts)) from zDf ks hi3)
 ·cases e
section
variable {ι:Type}{K:Fg}{mg:Str->Option Value}{k:Nat}{X:ι->Cx}{fa:DA}{pos:Pos}{Γ:En}
def PX(K:Fg)(X:ι->Cx)(pos:Pos)(keys:List (Option Expr))(values:List Expr)(ks:List Key)(fa:DA):Prop:=∃ trs,(∀ j,PPs (X j) pos keys values trs)/\SimP K trs ks fa
theorem zOR:PX K X pos [] [] [] qQ:=⟨[],fun _=>zME,zK2⟩
theorem zGX{x:Str}{j0:Nat}{p0:Pos}{e:Expr}{fv:DE}{keys:List (Option Expr)}{values:List Expr}{ks:List Key}(hv:EX K X e fv)(hr:PX K X pos keys values ks fa):PX K X pos (some (.Constant (.str x) j0 p0)::keys) (e::values) (.inr x::ks) (jW fv fa) :=
 let ⟨_,p,s⟩:=hv; let ⟨_,q,u⟩:=hr; ⟨_,fun j=>zLI zJv (p j) (q j),zKG (.inr x) s u⟩
theorem zK0{keys:List (Option Expr)}{values:List Expr}{ks:List Key}(h:PX K X pos keys values ks fa)(hall:keys.all (·.isSome)=true:=by rfl)(hl:keys.length=values.length:=by rfl)(h0:keys≠[]:=by exact nofun)(h15:keys.length<=15:=by decide):EX K X (.Dict keys values pos) (dDispK ks fa) :=
 let ⟨_,p,s⟩:=h; ⟨_,fun j=>zMG (p j) hall hl h0 h15,zJE s⟩
@[simp,simp ↓] theorem zQV{ks:List Key}:dDispK ks fa Γ=bnd (fa Γ) (f:=⟨fun p=>bnd (trees p.1) (f:=⟨fun ts=>if ks.length<=15/\ks.Nodup then some (.d (.inl (ks.zip ts)),p.2) else none⟩)⟩):=rfl
end
end D
namespace L2
open PySem PySem.Spec PyProof.Rows
structure FunD(K:PySem.W.Frag)(x qual:Str)(st:Stmt)(T f:Addr)(fd:FuncData):Prop where
 ex:∃ (oc:Value) (od:Option Addr) (kV doc pm:Value) (an:Option Addr) (cdv ct:Value) (osl:Array (Option Value)),
  fd=PySem.W.fnOf x qual (defArgs st) (defBody st) (defScope st) (.ref T) kV doc pm an cdv ct/\K.lookup f=some ⟨oc,od,.func fd,osl⟩/\PySem.W.codeIn K cdv qual=true
 kp:PySem.W.keepIn K (.ref f)=true
section
variable {P:Program}{w:World}{K:PySem.W.Frag}{mg:Str->Option Value}{base:Heap}
theorem FunD.ok{x qual:Str}{st:Stmt}{T f:Addr}{fd:FuncData}{N ps:List Str}{k:Nat}{sp:Sp}(F:FunD K x qual st T f fd)(S:FnScope N ps (defScope st))(len:∀ vs H Q E,sp vs H Q E->vs.length=ps.length)
  (hbody:∀ (cdv:Value) (A:Around) (outer:List Env) (s:Shared) (H:Hp) (vs:List V) (Q:VK) (E:XK),Room k (A.deeper (envOfC qual (defScope st) s.heap.objs.size f cdv))->sp vs H Q E ->
   ∃ t,PSs (cxOf CX0 P w K mg base N qual (defScope st) f cdv A outer s H E).nox (defBody st) t/\t { nx:=fun _ H'=>Q .non H',rt:=Q } (start N vs) H):FnOk P w K mg base CX0 (k+1) f fd ps sp:=by
 obtain⟨oc,od,kV,doc,pm,an,cdv,ct,osl,rfl,lk,hcd⟩:=F.ex
 refine zLo lk hcd S len fun A outer s H vs Q E hr hsp=>?_
 obtain⟨t,h,q⟩:=hbody cdv A outer s H vs Q E hr hsp
 exact⟨t,h.nox,q⟩
theorem FunD.binds{x qual:Str}{st:Stmt}{T f:Addr}{fd:FuncData}{ps:List Str}{ds:List Value}{o:Obj}{items:Array Value}{n:Nat}(F:FunD K x qual st T f fd)(hT:K.lookup T=some o)(hs:o.data=.seq items n)
  (h:∀ (kV doc pm:Value) (an:Option Addr) (cdv ct:Value) (us:List Value),(us++ds).length=ps.length->∃ k,bindArgs (PySem.W.fnOf x qual (defArgs st) (defBody st) (defScope st) (.ref T) kV doc pm an cdv ct) ⟨us,[]⟩=seqItems? (.ref T) >>= k/\k (some items)=pure (ps.zip (us++ds))):Binds K fd ps ds:=by
 obtain⟨oc,od,kV,doc,pm,an,cdv,ct,osl,rfl,lk,hcd⟩:=F.ex
 intro s us hK hl
 obtain⟨k,h1,h2⟩:=h kV doc pm an cdv ct us hl
 exact BindsTo.of_defaults rfl (hK T o hT) hs h1 h2
theorem zGy{x qual:Str}{st:Stmt}{T f:Addr}{oc:Value}{od an:Option Addr}{osl:Array (Option Value)}{kV doc pm cdv ct:Value}(l:K.lookup f=some ⟨oc,od,.func (PySem.W.fnOf x qual (defArgs st) (defBody st) (defScope st) (.ref T) kV doc pm an cdv ct),osl⟩)
  (c:PySem.W.codeIn K cdv qual=true) (k:PySem.W.keepIn K (.ref f)=true):FunD K x qual st T f (PySem.W.fnOf x qual (defArgs st) (defBody st) (defScope st) (.ref T) kV doc pm an cdv ct):=⟨⟨oc,od,kV,doc,pm,an,cdv,ct,osl,rfl,l,c⟩,k⟩
end
end L2
namespace D
open PySem L2
structure FDd(P:Program)(wd:World)(K:Fg)(mg:Str->Option Value)(base:Heap)(k:Nat)(x:Str)(ip:Option Nat)(n:Nat)(F:DF)(dvs:List V):Prop where
 ex:∃ (f:Addr) (fd:FuncData) (ps:List Str) (ds:List Value),FnOk P wd K mg base CX0 k f fd ps (spD K ip n F)/\mg x=some (.ref f)/\PySem.W.keepIn K (.ref f)=true/\Binds K fd ps ds/\Vals dvs ds
 len:∀ gs r,F gs=some r->gs.length=n
section
variable {ι:Type}{P:Program}{wd:World}{base:Heap}{K:Fg}{mg:Str->Option Value}{k k' n:Nat}{X:ι->Cx}{ip:Option Nat}{e:Expr}{es:List Expr}{pos p:Pos}{da:DA}{F:DF}{x:Str}{dvs:List V}
theorem zFc(M:Fm K mg k X)(B:Fb P wd base X)(D0:FDd P wd K mg base k' x ip n F dvs)(ha:AX K X (e::es) da)(hk:k'<=k:=by first | exact Nat.le_refl _ | decide | omega)(hg:∀ j,Gl (X j) x:=by intro _; rfl)(hdb:(x == ("__debug__":Str))=false:=by decide)
  (he:∀ j,starEach (e::es) (X j).env=(false,eval e (X j).env)::starEach es (X j).env:=by intro _; rfl) (hpl:∀ j,(backTo pos (starEach es (X j).env)).any (·.1)=false:=by intro _; rfl) :
  EX K X (.Call (.Name x p) (e::es) [] pos) (dCall ip F dvs da):=by
 obtain⟨f,fd,ps,ds,h1,h2,h3,h4,h5⟩:=D0.ex
 obtain⟨t,q,u⟩:=ha
 refine⟨tCall (spD K ip n F) dvs E0 t,fun j=>?_,zDT D0.len u⟩
 have hF:FnOk (X j).prog (X j).w (X j).K (X j).mg (X j).base CX0 k' f fd ps (spD K ip n F):=by rw[B.P,B.w,M.K,M.mg,B.b]; exact h1
 exact zHM hF ((M.room j).mono hk) (hg j) (by rw[M.mg]; exact h2) (by rw[M.K]; exact h3) (by rw[M.K]; exact h4) h5 pass0 (q j) hdb (he j) (hpl j)
end
section
variable {P:Program}{wd:World}{base:Heap}{K:Fg}{mg:Str->Option Value}{k:Nat}
theorem zJM{x:Str}{st:Stmt}{T f:Addr}{fd:FuncData}{N ps:List Str}{ip:Option Nat}{g:DS}{dvs:List V}{ds:List Value}(F:FunD K x x st T f fd)(S:FnScope N ps (defScope st))(hm:mg x=some (.ref f))(hb:Binds K fd ps [])(hb2:Binds K fd ps ds)(hv:Vals dvs ds)
  (body:∀ (cdv:Value) (A:Around) (outer:List Env) (s:Shared) (H:Hp) (E:XK),Fm K mg k (cx1 P wd K mg base N x (defScope st) f cdv A outer s H E)->Fb P wd base (cx1 P wd K mg base N x (defScope st) f cdv A outer s H E)->BX K (cx1 P wd K mg base N x (defScope st) f cdv A outer s H E) ip (defBody st) g) :
  FD P wd K mg base (k+1) x ip ps.length (fnD ip ps.length N.length g)/\FDd P wd K mg base (k+1) x ip ps.length (fnD ip ps.length N.length g) dvs:=by
 have ok:FnOk P wd K mg base CX0 (k+1) f fd ps (spD K ip ps.length (fnD ip ps.length N.length g)):=by
  refine F.ok S (fun vs H Q E h=>h.1) fun cdv A outer s H vs Q E hr h=>?_
  obtain⟨t,p,u⟩:=body cdv A outer s H E ⟨fun _=>rfl,fun _=>rfl,fun _=>rfl,fun _=>hr⟩ ⟨fun _=>rfl,fun _=>rfl,fun _=>rfl⟩
  exact⟨t,p (),zED u h⟩
 exact⟨⟨⟨f,fd,ps,ok,hm,F.kp,hb⟩,zEG⟩,⟨⟨f,fd,ps,ds,ok,hm,F.kp,hb2,hv⟩,zEG⟩⟩
end
end D
namespace L2
open PySem PySem.Spec PyProof.Rows
theorem zLQ(l:Addr)(v:Value)(n:Nat)(dd:Option Addr)(sl:Array (Option Value))(t:Tok) :
  Meets (Builtin.«tuple.__mul__» ⟨[.ref l,.int 0 t],[]⟩) (fun _ R s=>s.heap.get? l=some { cls:=.type "tuple",dict:=dd,data:=.seq #[v] n,slots:=sl }/\R (.ok (.ret (.ref s.heap.objs.size))) { s with heap:=s.heap.push { cls:=.type "tuple",data:=.seq #[] } }) :=
 .of_wp fun prog w A R s h=>by
  obtain⟨hp,g,d,tk,os⟩:=s; obtain⟨hl,h⟩:=h
  have f1:=AutoSeq1.idx_int; have f2:=AutoSeq1.sub_tuple_tuple
  wp_walk using wpAny_loadPart' hl
  exact⟨_,rfl,h⟩
def rRep0(K:PySem.W.Frag):R2:=fun x y H Q=>∃ a z,x=.ref a/\y=.int 0/\D.Tp K H a [z]/\∀ p H',Same H H'->D.Tp K H' p []->Q (.ref p) H'
theorem zML{X:Cx}:OpR X (binaryOp .Mult) (rRep0 X.K):=by
 intro pins s σ H x y v u Q I rx ry h
 obtain⟨a,z,rfl,rfl,ht,q⟩:=h
 cases rx
 obtain⟨t,rfl⟩:=ry
 obtain⟨its,rv,⟨⟨cls,dd,data,sl⟩,ho,hc,n,hd⟩,hz2⟩:=I.tuple ht.sq
 obtain⟨w1,rfl,r1⟩:=vals1 rv
 simp only at hc hd
 subst hc hd
 refine wpAny_binaryOp_repeat_ref (T:="tuple") (U:="int") (by decide) ⟨_,ho,rfl⟩ (fun s'=>typeIs_int s' _ t) zBR F.fills_int_mul F.slot_int_rmul zCG F.slot_int_index.lookup
  (call_meets F.slot_int_rmul (typeIs_int s _ t) F.entry_int_rmul (F.args_int_rmul_2 _ _) (zCH _ t a _ n dd sl) ⟨ho,rfl,⟨_,ho,rfl⟩,?_⟩)
 refine call_meets F.slot_tuple_mul ⟨_,ho,rfl⟩ F.entry_tuple_mul (F.args_tuple_mul_2 _ _) (zLQ a w1 n dd sl t) ⟨ho,?_⟩
 have hf:H s.heap.objs.size=none:=I.hok.fresh (Nat.le_refl _)
 exact⟨.ref s.heap.objs.size,_,I.laid (t':=s.toks) (fun b o e=>Heap.get?_push_of_some _ e) (Nat.le_refl _) (show ObjOk X.prog X.w _ _ _ (.tup []) from ⟨by simp,[],.nil,TupD.new _ _⟩),rfl,q _ _ (Same.upd hf) (.inl zAg)⟩
end L2
namespace D
open PySem L2
def mulTup0:En->S->S->Option S:=fun _ a b=>match a,b with
 | .v (.t [_]),.v (.a (.int n))=>if n=0 then some (.v (.t [])) else none
 | _,_=>none
theorem zFH{K:Fg}:SimR2 K (rRep0 K) mulTup0:=by
 intro C w Γ σ H x y a b s Q R ox oy e k
 unfold mulTup0 at e
 split at e
 ·split at e
  ·rename_i hl
   cases e
   obtain⟨p,vs,rfl,ht,hi⟩:=ox.invt
   obtain⟨v,r,rfl,i1,i2⟩:=hi.inv
   have:=i2.inv0
   subst this
   have ey:=oy.inva
   subst ey
   subst hl
   exact⟨p,v,rfl,rfl,ht,fun q H' hs hq=>k _ H' (R.same hs) (Evo.of_same hs) (by show Im K H' (.ref q) _; unfold Im; exact⟨q,_,rfl,hq,.nil⟩) trivial⟩
  ·cases e
 ·cases e
def mulS4:En->S->S->Option S:=fun Γ x y=>(mulS3 Γ x y).or (mulTup0 Γ x y)
variable {K:Fg}
end D
namespace D
open PySem L2
open PySem.SeqAt
end D
namespace D
open PySem L2
abbrev EE:=Value->Shared->Prop
end D
namespace D
open PySem L2
def PC(X:Cx)(ops:List CmpOp)(rs:List Expr)(tc:V->TE):Prop :=
 ∀ (pos:Pos) (pins:List (Addr×Obj)) (s:Shared) (σ:St) (H:Hp) (Q:VK) (x:V) (v:Value),Inv X pins σ H s->RelV x v->tc x σ H Q->wpAny (model X.prog X.w) X.A (compareChain pos v ops (evalEach rs X.env)) (EP X pins σ Q) X.xe s
def tLast(r:R2)(tb:TE):V->TE:=fun x σ H Q=>tb σ H fun y H1=>r x y H1 Q
def tLink(r:R2)(tb:TE)(tc:V->TE):V->TE:=fun x σ H Q=>tb σ H fun y H1=>r x y H1 fun z H2=>∃ k,z=.bl k/\(if k=true then tc y σ H2 Q else Q (.bl false) H2)
section
variable {X:Cx}{a b:Expr}{ta tb:TE}{pos:Pos}
theorem zMk{op:CmpOp}{r:R2}(ho:OpR X (compareOp op) r)(hb:PE X b tb):PC X [op] [b] (tLast r tb):=by
 intro pos pins s σ H Q x v I rv h
 show wpAny _ _ (compareChain pos v [op] [eval b X.env]) _ _ _
 exact PyProof.Rows.chain_last (thn (hb pins s σ H _ I h) fun u s1 ⟨y,H1,I1,r1,q1⟩=>ho pins s1 σ H1 x y v u Q I1 rv r1 q1)
theorem zMw{op op':CmpOp}{ops:List CmpOp}{c:Expr}{rs:List Expr}{r:R2}{tc:V->TE}(ho:OpR X (compareOp op) r)(hb:PE X b tb)(hc:PC X (op'::ops) (c::rs) tc):PC X (op::op'::ops) (b::c::rs) (tLink r tb tc):=by
 intro pos pins s σ H Q x v I rv h
 show wpAny _ _ (compareChain pos v (op::op'::ops) (eval b X.env::eval c X.env::evalEach rs X.env)) _ _ _
 refine PyProof.Rows.chain_link (thn (hb pins s σ H _ I h) fun u s1 ⟨y,H1,I1,r1,q1⟩=>thn (ho pins s1 σ H1 x y v u _ I1 rv r1 q1) fun d s3 ⟨z,H3,I3,r3,k,e,q3⟩=>?_)
 subst e
 cases r3
 refine PySem.wpAny_truthy_bool ?_
 cases k with
 | false=>exact PyProof.Rows.ite_ff ⟨.bl false,H3,I3,rfl,q3⟩
 | true=>exact PyProof.Rows.ite_tt (hc pos pins s3 σ H3 Q y u I3 r1 q3)
theorem zJJ{op op':CmpOp}{ops:List CmpOp}{c:Expr}{rs:List Expr}{tc:V->TE}(ha:PE X a ta)(hc:PC X (op::op'::ops) (b::c::rs) tc)(hm:lastMarks (op::op'::ops) (b::c::rs)=false) :
  PE X (.Compare a (op::op'::ops) (b::c::rs) pos) (fun σ H Q=>ta σ H fun x H1=>tc x σ H1 Q):=by
 intro pins s σ H Q I h
 exact PyProof.Rows.Compare_chain (thn (ha pins s σ H _ I h) fun v s1 ⟨x,H1,I1,r1,q1⟩=>hc pos pins s1 σ H1 Q x v I1 r1 q1) hm
end
def tTst(Q:Bool->Hp->Prop):VK:=fun v H=>∃ k,v=.bl k/\Q k H
def PD(X:Cx)(ops:List CmpOp)(rs:List Expr)(tc:V->TE):Prop :=
 ∀ (pos:Pos) (pins:List (Addr×Obj)) (s:Shared) (σ:St) (H:Hp) (Q:Bool->Hp->Prop) (x:V) (v:Value),Inv X pins σ H s->RelV x v->tc x σ H (tTst Q)->wpAny (model X.prog X.w) X.A (testChain pos v ops (evalEach rs X.env)) (TP X pins σ Q) X.xe s
section
variable {X:Cx}{a b:Expr}{ta tb:TE}{pos:Pos}
theorem zMU{op:CmpOp}{r:R2}(ho:OpR X (compareOp op) r)(hb:PE X b tb):PD X [op] [b] (tLast r tb):=by
 intro pos pins s σ H Q x v I rv h
 show wpAny _ _ (testChain pos v [op] [eval b X.env]) _ _ _
 refine PyProof.Rows.test_last (thn (hb pins s σ H _ I h) fun u s1 ⟨y,H1,I1,r1,q1⟩=>thn (ho pins s1 σ H1 x y v u _ I1 rv r1 q1) fun d s2 ⟨z,H2,I2,r2,k,e,q2⟩=>?_)
 subst e
 cases r2
 exact PySem.wpAny_truthy_bool ⟨H2,I2,q2⟩
theorem zMZ{op op':CmpOp}{ops:List CmpOp}{c:Expr}{rs:List Expr}{r:R2}{tc:V->TE}(ho:OpR X (compareOp op) r)(hb:PE X b tb)(hc:PD X (op'::ops) (c::rs) tc):PD X (op::op'::ops) (b::c::rs) (tLink r tb tc):=by
 intro pos pins s σ H Q x v I rv h
 show wpAny _ _ (testChain pos v (op::op'::ops) (eval b X.env::eval c X.env::evalEach rs X.env)) _ _ _
 refine PyProof.Rows.test_link (thn (hb pins s σ H _ I h) fun u s1 ⟨y,H1,I1,r1,q1⟩=>thn (ho pins s1 σ H1 x y v u _ I1 rv r1 q1) fun d s3 ⟨z,H3,I3,r3,k,e,q3⟩=>?_)
 subst e
 cases r3
 refine PySem.wpAny_truthy_bool ?_
 cases k with
 | false =>
  obtain⟨k',e',q'⟩:=q3
  cases e'
  exact PyProof.Rows.ite_ff ⟨H3,I3,q'⟩
 | true=>exact PyProof.Rows.ite_tt (hc pos pins s3 σ H3 Q y u I3 r1 q3)
theorem zJV{op op':CmpOp}{ops:List CmpOp}{c:Expr}{rs:List Expr}{tc:V->TE}(ha:PE X a ta)(hc:PD X (op::op'::ops) (b::c::rs) tc)(hm:lastMarks (op::op'::ops) (b::c::rs)=false) :
  PT X (.Compare a (op::op'::ops) (b::c::rs) pos) (tTest fun σ H Q=>ta σ H fun x H1=>tc x σ H1 Q):=by
 intro pins s σ H Q I h
 exact PyProof.Rows.isTrue_chain (thn (ha pins s σ H _ I h) fun v s1 ⟨x,H1,I1,r1,q1⟩=>hc pos pins s1 σ H1 Q x v I1 r1 q1) hm
end
def dLast(h:En->S->S->Option S)(fb:DE):S->DE:=fun a Γ=>(fb Γ).bind fun q=>(h q.2 a q.1).map fun s=>(s,q.2)
def dLink(h:En->S->S->Option S)(fb:DE)(fc:S->DE):S->DE:=fun a Γ=>(fb Γ).bind fun q=>(h q.2 a q.1).bind fun z=>match z with
 | .v (.a (.bl k))=>if k=true then fc q.1 q.2 else some (.v (.a (.bl false)),q.2)
 | _=>none
def dChainN(fa:DE)(fc:S->DE):DE:=fun Γ=>(fa Γ).bind fun p=>fc p.1 p.2
def SimC(K:Fg)(tc:V->TE)(fc:S->DE):Prop:=∀ (C:Fr) (w:W) (Γ:En) (σ:St) (H:Hp) (x:V) (a s:S) (Γ':En) (Q:VK),Rep K C w Γ σ H->SOk K C w σ H x a->fc a Γ=some (s,Γ') ->
 (∀ v H',Rep K C w Γ' σ H'->Evo w.L H H'->SOk K C w σ H' v s->Nw H v s->Q v H')->tc x σ H Q
section
variable {K:Fg}
theorem zE4{r:R2}{h:En->S->S->Option S}{tb:TE}{fb:DE}(hr:SimR2 K r h)(hb:SimE K tb fb):SimC K (tLast r tb) (dLast h fb):=by
 intro C w Γ σ H x a s Γ' Q R ox e k
 obtain⟨⟨q,G2⟩,e2,e⟩:=bind_some e
 obtain⟨z,e3,e⟩:=zAH e
 cases e
 refine hb C w Γ σ H q G2 _ R e2 fun v2 H2 R2 ev2 o2 n2=>?_
 exact hr C w G2 σ H2 x v2 _ _ _ _ R2 (ox.evo ev2 R.lst) o2 e3 fun v H3 R3 ev3 o3 n3=>k v H3 R3 (ev2.trans ev3) o3 (n3.back ev2 R2.lst)
theorem zEj{r:R2}{h:En->S->S->Option S}{tb:TE}{fb:DE}{tc:V->TE}{fc:S->DE}(hr:SimR2 K r h)(hb:SimE K tb fb)(hc:SimC K tc fc):SimC K (tLink r tb tc) (dLink h fb fc):=by
 intro C w Γ σ H x a s Γ' Q R ox e k
 obtain⟨⟨q,G2⟩,e2,e⟩:=bind_some e
 obtain⟨z,e3,e⟩:=bind_some e
 dsimp only at e3 e
 refine hb C w Γ σ H q G2 _ R e2 fun v2 H2 R2 ev2 o2 n2=>?_
 refine hr C w G2 σ H2 x v2 _ _ _ _ R2 (ox.evo ev2 R.lst) o2 e3 fun v H3 R3 ev3 o3 n3=>?_
 split at e
 ·rename_i c
  refine⟨c,SOk.inva o3,?_⟩
  cases c with
  | true =>
   rw[if_pos rfl]at e ⊢
   exact hc C w G2 σ H3 v2 q s Γ' Q R3 (o2.evo ev3 R2.lst) e fun v H4 R4 ev4 o4 n4=>k v H4 R4 ((ev2.trans ev3).trans ev4) o4 (n4.back (ev2.trans ev3) R3.lst)
  | false =>
   rw[if_neg Bool.false_ne_true]at e ⊢
   cases e
   exact k _ H3 R3 (ev2.trans ev3) SOk.atom trivial
 ·cases e
theorem zD4{ta:TE}{fa:DE}{tc:V->TE}{fc:S->DE}(ha:SimE K ta fa)(hc:SimC K tc fc):SimE K (fun σ H Q=>ta σ H fun x H1=>tc x σ H1 Q) (dChainN fa fc):=by
 intro C w Γ σ H s Γ' Q R e k
 obtain⟨⟨p,G1⟩,e1,e⟩:=bind_some e
 refine ha C w Γ σ H p G1 _ R e1 fun v1 H1 R1 ev1 o1 n1=>?_
 exact hc C w G1 σ H1 v1 p s Γ' Q R1 o1 e fun v H2 R2 ev2 o2 n2=>k v H2 R2 (ev1.trans ev2) o2 (n2.back ev1 R1.lst)
end
def HX{ι:Type}(K:Fg)(X:ι->Cx)(ops:List CmpOp)(rs:List Expr)(f:S->DE):Prop:=∃ t,(∀ j,PC (X j) ops rs t)/\SimC K t f
def HT{ι:Type}(K:Fg)(X:ι->Cx)(ops:List CmpOp)(rs:List Expr)(f:S->DE):Prop:=∃ t,(∀ j,PD (X j) ops rs t)/\SimC K t f
section
variable {ι:Type}{K:Fg}{X:ι->Cx}{a b c:Expr}{pos:Pos}{fa fb:DE}
theorem zNT{op:CmpOp}{h:En->S->S->Option S}(hc:CmpR K X op h)(hb:EX K X b fb):HX K X [op] [b] (dLast h fb) :=
 let ⟨_,p,q⟩:=hc.ex; let ⟨_,b1,b2⟩:=hb; ⟨_,fun j=>zMk (p j) (b1 j),zE4 q b2⟩
theorem zEF{op op':CmpOp}{ops:List CmpOp}{rs:List Expr}{h:En->S->S->Option S}{fc:S->DE}(hc:CmpR K X op h)(hb:EX K X b fb)(ht:HX K X (op'::ops) (c::rs) fc):HX K X (op::op'::ops) (b::c::rs) (dLink h fb fc) :=
 let ⟨_,p,q⟩:=hc.ex; let ⟨_,b1,b2⟩:=hb; let ⟨_,c1,c2⟩:=ht; ⟨_,fun j=>zMw (p j) (b1 j) (c1 j),zEj q b2 c2⟩
theorem zJO{op op':CmpOp}{ops:List CmpOp}{rs:List Expr}{fc:S->DE}(ha:EX K X a fa)(ht:HX K X (op::op'::ops) (b::c::rs) fc)(hm:lastMarks (op::op'::ops) (b::c::rs)=false:=by with_unfolding_all rfl) :
  EX K X (.Compare a (op::op'::ops) (b::c::rs) pos) (dChainN fa fc) :=
 let ⟨_,a1,a2⟩:=ha; let ⟨_,c1,c2⟩:=ht; ⟨_,fun j=>zJJ (a1 j) (c1 j) hm,zD4 a2 c2⟩
theorem zL9{op:CmpOp}{h:En->S->S->Option S}(hc:CmpR K X op h)(hb:EX K X b fb):HT K X [op] [b] (dLast h fb) :=
 let ⟨_,p,q⟩:=hc.ex; let ⟨_,b1,b2⟩:=hb; ⟨_,fun j=>zMU (p j) (b1 j),zE4 q b2⟩
theorem zEQ{op op':CmpOp}{ops:List CmpOp}{rs:List Expr}{h:En->S->S->Option S}{fc:S->DE}(hc:CmpR K X op h)(hb:EX K X b fb)(ht:HT K X (op'::ops) (c::rs) fc):HT K X (op::op'::ops) (b::c::rs) (dLink h fb fc) :=
 let ⟨_,p,q⟩:=hc.ex; let ⟨_,b1,b2⟩:=hb; let ⟨_,c1,c2⟩:=ht; ⟨_,fun j=>zMZ (p j) (b1 j) (c1 j),zEj q b2 c2⟩
theorem zJa{op op':CmpOp}{ops:List CmpOp}{rs:List Expr}{fc:S->DE}(ha:EX K X a fa)(ht:HT K X (op::op'::ops) (b::c::rs) fc)(hm:lastMarks (op::op'::ops) (b::c::rs)=false:=by with_unfolding_all rfl) :
  TX K X (.Compare a (op::op'::ops) (b::c::rs) pos) (dTest (dChainN fa fc)) :=
 let ⟨_,a1,a2⟩:=ha; let ⟨_,c1,c2⟩:=ht; ⟨_,fun j=>zJV (a1 j) (c1 j) hm,zCF (zD4 a2 c2)⟩
end
end D
namespace L2
open PySem PySem.Spec PyProof.Rows
theorem zKM(l:Addr)(v v':Value)(n:Nat)(dd:Option Addr)(sl:Array (Option Value))(t:Tok) :
  Meets (Builtin.«tuple.__mul__» ⟨[.ref l,.int 0 t],[]⟩) (fun _ R s=>s.heap.get? l=some { cls:=.type "tuple",dict:=dd,data:=.seq #[v,v'] n,slots:=sl }/\R (.ok (.ret (.ref s.heap.objs.size))) { s with heap:=s.heap.push { cls:=.type "tuple",data:=.seq #[] } }) :=
 .of_wp fun prog w A R s h=>by
  obtain⟨hp,g,d,tk,os⟩:=s; obtain⟨hl,h⟩:=h
  have f1:=AutoSeq1.idx_int; have f2:=AutoSeq1.sub_tuple_tuple
  wp_walk using wpAny_loadPart' hl
  exact⟨_,rfl,h⟩
theorem zJ7(l:Addr)(n:Nat)(dd:Option Addr)(sl:Array (Option Value))(t:Tok) :
  Meets (Builtin.«tuple.__mul__» ⟨[.ref l,.int 0 t],[]⟩) (fun _ R s=>s.heap.get? l=some { cls:=.type "tuple",dict:=dd,data:=.seq #[] n,slots:=sl }/\R (.ok (.ret (.ref l))) s) :=
 .of_wp fun prog w A R s h=>by
  obtain⟨hp,g,d,tk,os⟩:=s; obtain⟨hl,h⟩:=h
  have f1:=AutoSeq1.idx_int; have f2:=AutoSeq1.sub_tuple_tuple
  wp_walk using wpAny_loadPart' hl
  exact⟨_,rfl,h⟩
def rRepZ(K:PySem.W.Frag):R2:=fun x y H Q=>∃ a zs,x=.ref a/\y=.int 0/\D.Tp K H a zs/\(zs=[]\/zs.length=2)/\∀ p H',Same H H'->D.Tp K H' p []->Q (.ref p) H'
theorem zLw{X:Cx}:OpR X (binaryOp .Mult) (rRepZ X.K):=by
 intro pins s σ H x y v u Q I rx ry h
 obtain⟨a,zs,rfl,rfl,ht,hz,q⟩:=h
 cases rx
 obtain⟨t,rfl⟩:=ry
 obtain⟨its,rv,⟨⟨cls,dd,data,sl⟩,ho,hc,n,hd⟩,hz2⟩:=I.tuple ht.sq
 simp only at hc hd
 subst hc hd
 refine wpAny_binaryOp_repeat_ref (T:="tuple") (U:="int") (by decide) ⟨_,ho,rfl⟩ (fun s'=>typeIs_int s' _ t) zBR F.fills_int_mul F.slot_int_rmul zCG F.slot_int_index.lookup
  (call_meets F.slot_int_rmul (typeIs_int s _ t) F.entry_int_rmul (F.args_int_rmul_2 _ _) (zCH _ t a _ n dd sl) ⟨ho,rfl,⟨_,ho,rfl⟩,?_⟩)
 have hf:H s.heap.objs.size=none:=I.hok.fresh (Nat.le_refl _)
 rcases hz with rfl | hz
 ·have:its=[]:=List.length_eq_zero_iff.mp (by rw[← rv.length]; rfl)
  subst this
  refine call_meets F.slot_tuple_mul ⟨_,ho,rfl⟩ F.entry_tuple_mul (F.args_tuple_mul_2 _ _) (zJ7 a n dd sl t) ⟨ho,?_⟩
  exact⟨.ref a,H,I,rfl,q a H (Same.refl H) ht⟩
 ·match its,(show its.length=2 by rw[← rv.length]; exact hz) with
  | [w1,w2],_ =>
   refine call_meets F.slot_tuple_mul ⟨_,ho,rfl⟩ F.entry_tuple_mul (F.args_tuple_mul_2 _ _) (zKM a w1 w2 n dd sl t) ⟨ho,?_⟩
   exact⟨.ref s.heap.objs.size,_,I.laid (t':=s.toks) (fun b o e=>Heap.get?_push_of_some _ e) (Nat.le_refl _) (show ObjOk X.prog X.w _ _ _ (.tup []) from ⟨by simp,[],.nil,TupD.new _ _⟩),rfl,q _ _ (Same.upd hf) (.inl zAg)⟩
end L2
namespace D
open PySem L2
def mulTupZ:En->S->S->Option S:=fun _ a b=>match a,b with
 | .v (.t xs),.v (.a (.int n))=>if n=0/\(xs=[]\/xs.length=2) then some (.v (.t [])) else none
 | _,_=>none
theorem zFL{K:Fg}:SimR2 K (rRepZ K) mulTupZ:=by
 intro C w Γ σ H x y a b s Q R ox oy e k
 unfold mulTupZ at e
 split at e
 ·split at e
  ·rename_i hl
   cases e
   obtain⟨p,vs,rfl,ht,hi⟩:=ox.invt
   have ey:=oy.inva
   subst ey
   obtain⟨hl0,hl⟩:=hl
   subst hl0
   refine⟨p,vs,rfl,rfl,ht,?_,fun q H' hs hq=>k _ H' (R.same hs) (Evo.of_same hs) (by show Im K H' (.ref q) _; unfold Im; exact⟨q,_,rfl,hq,.nil⟩) trivial⟩
   rcases hl with rfl | hl
   ·exact .inl hi.inv0
   ·exact .inr (hi.len.trans hl)
  ·cases e
 ·cases e
def mulS5:En->S->S->Option S:=fun Γ x y=>(mulS4 Γ x y).or (mulTupZ Γ x y)
section
variable {ι:Type}{K:Fg}{mg:Str->Option Value}{k:Nat}{X:ι->Cx}{a b:Expr}{pos:Pos}{fa fb:DE}
theorem zNL(M:Fm K mg k X)(ha:EX K X a fa)(hb:EX K X b fb):EX K X (.BinOp a .Mult b pos) (dOp mulS5 fa fb):=zCj (fun j=>by have:=((zHJ.or (zMV (X:=X j))).or (zML (X:=X j))).or (zLw (X:=X j)); rw[M.K j]at this; exact this) ((zHf.or zFH).or zFL) ha hb
end
@[simp] theorem zRN{Γ:En}{x:T}:mulS5 Γ (.v (.t [x])) (.v (.a (.int 0)))=some (.v (.t [])):=(rfl)
@[simp] theorem zQ6{Γ:En}{x:T}:mulS5 Γ (.v (.t [x])) (.v (.a (.int 1)))=some (.v (.t [x])):=(rfl)
@[simp] theorem zQq{Γ:En}:mulS5 Γ (.v (.t [])) (.v (.a (.int 0)))=some (.v (.t [])):=(rfl)
@[simp] theorem zQ4{Γ:En}{x y:T}:mulS5 Γ (.v (.t [x,y])) (.v (.a (.int 0)))=some (.v (.t [])):=(rfl)
def dDGetT(fo fk:DE):DE:=fun Γ=>(fo Γ).bind fun p=>if (dictOf p.2 p.1).isSome=true then (fk p.2).bind fun q=>(dictOf q.2 p.1).bind fun d=>match d,q.1 with
 | .inl kvs,.v t=>(keyT t).map fun k=>(.v ((valT kvs k).getD (.a .non)),q.2)
 | _,_=>none
 else none
theorem zIw{K:Fg}{td ty:TE}{fo fk:DE}(ho:SimE K td fo)(hk:SimE K ty fk):SimE K (tDGet1 td ty) (dDGetT fo fk):=by
 intro C w Γ σ H s Γ' Q R e k
 obtain⟨⟨a,G1⟩,e1,e⟩:=bind_some e
 dsimp only at e
 split at e
 rotate_left
 ·cases e
 rename_i hs0
 obtain⟨d0,hs0⟩:=Option.isSome_iff_exists.mp hs0
 obtain⟨⟨b,G2⟩,e2,e⟩:=bind_some e
 obtain⟨d,e3,e⟩:=bind_some e
 dsimp only at e
 split at e
 rotate_left
 ·cases e
 rename_i kvs t
 obtain⟨ky,e4,e⟩:=zAH e
 cases e
 refine ho C w Γ σ H a G1 _ R e1 fun v H1 R1 ev1 o1 n1=>?_
 obtain⟨p,ob,rfl,hp,hd⟩:=zEU R1 o1 hs0
 refine⟨p,rfl,hd.isD hp,?_⟩
 refine hk C w G1 σ H1 _ _ _ R1 e2 fun y H2 R2 ev2 o2 n2=>?_
 obtain⟨p2,ob2,ep,hp2,hd2⟩:=zEU R2 (o1.evo ev2 R1.lst) e3
 cases ep
 obtain⟨l,rfl,h1⟩:=hd2.invK
 have hy:=zEV o2 e4
 subst hy
 refine⟨_,DGet.k hp2,?_⟩
 rcases h1.val ky with ⟨a,b⟩ | ⟨v,t',a,b,c⟩
 ·rw[a]
  refine k _ H2 R2 (ev1.trans ev2) ?_ trivial
  rw[b]
  exact SOk.atom
 ·rw[a]
  refine k _ H2 R2 (ev1.trans ev2) ?_ trivial
  rw[b]
  exact c
section
variable {ι:Type}{K:Fg}{mg:Str->Option Value}{k:Nat}{X:ι->Cx}{o e:Expr}{fo fk:DE}{apos cpos:Pos}
theorem zK7(M:Fm K mg k X)(ho:EX K X o fo)(hk:EX K X e fk)(m:∀ j,M1 (X j) o "get" apos e cpos:=by intro _; exact⟨rfl,rfl,rfl,rfl⟩):EX K X (.Call (.Attribute o "get" apos) [e] [] cpos) (dDGetT fo fk) :=
 let ⟨_,p,s⟩:=ho; let ⟨_,q,u⟩:=hk; ⟨_,fun j=>zLX (un1 M j) (p j) (q j) (m j),zIw s u⟩
end
@[simp low] theorem zSw{α:Type}{b:Bool}{x y:α}:ifB b (x:=⟨x⟩) (y:=⟨y⟩)=if b=true then x else y:=rfl
end D
namespace Lw
open PySem.W (mg_of mg_none_of nsIn fnOf)
open PyProof.Rows (boot_all boot_bool boot_isinstance boot_max boot_min boot_repr boot_sorted boot_sum boot_tuple)
open PySem L2 D
def top(i:Nat):Stmt:=PySem.Challenge.pw_fivecups_k26_papers_written.main.body.getD i (.Pass ⟨0,0,0,0⟩)
section
variable {P:Program}{wd:World}{K:PySem.W.Frag}{mg:Str->Option Value}{base:Heap}
def zCU:T:=.t (([1,3,0,4,2]:List Int).map V.int |>.map T.a)
def zCD:T:=.t (([1,2,3,4,0]:List Int).map V.int |>.map T.a)
abbrev zDs:Nat:=40
abbrev zDp:Nat:=12
abbrev zBa:Nat:=12
abbrev zEA:Nat:=12
abbrev zDB:Nat:=12
abbrev zD6:Nat:=12
local macro_rules | `(tactic| walk_at "s") => `(tactic| exact ⟨rfl,rfl,rfl,by decide +kernel,rfl,by decide +kernel,by decide +kernel⟩)
abbrev st_6:Stmt:=top 52
theorem sc_6:FnScope ["_law_script","_law_k","_law_cell","_law_seed"] ["_law_script","_law_k"] (defScope st_6):=by walk_at "s"
noncomputable def d_6:DS:=dSeq (dSet 2 (dOp addS (dOp mulS (dC (.int 7919)) (jV 1)) (dC (.int 11))))
 (dSeq (dIf (dTest (dOp ltS (jV 1) (dCB lenS (jW (jV 0) qQ)))) (dSet 2 (dOp ixS (jV 0) (jV 1))) (dIf (dTest (dOp gtS (dCB lenS (jW (jV 0) qQ)) (dC (.int 0)))) (dSet 2 (dOp addS (jV 2) (dOp mulS (dOp modS (dOp ixS (jV 0) (dOp modS (jV 1) (dCB lenS (jW (jV 0) qQ)))) (dC (.int 2147483629))) (dC (.int 69623))))) dNext))
 (dSeq (dSet 3 (dOp addS (dOp modS (dOp addS (dOp mulS (dOp modS (jV 2) (dC (.int 2147483629))) (dC (.int 48271))) (dOp mulS (dC (.int 40692)) (jV 1))) (dC (.int 2147483629))) (dC (.int 1))))
 (dRet (dLst (jW (dOp ixS (dLst (jW (dC (.int 0)) (jW (jV 2) qQ))) (dCB intS (jW (dOp geS (jV 2) (dOp powS (dC (.int 10)) (dC (.int 18)))) qQ))) (jW (jV 3) qQ))))))
noncomputable def F_6:DF:=fnD none 2 4 d_6
theorem ok_6{f:Addr}{fd:FuncData}(Fn:Fun K "_law_box" "_law_box" st_6 f fd)(hm:mg "_law_box"=some (.ref f))(hb:Binds K fd ["_law_script","_law_k"] [])(z_int:mg "int"=none)(z_len:mg "len"=none):FD P wd K mg base (1) "_law_box" none 2 F_6 :=
 zAM (k:=0) Fn sc_6 hm hb fun cdv A outer s H E M B=>zAA (zAI 2 (zAS M (zAx jJ (jZ 1)) jJ) (hN:=fun _=>sc_6.nd))
 (zAA (zAL (tx_c zA6 (jZ 1) (zAO M (zAd M) z_len PySem.boot_len (jQ (jZ 0) jY))) (zAD (zAI 2 (zAC M (jZ 0) (jZ 1)) (hN:=fun _=>sc_6.nd))) (zAD (zAL (tx_c zBq (zAO M (zAd M) z_len PySem.boot_len (jQ (jZ 0) jY)) jJ) (zAD (zAI 2 (zAS M (jZ 2) (zAx (zBI (zAC M (jZ 0) (zBI (jZ 1) (zAO M (zAd M) z_len PySem.boot_len (jQ (jZ 0) jY)))) jJ) jJ)) (hN:=fun _=>sc_6.nd))) zAJ)))
 (zAA (zAI 3 (zAS M (zBI (zAS M (zAx (zBI (jZ 2) jJ) jJ) (zAx jJ (jZ 1))) jJ) jJ) (hN:=fun _=>sc_6.nd))
 (zAD (zAE (zAc (jQ (zAC M (zAc (jQ jJ (jQ (jZ 2) jY))) (zBM M (zFh) z_int (by decide +kernel) (jQ (ex_c zOz (jZ 2) (zNj jJ jJ)) jY))) (jQ (jZ 3) jY)))))))
abbrev st_7:Stmt:=top 53
theorem sc_7:FnScope ["_law_box_here","_law_wide","_law_digit","_law_one"] ["_law_box_here","_law_wide"] (defScope st_7):=by walk_at "s"
noncomputable def d_7:DS:=dSeq (dIf (dTest (dOp gtS (dOp ixS (jV 0) (dC (.int 0))) (dC (.int 0)))) (dSeq (dSet 2 (dOp modS (dOp ixS (jV 0) (dC (.int 0))) (jV 1)))
 (dSeq (dSetIx 0 (dOp fdivS (dOp ixS (jV 0) (dC (.int 0))) (jV 1)) (dC (.int 0)))
 (dRet (jV 2)))) dNext)
 (dSeq (dSet 3 (dOp modS (dOp mulS (dOp ixS (jV 0) (dC (.int 1))) (dC (.int 69623))) (dC (.int 2147483647))))
 (dSeq (dSetIx 0 (dOp addS (dOp modS (dOp addS (dOp mulS (jV 3) (dC (.int 48271))) (dC (.int 30103))) (dC (.int 2147483629))) (dC (.int 1))) (dC (.int 1)))
 (dRet (dOp modS (dOp fdivS (dOp addS (dOp mulS (jV 3) (dC (.int 2147483647))) (dOp ixS (jV 0) (dC (.int 1)))) (dC (.int 8191))) (jV 1)))))
noncomputable def F_7:DF:=fnD (some 0) 2 4 d_7
theorem ok_7{f:Addr}{fd:FuncData}(Fn:Fun K "_law_take" "_law_take" st_7 f fd)(hm:mg "_law_take"=some (.ref f))(hb:Binds K fd ["_law_box_here","_law_wide"] []) :FD P wd K mg base (1) "_law_take" (some 0) 2 F_7 :=
 zAM (k:=0) Fn sc_7 hm hb fun cdv A outer s H E M B=>zAA (zAL (tx_c zBq (zAC M (jZ 0) jJ) jJ) (zAA (zAI 2 (zBI (zAC M (jZ 0) jJ) (jZ 1)) (hN:=fun _=>sc_7.nd))
 (zAA (zDV 0 (zB7 (zAC M (jZ 0) jJ) (jZ 1)) (pv' 0) jJ)
 (zAD (zAE (jZ 2))))) zAJ)
 (zAA (zAI 3 (zBI (zAx (zAC M (jZ 0) jJ) jJ) jJ) (hN:=fun _=>sc_7.nd))
 (zAA (zDV 0 (zAS M (zBI (zAS M (zAx (jZ 3) jJ) jJ) jJ) jJ) (pv' 0) jJ)
 (zAD (zAE (zBI (zB7 (zAS M (zAx (jZ 3) jJ) (zAC M (jZ 0) jJ)) jJ) (jZ 1))))))
abbrev st_2:Stmt:=top 57
theorem sc_2:FnScope ["_law_box_here","_law_questions","_law_room","_law_down","_law_form","_law_first","_law_one","_law_second","_law_other","_law_head"] ["_law_box_here","_law_questions","_law_room","_law_down"] (defScope st_2):=by walk_at "s"
noncomputable def d_2 (rec:DF):DS:=dSeq (dSet 4 (dCall (some 0) F_7 [] (jW (jV 0) (jW (dC (.int 10)) qQ))))
 (dSeq (dIf (dOr (dTest (dOp ltS (jV 2) (dC (.int 2)))) (dOr (dTest (dOp ltS (jV 3) (dC (.int 2)))) (dTest (dOp eqS (jV 4) (dC (.int 0)))))) (dRet (dOp ixS (dLst (jW (dTup (jW (dC (.str "ask")) (jW (dCall (some 0) F_7 [] (jW (jV 0) (jW (jV 1) qQ))) qQ))) (jW (dTup (jW (dC (.str "yes")) qQ)) (jW (dTup (jW (dC (.str "no")) qQ)) qQ)))) (dCB max2S (jW (dC (.int 0)) (jW (dOp subS (dCall (some 0) F_7 [] (jW (jV 0) (jW (dC (.int 8)) qQ))) (dC (.int 5))) qQ))))) dNext)
 (dSeq (dIf (dOr (dTest (dOp ltS (jV 4) (dC (.int 3)))) (dTest (dOp ltS (jV 2) (dC (.int 3))))) (dRet (dTup (jW (dC (.str "not")) (jW (dCall (some 0) rec [] (jW (jV 0) (jW (jV 1) (jW (dOp subS (jV 2) (dC (.int 1))) (jW (dOp subS (jV 3) (dC (.int 1))) qQ))))) qQ)))) dNext)
 (dSeq (dSet 5 (dOp addS (dC (.int 1)) (dCall (some 0) F_7 [] (jW (jV 0) (jW (dOp subS (jV 2) (dC (.int 2))) qQ)))))
 (dSeq (dSet 6 (dCall (some 0) rec [] (jW (jV 0) (jW (jV 1) (jW (jV 5) (jW (dOp subS (jV 3) (dC (.int 1))) qQ))))))
 (dSeq (dIf (dAnd (dTest (dOp eqS (jV 4) (dC (.int 9)))) (dAnd (dTest (dOp gtS (jV 2) (dC (.int 3)))) (dTest (dOp ltS (jV 5) (dOp subS (jV 2) (dC (.int 2))))))) (dSeq (dSet 7 (dOp addS (dC (.int 1)) (dCall (some 0) F_7 [] (jW (jV 0) (jW (dOp subS (dOp subS (jV 2) (dC (.int 2))) (jV 5)) qQ)))))
 (dSeq (dSet 8 (dCall (some 0) rec [] (jW (jV 0) (jW (jV 1) (jW (jV 7) (jW (dOp subS (jV 3) (dC (.int 1))) qQ))))))
 (dRet (dTup (jW (dC (.str "most")) (jW (jV 6) (jW (jV 8) (jW (dCall (some 0) rec [] (jW (jV 0) (jW (jV 1) (jW (dOp subS (dOp subS (dOp subS (jV 2) (dC (.int 1))) (jV 5)) (jV 7)) (jW (dOp subS (jV 3) (dC (.int 1))) qQ))))) qQ)))))))) dNext)
 (dSeq (dSet 9 (dOp ixS (dLst (jW (dC (.str "and")) (jW (dC (.str "or")) (jW (dC (.str "either")) qQ)))) (dOp modS (jV 4) (dC (.int 3)))))
 (dRet (dTup (jW (jV 9) (jW (jV 6) (jW (dCall (some 0) rec [] (jW (jV 0) (jW (jV 1) (jW (dOp subS (dOp subS (jV 2) (dC (.int 1))) (jV 5)) (jW (dOp subS (jV 3) (dC (.int 1))) qQ))))) qQ)))))))))))
noncomputable def F_2:Nat->DF
 | 0=>fun _=>none
 | n+1=>fnD (some 0) 4 10 (d_2 (F_2 n))
theorem ok_2{f:Addr}{fd:FuncData}(Fn:Fun K "_law_saying" "_law_saying" st_2 f fd)(hm:mg "_law_saying"=some (.ref f))(hb:Binds K fd ["_law_box_here","_law_questions","_law_room","_law_down"] [])(z_max:mg "max"=none)(D_7:FD P wd K mg base (1) "_law_take" (some 0) 2 F_7)(n:Nat):FD P wd K mg base (1+n) "_law_saying" (some 0) 4 (F_2 n):=by
 induction n with
 | zero=>exact zCB Fn hm hb rfl
 | succ n ih =>
  have Drec:=ih
  exact zAM (k:=1+n) Fn sc_2 hm hb fun cdv A outer s H E M B=>zAA (zAI 4 (zAB M B D_7 (jQ (jZ 0) (jQ jJ jY))) (hN:=fun _=>sc_2.nd))   (zAA (zAL (tx_w (zAt (tx_c zA6 (jZ 2) jJ) (zAt (tx_c zA6 (jZ 3) jJ) (zA3 (tx_c (zAR M) (jZ 4) jJ))))) (zAD (zAE (zAC M (zAc (jQ (zAG (jQ zAF (jQ (zAB M B D_7 (jQ (jZ 0) (jQ (jZ 1) jY))) jY))) (jQ (zAG (jQ zAF jY)) (jQ (zAG (jQ zAF jY)) jY)))) (zAO M (zM7 M) z_max boot_max (jQ jJ (jQ (zAf (zAB M B D_7 (jQ (jZ 0) (jQ jJ jY))) jJ) jY)))))) zAJ)   (zAA (zAL (tx_w (zAt (tx_c zA6 (jZ 4) jJ) (zA3 (tx_c zA6 (jZ 2) jJ)))) (zAD (zAE (zAG (jQ zAF (jQ (zAB M B Drec (jQ (jZ 0) (jQ (jZ 1) (jQ (zAf (jZ 2) jJ) (jQ (zAf (jZ 3) jJ) jY))))) jY))))) zAJ)   (zAA (zAI 5 (zAS M jJ (zAB M B D_7 (jQ (jZ 0) (jQ (zAf (jZ 2) jJ) jY)))) (hN:=fun _=>sc_2.nd))   (zAA (zAI 6 (zAB M B Drec (jQ (jZ 0) (jQ (jZ 1) (jQ (jZ 5) (jQ (zAf (jZ 3) jJ) jY))))) (hN:=fun _=>sc_2.nd))   (zAA (zAL (tx_w (zCv (tx_c (zAR M) (jZ 4) jJ) (zCv (tx_c zBq (jZ 2) jJ) (zDH (tx_c zA6 (jZ 5) (zAf (jZ 2) jJ)))))) (zAA (zAI 7 (zAS M jJ (zAB M B D_7 (jQ (jZ 0) (jQ (zAf (zAf (jZ 2) jJ) (jZ 5)) jY)))) (hN:=fun _=>sc_2.nd))   (zAA (zAI 8 (zAB M B Drec (jQ (jZ 0) (jQ (jZ 1) (jQ (jZ 7) (jQ (zAf (jZ 3) jJ) jY))))) (hN:=fun _=>sc_2.nd))   (zAD (zAE (zAG (jQ zAF (jQ (jZ 6) (jQ (jZ 8) (jQ (zAB M B Drec (jQ (jZ 0) (jQ (jZ 1) (jQ (zAf (zAf (zAf (jZ 2) jJ) (jZ 5)) (jZ 7)) (jQ (zAf (jZ 3) jJ) jY))))) jY))))))))) zAJ)   (zAA (zAI 9 (zAC M (zAc (jQ zAF (jQ zAF (jQ zAF jY)))) (zBI (jZ 4) jJ)) (hN:=fun _=>sc_2.nd))   (zAD (zAE (zAG (jQ (jZ 9) (jQ (jZ 6) (jQ (zAB M B Drec (jQ (jZ 0) (jQ (jZ 1) (jQ (zAf (zAf (jZ 2) jJ) (jZ 5)) (jQ (zAf (jZ 3) jJ) jY))))) jY))))))))))))
abbrev st_4:Stmt:=top 60
theorem sc_4:FnScope ["_law_box_here","_law_questions","_law_most","_law_down","_law_form","_law_head","_law_room","_law_last","_law_third","_law_first","_law_one"] ["_law_box_here","_law_questions","_law_most","_law_down"] (defScope st_4):=by walk_at "s"
noncomputable def d_4 (rec:DF):DS:=dSeq (dSet 4 (dCall (some 0) F_7 [] (jW (jV 0) (jW (dC (.int 8)) qQ))))
 (dSeq (dIf (dOr (dTest (dOp ltS (jV 2) (dC (.int 4)))) (dOr (dTest (dOp ltS (jV 3) (dC (.int 2)))) (dTest (dOp eqS (jV 4) (dC (.int 0)))))) (dRet (dCall (some 0) (F_2 zBa) [] (jW (jV 0) (jW (jV 1) (jW (dC (.int 1)) (jW (dC (.int 1)) qQ)))))) dNext)
 (dSeq (dIf (dTest (dOp eqS (jV 4) (dC (.int 1)))) (dRet (dTup (jW (dC (.str "not")) (jW (dCall (some 0) rec [] (jW (jV 0) (jW (jV 1) (jW (jV 2) (jW (dOp subS (jV 3) (dC (.int 1))) qQ))))) qQ)))) dNext)
 (dSeq (dPar3 5 6 7 (jW (dOp ixS (dLst (jW (dC (.str "and")) (jW (dC (.str "or")) qQ))) (dOp modS (jV 4) (dC (.int 2)))) (jW (dOp fdivS (jV 2) (dC (.int 2))) (jW (dTup qQ) qQ))))
 (dSeq (dIf (dAnd (dTest (dOp eqS (jV 4) (dC (.int 4)))) (dTest (dOp gtS (jV 2) (dC (.int 15))))) (dPar2 5 6 (jW (dC (.str "either")) (jW (dOp fdivS (jV 2) (dC (.int 8))) qQ))) dNext)
 (dSeq (dIf (dAnd (dTest (dOp ltS (jV 4) (dC (.int 4)))) (dTest (dOp gtS (jV 2) (dC (.int 27))))) (dSeq (dSet 8 (dOp addS (dC (.int 1)) (dCall (some 0) F_7 [] (jW (jV 0) (jW (dOp fdivS (dOp subS (jV 2) (dC (.int 24))) (dC (.int 4))) qQ)))))
 (dSeq (dPar2 5 6 (jW (dC (.str "most")) (jW (dOp fdivS (dOp subS (jV 2) (dOp mulS (dC (.int 4)) (jV 8))) (dC (.int 12))) qQ)))
 (dSet 7 (dTup (jW (dCall (some 0) rec [] (jW (jV 0) (jW (jV 1) (jW (jV 8) (jW (dOp subS (jV 3) (dC (.int 1))) qQ))))) qQ))))) dNext)
 (dSeq (dSet 9 (dOp addS (dC (.int 1)) (dCall (some 0) F_7 [] (jW (jV 0) (jW (dOp subS (jV 6) (dC (.int 1))) qQ)))))
 (dSeq (dSet 10 (dCall (some 0) rec [] (jW (jV 0) (jW (jV 1) (jW (jV 9) (jW (dOp subS (jV 3) (dC (.int 1))) qQ))))))
 (dRet (dOp addS (dTup (jW (jV 5) (jW (jV 10) (jW (dCall (some 0) rec [] (jW (jV 0) (jW (jV 1) (jW (dOp subS (jV 6) (jV 9)) (jW (dOp subS (jV 3) (dC (.int 1))) qQ))))) qQ)))) (jV 7))))))))))
noncomputable def F_4:Nat->DF
 | 0=>fun _=>none
 | n+1=>fnD (some 0) 4 11 (d_4 (F_4 n))
theorem ok_4{f:Addr}{fd:FuncData}(Fn:Fun K "_law_weighed" "_law_weighed" st_4 f fd)(hm:mg "_law_weighed"=some (.ref f))(hb:Binds K fd ["_law_box_here","_law_questions","_law_most","_law_down"] [])(D_7:FD P wd K mg base (1) "_law_take" (some 0) 2 F_7)(D_2:FD P wd K mg base (13) "_law_saying" (some 0) 4 (F_2 zBa))(n:Nat):FD P wd K mg base (13+n) "_law_weighed" (some 0) 4 (F_4 n):=by
 induction n with
 | zero=>exact zCB Fn hm hb rfl
 | succ n ih =>
  have Drec:=ih
  exact zAM (k:=13+n) Fn sc_4 hm hb fun cdv A outer s H E M B=>zAA (zAI 4 (zAB M B D_7 (jQ (jZ 0) (jQ jJ jY))) (hN:=fun _=>sc_4.nd))   (zAA (zAL (tx_w (zAt (tx_c zA6 (jZ 2) jJ) (zAt (tx_c zA6 (jZ 3) jJ) (zA3 (tx_c (zAR M) (jZ 4) jJ))))) (zAD (zAE (zAB M B D_2 (jQ (jZ 0) (jQ (jZ 1) (jQ jJ (jQ jJ jY))))))) zAJ)   (zAA (zAL (tx_c (zAR M) (jZ 4) jJ) (zAD (zAE (zAG (jQ zAF (jQ (zAB M B Drec (jQ (jZ 0) (jQ (jZ 1) (jQ (jZ 2) (jQ (zAf (jZ 3) jJ) jY))))) jY))))) zAJ)   (zAA (zL7 5 6 7 M (jQ (zAC M (zAc (jQ zAF (jQ zAF jY))) (zBI (jZ 4) jJ)) (jQ (zB7 (jZ 2) jJ) (jQ (zAG jY) jY))) (hN:=fun _=>sc_4.nd))   (zAA (zAL (tx_w (zCv (tx_c (zAR M) (jZ 4) jJ) (zDH (tx_c zBq (jZ 2) jJ)))) (zAD (zJD 5 6 M (jQ zAF (jQ (zB7 (jZ 2) jJ) jY)) (hN:=fun _=>sc_4.nd))) zAJ)   (zAA (zAL (tx_w (zCv (tx_c zA6 (jZ 4) jJ) (zDH (tx_c zBq (jZ 2) jJ)))) (zAA (zAI 8 (zAS M jJ (zAB M B D_7 (jQ (jZ 0) (jQ (zB7 (zAf (jZ 2) jJ) jJ) jY)))) (hN:=fun _=>sc_4.nd))   (zAA (zJD 5 6 M (jQ zAF (jQ (zB7 (zAf (jZ 2) (zAx jJ (jZ 8))) jJ) jY)) (hN:=fun _=>sc_4.nd))   (zAD (zAI 7 (zAG (jQ (zAB M B Drec (jQ (jZ 0) (jQ (jZ 1) (jQ (jZ 8) (jQ (zAf (jZ 3) jJ) jY))))) jY)) (hN:=fun _=>sc_4.nd))))) zAJ)   (zAA (zAI 9 (zAS M jJ (zAB M B D_7 (jQ (jZ 0) (jQ (zAf (jZ 6) jJ) jY)))) (hN:=fun _=>sc_4.nd))   (zAA (zAI 10 (zAB M B Drec (jQ (jZ 0) (jQ (jZ 1) (jQ (jZ 9) (jQ (zAf (jZ 3) jJ) jY))))) (hN:=fun _=>sc_4.nd))   (zAD (zAE (zAS M (zAG (jQ (jZ 5) (jQ (jZ 10) (jQ (zAB M B Drec (jQ (jZ 0) (jQ (jZ 1) (jQ (zAf (jZ 6) (jZ 9)) (jQ (zAf (jZ 3) jJ) jY))))) jY)))) (jZ 7)))))))))))
noncomputable def zDh (rec:DF):DE:=dCall none rec [] (jW (jV 0) qQ)
noncomputable def zC2 (rec:DF):DT:=dTru (dCB isiS (jW (jV 0) (jW (dC (.ty "tuple")) qQ)))
abbrev st_5:Stmt:=top 58
theorem sc_5:FnScope ["_law_saying_here","_law_some"] ["_law_saying_here"] (defScope st_5):=by walk_at "s"
noncomputable def d_5 (rec:DF):DS:=dSeq (dSet 1 (dComp none [none] (dSeqI (dSl (jV 0) (dPart (dC (.int 1))) dNoPart)) (gdName 0) ((zC2 rec)) ((zDh rec))))
 (dSeq (dIf (dTest (dOp (inS false) (dOp ixS (jV 0) (dC (.int 0))) (dTup (jW (dC (.str "yes")) (jW (dC (.str "no")) (jW (dC (.str "ask")) qQ)))))) (dRet (dC (.int 1))) dNext)
 (dSeq (dIf (dTest (dOp eqS (dOp ixS (jV 0) (dC (.int 0))) (dC (.str "not")))) (dRet (dOp ixS (jV 1) (dC (.int 0)))) dNext)
 (dSeq (dIf (dTest (dOp eqS (dOp ixS (jV 0) (dC (.int 0))) (dC (.str "most")))) (dRet (dOp addS (dOp mulS (dC (.int 12)) (dOp addS (dOp ixS (jV 1) (dC (.int 0))) (dOp ixS (jV 1) (dC (.int 1))))) (dOp mulS (dC (.int 4)) (dOp ixS (jV 1) (dC (.int 2)))))) dNext)
 (dRet (dOp mulS (dOp addS (dOp ixS (jV 1) (dC (.int 0))) (dOp ixS (jV 1) (dC (.int 1)))) (dOp ixS (dLst (jW (dC (.int 2)) (jW (dC (.int 8)) qQ))) (dCB intS (jW (dOp eqS (dOp ixS (jV 0) (dC (.int 0))) (dC (.str "either"))) qQ))))))))
noncomputable def F_5:Nat->DF
 | 0=>fun _=>none
 | n+1=>fnD none 1 2 (d_5 (F_5 n))
theorem ok_5{f:Addr}{fd:FuncData}(Fn:Fun K "_law_weight" "_law_weight" st_5 f fd)(hm:mg "_law_weight"=some (.ref f))(hb:Binds K fd ["_law_saying_here"] [])(z_int:mg "int"=none)(z_isinstance:mg "isinstance"=none)(z_tuple:mg "tuple"=none)(n:Nat):FD P wd K mg base (0+n) "_law_weight" none 1 (F_5 n):=by
 induction n with
 | zero=>exact zCB Fn hm hb rfl
 | succ n ih =>
  have Drec:=ih
  exact zAM (k:=0+n) Fn sc_5 hm hb fun cdv A outer s H E M B=>zAA (zCR 1 none (N':=["_law_one"]) (ix:=[none]) M (fun _=>⟨rfl,by kernel_rfl⟩) (zA1 M (zAq M (jZ 0) (zAU jJ) zAo)) (zAP 0 (hN:=fun _=>(by show (["_law_one"]:List Str).Nodup; decide +kernel))) (zDz (tx_v M.comp (zAO M.comp (zBD M.comp) z_isinstance boot_isinstance (jQ (jZ 0) (jQ (zBQ M.comp z_tuple boot_tuple) jY))))) (zAB M.comp B.comp Drec (jQ (jZ 0) jY)) (hix:=hix0) (hN:=fun _=>sc_5.nd))   (zAA (zAL (tx_c (zIT M) (zAC M (jZ 0) jJ) (zAG (jQ zAF (jQ zAF (jQ zAF jY))))) (zAD (zAE jJ)) zAJ)   (zAA (zAL (tx_c (zAR M) (zAC M (jZ 0) jJ) zAF) (zAD (zAE (zAC M (jZ 1) jJ))) zAJ)   (zAA (zAL (tx_c (zAR M) (zAC M (jZ 0) jJ) zAF) (zAD (zAE (zAS M (zAx jJ (zAS M (zAC M (jZ 1) jJ) (zAC M (jZ 1) jJ))) (zAx jJ (zAC M (jZ 1) jJ))))) zAJ)   (zAD (zAE (zAx (zAS M (zAC M (jZ 1) jJ) (zAC M (jZ 1) jJ)) (zAC M (zAc (jQ jJ (jQ jJ jY))) (zBM M (zFh) z_int (by decide +kernel) (jQ (ex_c (zAR M) (zAC M (jZ 0) jJ) zAF) jY)))))))))
noncomputable def zD1 (rec:DF):DE:=dCall none rec [] (jW (jV 0) qQ)
noncomputable def zC3 (rec:DF):DT:=dTru (dCB isiS (jW (jV 0) (jW (dC (.ty "tuple")) qQ)))
abbrev st_1:Stmt:=top 59
theorem sc_1:FnScope ["_law_saying_here"] ["_law_saying_here"] (defScope st_1):=by walk_at "s"
noncomputable def d_1 (rec:DF):DS:=dRet (dOp addS (dC (.int 1)) (dCB sumS (jW (dComp none [none] (dSeqI (dSl (jV 0) (dPart (dC (.int 1))) dNoPart)) (gdName 0) ((zC3 rec)) ((zD1 rec))) qQ)))
noncomputable def F_1:Nat->DF
 | 0=>fun _=>none
 | n+1=>fnD none 1 1 (d_1 (F_1 n))
theorem ok_1{f:Addr}{fd:FuncData}(Fn:Fun K "_law_many_parts" "_law_many_parts" st_1 f fd)(hm:mg "_law_many_parts"=some (.ref f))(hb:Binds K fd ["_law_saying_here"] [])(z_isinstance:mg "isinstance"=none)(z_sum:mg "sum"=none)(z_tuple:mg "tuple"=none)(n:Nat):FD P wd K mg base (0+n) "_law_many_parts" none 1 (F_1 n):=by
 induction n with
 | zero=>exact zCB Fn hm hb rfl
 | succ n ih =>
  have Drec:=ih
  exact zAM (k:=0+n) Fn sc_1 hm hb fun cdv A outer s H E M B=>zAD (zAE (zAS M jJ (zAO M (zOU M) z_sum boot_sum (jQ (zA0 none (N':=["_law_one"]) (ix:=[none]) M (fun _=>⟨rfl,by kernel_rfl⟩) (zA1 M (zAq M (jZ 0) (zAU jJ) zAo)) (zAP 0 (hN:=fun _=>(by show (["_law_one"]:List Str).Nodup; decide +kernel))) (zDz (tx_v M.comp (zAO M.comp (zBD M.comp) z_isinstance boot_isinstance (jQ (jZ 0) (jQ (zBQ M.comp z_tuple boot_tuple) jY))))) (zAB M.comp B.comp Drec (jQ (jZ 0) jY)) (hix:=hix0)) jY))))
noncomputable def zCX:DT:=dOr (dTest (dOp gtS (dCall none (F_5 zD6) [] (jW (jV 4) qQ)) (jV 3))) (dTest (dOp gtS (dCall none (F_1 zDp) [] (jW (jV 4) qQ)) (jV 2)))
noncomputable def zDl:DS:=dSet 4 (dOp ixS (jV 4) (dOp addS (dC (.int 1)) (dCall (some 0) F_7 [] (jW (jV 0) (jW (dOp subS (dCB lenS (jW (jV 4) qQ)) (dC (.int 1))) qQ)))))
abbrev st_8:Stmt:=top 61
theorem sc_8:FnScope ["_law_box_here","_law_questions","_law_room","_law_most","_law_found"] ["_law_box_here","_law_questions","_law_room","_law_most"] (defScope st_8):=by walk_at "s"
noncomputable def d_8:DS:=dSeq (dSet 4 (dCall (some 0) (F_2 zBa) [] (jW (jV 0) (jW (jV 1) (jW (jV 2) (jW (dC (.int 5)) qQ))))))
 (dSeq (dIf (dTest (dOp eqS (dCall (some 0) F_7 [] (jW (jV 0) (jW (dC (.int 2)) qQ))) (dC (.int 0)))) (dSet 4 (dCall (some 0) (F_4 zDB) [] (jW (jV 0) (jW (jV 1) (jW (jV 3) (jW (dC (.int 5)) qQ)))))) dNext)
 (dSeq (dWhile (zCX) (zDl) fuelX)
 (dRet (jV 4))))
noncomputable def F_8:DF:=fnD (some 0) 4 5 d_8
theorem ok_8{f:Addr}{fd:FuncData}(Fn:Fun K "_law_light" "_law_light" st_8 f fd)(hm:mg "_law_light"=some (.ref f))(hb:Binds K fd ["_law_box_here","_law_questions","_law_room","_law_most"] [])(z_len:mg "len"=none)(D_7:FD P wd K mg base (1) "_law_take" (some 0) 2 F_7)(D_2:FD P wd K mg base (13) "_law_saying" (some 0) 4 (F_2 zBa))(D_4:FD P wd K mg base (25) "_law_weighed" (some 0) 4 (F_4 zDB))(D_5:FD P wd K mg base (12) "_law_weight" none 1 (F_5 zD6))(D_1:FD P wd K mg base (12) "_law_many_parts" none 1 (F_1 zDp)):FD P wd K mg base (26) "_law_light" (some 0) 4 F_8 :=
 zAM (k:=25) Fn sc_8 hm hb fun cdv A outer s H E M B=>zAA (zAI 4 (zAB M B D_2 (jQ (jZ 0) (jQ (jZ 1) (jQ (jZ 2) (jQ jJ jY))))) (hN:=fun _=>sc_8.nd))
 (zAA (zAL (tx_c (zAR M) (zAB M B D_7 (jQ (jZ 0) (jQ jJ jY))) jJ) (zAD (zAI 4 (zAB M B D_4 (jQ (jZ 0) (jQ (jZ 1) (jQ (jZ 3) (jQ jJ jY))))) (hN:=fun _=>sc_8.nd))) zAJ)
 (zAA (zBn fuelX (fun _=>PassesOwn.never) (tx_w (zAt (tx_c zBq (zAB M B D_5 (jQ (jZ 4) jY)) (jZ 3)) (zA3 (tx_c zBq (zAB M B D_1 (jQ (jZ 4) jY)) (jZ 2))))) (zAD (zAI 4 (zAC M (jZ 4) (zAS M jJ (zAB M B D_7 (jQ (jZ 0) (jQ (zAf (zAO M (zAd M) z_len PySem.boot_len (jQ (jZ 4) jY)) jJ) jY))))) (hN:=fun _=>sc_8.nd))))
 (zAD (zAE (jZ 4)))))
abbrev st_9:Stmt:=top 27
theorem sc_9:FnScope ["cups","thing"] ["cups","thing"] (defScope st_9):=by walk_at "s"
noncomputable def d_9:DS:=dRet (dOp eqS (dCB sortedS (jW (jV 1) qQ)) (dListRng (jW (jV 0) qQ)))
noncomputable def F_9:DF:=fnD none 2 2 d_9
theorem ok_9{f:Addr}{fd:FuncData}(Fn:Fun K "is_turning" "is_turning" st_9 f fd)(hm:mg "is_turning"=some (.ref f))(hb:Binds K fd ["cups","thing"] [])(z_list:mg "list"=none)(z_range:mg "range"=none)(z_sorted:mg "sorted"=none):FD P wd K mg base (1) "is_turning" none 2 F_9 :=
 zAM (k:=0) Fn sc_9 hm hb fun cdv A outer s H E M B=>zAD (zAE (ex_c (zAR M) (zAO M (zEs M) z_sorted boot_sorted (jQ (jZ 1) jY)) (zDg M z_list z_range (jQ (jZ 0) jY))))
noncomputable def zNG:DT:=dTest (dOp neS (dOp ixS (jV 0) (dOp ixS (jV 2) (dUn negS (dC (.int 1))))) (jV 1))
noncomputable def zNI:DS:=dDrop (dMut 2 hAppend (jW (dOp ixS (jV 0) (dOp ixS (jV 2) (dUn negS (dC (.int 1))))) qQ))
abbrev zIo:Stmt:=top 5
theorem zLf:FnScope ["turning","place","row"] ["turning","place"] (defScope zIo):=by walk_at "s"
noncomputable def d_10:DS:=dSeq (dSet 2 (dLst (jW (jV 1) qQ)))
 (dSeq (dWhile (zNG) (zNI) fuelX)
 (dRet (dCB tupleS (jW (jV 2) qQ))))
noncomputable def F_10:DF:=fnD none 2 3 d_10
theorem zQC{f:Addr}{fd:FuncData}(Fn:Fun K "row_from" "row_from" zIo f fd)(hm:mg "row_from"=some (.ref f))(hb:Binds K fd ["turning","place"] [])(z_tuple:mg "tuple"=none):FD P wd K mg base (1) "row_from" none 2 F_10 :=
 zAM (k:=0) Fn zLf hm hb fun cdv A outer s H E M B=>zAA (zAI 2 (zAc (jQ (jZ 1) jY)) (hN:=fun _=>zLf.nd))
 (zAA (zBn fuelX (fun _=>PassesOwn.never) (tx_c (zBA M) (zAC M (jZ 0) (zAC M (jZ 2) (zB2 jJ))) (jZ 1)) (zAD (zBU (zBu M PySem.F.slot_list_append PySem.F.type_list_append (fun _=>zB1) zBh (pv' 2) (jQ (zAC M (jZ 0) (zAC M (jZ 2) (zB2 jJ))) jY)))))
 (zAD (zAE (zBM M (zA9 M) z_tuple boot_tuple (jQ (jZ 2) jY)))))
noncomputable def zL5:DE:=jV 0
noncomputable def zMb:DT:=dAnd (dTest (dOp gtS (dCB lenS (jW (jV 0) qQ)) (dC (.int 1)))) (dTest (dOp eqS (dOp ixS (jV 0) (dC (.int 0))) (dCB min1S (jW (jV 0) qQ))))
noncomputable def zMo:DE:=dCall none F_10 [] (jW (jV 1) (jW (jV 0) qQ))
abbrev zIU:Stmt:=top 6
theorem zLq:FnScope ["turning","rows"] ["turning"] (defScope zIU):=by walk_at "s"
noncomputable def d_11:DS:=dSeq (dSet 1 (dComp none [none,some 0] (dRng1 (jW (dCB lenS (jW (jV 0) qQ)) qQ)) (gdName 0) dYes (zMo)))
 (dRet (dComp none [none] (dSeqI (jV 1)) (gdName 0) (zMb) (zL5)))
noncomputable def F_11:DF:=fnD none 1 2 d_11
theorem zQL{f:Addr}{fd:FuncData}(Fn:Fun K "rings_of" "rings_of" zIU f fd)(hm:mg "rings_of"=some (.ref f))(hb:Binds K fd ["turning"] [])(z_len:mg "len"=none)(z_min:mg "min"=none)(z_range:mg "range"=none)(D_10:FD P wd K mg base (1) "row_from" none 2 F_10):FD P wd K mg base (2) "rings_of" none 1 F_11 :=
 zAM (k:=1) Fn zLq hm hb fun cdv A outer s H E M B=>zAA (zCR 1 none (N':=["place","turning"]) (ix:=[none,some 0]) M (fun _=>⟨rfl,by kernel_rfl⟩) (zCW M z_range (jQ (zAO M (zAd M) z_len PySem.boot_len (jQ (jZ 0) jY)) jY)) (zAP 0 (hN:=fun _=>(by show (["place","turning"]:List Str).Nodup; decide +kernel))) zA7 (zAB M.comp B.comp D_10 (jQ (jZ 1) (jQ (jZ 0) jY))) (hix:=hix0) (hN:=fun _=>zLq.nd))
 (zAD (zAE (zA0 none (N':=["row"]) (ix:=[none]) M (fun _=>⟨rfl,by kernel_rfl⟩) (zA1 M (jZ 1)) (zAP 0 (hN:=fun _=>(by show (["row"]:List Str).Nodup; decide +kernel))) (zDz (tx_w (zCv (tx_c zBq (zAO M.comp (zAd M.comp) z_len PySem.boot_len (jQ (jZ 0) jY)) jJ) (zDH (tx_c (zAR M.comp) (zAC M.comp (jZ 0) jJ) (zAO M.comp (zMW M.comp) z_min boot_min (jQ (jZ 0) jY))))))) (jZ 0) (hix:=hix0))))
noncomputable def zMf:DE:=dCB lenS (jW (jV 0) qQ)
abbrev zH8:Stmt:=top 7
theorem zQQ:FnScope ["turning"] ["turning"] (defScope zH8):=by walk_at "s"
noncomputable def d_12:DS:=dRet (dOp eqS (dComp none [none] (dSeqI (dCall none F_11 [] (jW (jV 0) qQ))) (gdName 0) dYes (zMf)) (dLst (jW (dCB lenS (jW (jV 0) qQ)) qQ)))
noncomputable def F_12:DF:=fnD none 1 1 d_12
theorem zPF{f:Addr}{fd:FuncData}(Fn:Fun K "is_ring" "is_ring" zH8 f fd)(hm:mg "is_ring"=some (.ref f))(hb:Binds K fd ["turning"] [])(z_len:mg "len"=none)(D_11:FD P wd K mg base (2) "rings_of" none 1 F_11):FD P wd K mg base (3) "is_ring" none 1 F_12 :=
 zAM (k:=2) Fn zQQ hm hb fun cdv A outer s H E M B=>zAD (zAE (ex_c (zAR M) (zA0 none (N':=["ring"]) (ix:=[none]) M (fun _=>⟨rfl,by kernel_rfl⟩) (zA1 M (zAB M B D_11 (jQ (jZ 0) jY))) (zAP 0 (hN:=fun _=>(by show (["ring"]:List Str).Nodup; decide +kernel))) zA7 (zAO M.comp (zAd M.comp) z_len PySem.boot_len (jQ (jZ 0) jY)) (hix:=hix0)) (zAc (jQ (zAO M (zAd M) z_len PySem.boot_len (jQ (jZ 0) jY)) jY))))
abbrev zIi:Stmt:=top 32
theorem zPC:FnScope ["thing"] ["thing"] (defScope zIi):=by walk_at "s"
noncomputable def d_13:DS:=dRet (dAndV (dCall none F_9 [] (jW (dC (.int 5)) (jW (jV 0) qQ))) (dCall none F_12 [] (jW (jV 0) qQ)))
noncomputable def F_13:DF:=fnD none 1 1 d_13
theorem zOr{f:Addr}{fd:FuncData}(Fn:Fun K "is_ring_of_five" "is_ring_of_five" zIi f fd)(hm:mg "is_ring_of_five"=some (.ref f))(hb:Binds K fd ["thing"] [])(D_9:FD P wd K mg base (1) "is_turning" none 2 F_9)(D_12:FD P wd K mg base (3) "is_ring" none 1 F_12):FD P wd K mg base (4) "is_ring_of_five" none 1 F_13 :=
 zAM (k:=3) Fn zPC hm hb fun cdv A outer s H E M B=>zAD (zAE (zBb (zAB M B D_9 (jQ jJ (jQ (jZ 0) jY))) (zBy (zAB M B D_12 (jQ (jZ 0) jY)))))
abbrev zIq:Stmt:=top 13
theorem zO9:FnScope ["saying"] ["saying"] (defScope zIq):=by walk_at "s"
noncomputable def d_14:DS:=dRet (dIfE (dTest (dOp eqS (dOp ixS (jV 0) (dC (.int 0))) (dC (.str "ask")))) (dTup qQ) (dSl (jV 0) (dPart (dC (.int 1))) dNoPart))
noncomputable def F_14:DF:=fnD none 1 1 d_14
theorem zPo{f:Addr}{fd:FuncData}(Fn:Fun K "inner" "inner" zIq f fd)(hm:mg "inner"=some (.ref f))(hb:Binds K fd ["saying"] []) :FD P wd K mg base (1) "inner" none 1 F_14 :=
 zAM (k:=0) Fn zO9 hm hb fun cdv A outer s H E M B=>zAD (zAE (zHk (tx_c (zAR M) (zAC M (jZ 0) jJ) zAF) (zAG jY) (zAq M (jZ 0) (zAU jJ) zAo)))
noncomputable def zNP:DE:=dOp getKS (jV 1) (jV 0)
abbrev zID:Stmt:=top 8
theorem zLp:FnScope ["one","other","led"] ["one","other"] (defScope zID):=by walk_at "s"
noncomputable def d_15:DS:=dSeq (dSet 2 (dDZip (jW (dOp ixS (dCall none F_11 [] (jW (jV 0) qQ)) (dC (.int 0))) (jW (dOp ixS (dCall none F_11 [] (jW (jV 1) qQ)) (dC (.int 0))) qQ))))
 (dRet (dCB tupleS (jW (dComp none [none,some 2] (dRng1 (jW (dCB lenS (jW (jV 0) qQ)) qQ)) (gdName 0) dYes (zNP)) qQ)))
noncomputable def F_15:DF:=fnD none 2 3 d_15
theorem zQB{f:Addr}{fd:FuncData}(Fn:Fun K "leading" "leading" zID f fd)(hm:mg "leading"=some (.ref f))(hb:Binds K fd ["one","other"] [])(z_dict:mg "dict"=none)(z_len:mg "len"=none)(z_range:mg "range"=none)(z_tuple:mg "tuple"=none)(z_zip:mg "zip"=none)(D_11:FD P wd K mg base (2) "rings_of" none 1 F_11):FD P wd K mg base (3) "leading" none 2 F_15 :=
 zAM (k:=2) Fn zLp hm hb fun cdv A outer s H E M B=>zAA (zAI 2 (zNA M z_zip z_dict (jQ (zAC M (zAB M B D_11 (jQ (jZ 0) jY)) jJ) (jQ (zAC M (zAB M B D_11 (jQ (jZ 1) jY)) jJ) jY))) (hN:=fun _=>zLp.nd))
 (zAD (zAE (zBM M (zA9 M) z_tuple boot_tuple (jQ (zA0 none (N':=["place","led"]) (ix:=[none,some 2]) M (fun _=>⟨rfl,by kernel_rfl⟩) (zCW M z_range (jQ (zAO M (zAd M) z_len PySem.boot_len (jQ (jZ 0) jY)) jY)) (zAP 0 (hN:=fun _=>(by show (["place","led"]:List Str).Nodup; decide +kernel))) zA7 (zKx M.comp (jZ 1) (jZ 0)) (hix:=hix0)) jY))))
noncomputable def zEL:DE:=dOp ixS (jV 1) (jV 0)
abbrev zHU:Stmt:=top 23
theorem zPI:FnScope ["one","other"] ["one","other"] (defScope zHU):=by walk_at "s"
noncomputable def d_16:DS:=dRet (dCB tupleS (jW (dComp none [none,some 1] (dSeqI (jV 0)) (gdName 0) dYes (zEL)) qQ))
noncomputable def F_16:DF:=fnD none 2 2 d_16
theorem zPP{f:Addr}{fd:FuncData}(Fn:Fun K "then" "then" zHU f fd)(hm:mg "then"=some (.ref f))(hb:Binds K fd ["one","other"] [])(z_tuple:mg "tuple"=none):FD P wd K mg base (1) "then" none 2 F_16 :=
 zAM (k:=0) Fn zPI hm hb fun cdv A outer s H E M B=>zAD (zAE (zBM M (zA9 M) z_tuple boot_tuple (jQ (zA0 none (N':=["place","other"]) (ix:=[none,some 1]) M (fun _=>⟨rfl,by kernel_rfl⟩) (zA1 M (jZ 0)) (zAP 0 (hN:=fun _=>(by show (["place","other"]:List Str).Nodup; decide +kernel))) zA7 (zAC M.comp (jZ 1) (jZ 0)) (hix:=hix0)) jY)))
noncomputable def zEh:DE:=dIndex (jV 1) (jW (jV 0) qQ)
abbrev zHT:Stmt:=top 24
theorem zPL:FnScope ["turning"] ["turning"] (defScope zHT):=by walk_at "s"
noncomputable def d_17:DS:=dRet (dCB tupleS (jW (dComp none [none,some 0] (dRng1 (jW (dCB lenS (jW (jV 0) qQ)) qQ)) (gdName 0) dYes (zEh)) qQ))
noncomputable def F_17:DF:=fnD none 1 1 d_17
theorem zQR{f:Addr}{fd:FuncData}(Fn:Fun K "back" "back" zHT f fd)(hm:mg "back"=some (.ref f))(hb:Binds K fd ["turning"] [])(z_len:mg "len"=none)(z_range:mg "range"=none)(z_tuple:mg "tuple"=none):FD P wd K mg base (1) "back" none 1 F_17 :=
 zAM (k:=0) Fn zPL hm hb fun cdv A outer s H E M B=>zAD (zAE (zBM M (zA9 M) z_tuple boot_tuple (jQ (zA0 none (N':=["place","turning"]) (ix:=[none,some 0]) M (fun _=>⟨rfl,by kernel_rfl⟩) (zCW M z_range (jQ (zAO M (zAd M) z_len PySem.boot_len (jQ (jZ 0) jY)) jY)) (zAP 0 (hN:=fun _=>(by show (["place","turning"]:List Str).Nodup; decide +kernel))) zA7 (zFi M.comp (jZ 1) (jQ (jZ 0) jY)) (hix:=hix0)) jY)))
abbrev zHy:Stmt:=top 26
theorem zPA:FnScope ["a","b"] ["a","b"] (defScope zHy):=by walk_at "s"
noncomputable def d_18:DS:=dRet (dCall none F_16 [] (jW (dCall none F_16 [] (jW (jV 0) (jW (jV 1) qQ))) (jW (dCall none F_16 [] (jW (dCall none F_17 [] (jW (jV 0) qQ)) (jW (dCall none F_17 [] (jW (jV 1) qQ)) qQ))) qQ)))
noncomputable def F_18:DF:=fnD none 2 2 d_18
theorem zO1{f:Addr}{fd:FuncData}(Fn:Fun K "there_back" "there_back" zHy f fd)(hm:mg "there_back"=some (.ref f))(hb:Binds K fd ["a","b"] [])(D_16:FD P wd K mg base (1) "then" none 2 F_16)(D_17:FD P wd K mg base (1) "back" none 1 F_17):FD P wd K mg base (2) "there_back" none 2 F_18 :=
 zAM (k:=1) Fn zPA hm hb fun cdv A outer s H E M B=>zAD (zAE (zAB M B D_16 (jQ (zAB M B D_16 (jQ (jZ 0) (jQ (jZ 1) jY))) (jQ (zAB M B D_16 (jQ (zAB M B D_17 (jQ (jZ 0) jY)) (jQ (zAB M B D_17 (jQ (jZ 1) jY)) jY))) jY))))
abbrev zHj:Stmt:=top 25
theorem zQO:FnScope ["turning","by"] ["turning","by"] (defScope zHj):=by walk_at "s"
noncomputable def d_19:DS:=dRet (dCall none F_16 [] (jW (dCall none F_16 [] (jW (dCall none F_17 [] (jW (jV 1) qQ)) (jW (jV 0) qQ))) (jW (jV 1) qQ)))
noncomputable def F_19:DF:=fnD none 2 2 d_19
theorem zPc{f:Addr}{fd:FuncData}(Fn:Fun K "about" "about" zHj f fd)(hm:mg "about"=some (.ref f))(hb:Binds K fd ["turning","by"] [])(D_16:FD P wd K mg base (1) "then" none 2 F_16)(D_17:FD P wd K mg base (1) "back" none 1 F_17):FD P wd K mg base (2) "about" none 2 F_19 :=
 zAM (k:=1) Fn zQO hm hb fun cdv A outer s H E M B=>zAD (zAE (zAB M B D_16 (jQ (zAB M B D_16 (jQ (zAB M B D_17 (jQ (jZ 1) jY)) (jQ (jZ 0) jY))) (jQ (jZ 1) jY))))
abbrev zIM:Stmt:=top 31
theorem zLe:FnScope ["ring","by"] ["ring"] (defScope zIM):=by walk_at "s"
noncomputable def d_20:DS:=dSeq (dSet 1 (dCall none F_15 [] (jW (dCall none F_18 [] (jW (dK zCD) (jW (dK zCU) qQ))) (jW (jV 0) qQ))))
 (dRet (dTup (jW (dCall none F_19 [] (jW (dK zCD) (jW (jV 1) qQ))) (jW (dCall none F_19 [] (jW (dK zCU) (jW (jV 1) qQ))) qQ))))
noncomputable def F_20:DF:=fnD none 1 2 d_20
theorem zPj{f:Addr}{fd:FuncData}(Fn:Fun K "apart" "apart" zIM f fd)(hm:mg "apart"=some (.ref f))(hb:Binds K fd ["ring"] [])(k_OVER:KV K mg "OVER" zCU)(k_THERE:KV K mg "THERE" zCD)(D_15:FD P wd K mg base (3) "leading" none 2 F_15)(D_18:FD P wd K mg base (2) "there_back" none 2 F_18)(D_19:FD P wd K mg base (2) "about" none 2 F_19):FD P wd K mg base (4) "apart" none 1 F_20 :=
 zAM (k:=3) Fn zLe hm hb fun cdv A outer s H E M B=>zAA (zAI 1 (zAB M B D_15 (jQ (zAB M B D_18 (jQ (ex_k zCD M k_THERE) (jQ (ex_k zCU M k_OVER) jY))) (jQ (jZ 0) jY))) (hN:=fun _=>zLe.nd))
 (zAD (zAE (zAG (jQ (zAB M B D_19 (jQ (ex_k zCD M k_THERE) (jQ (jZ 1) jY))) (jQ (zAB M B D_19 (jQ (ex_k zCU M k_OVER) (jQ (jZ 1) jY))) jY)))))
abbrev zIE:Stmt:=top 34
theorem zDm:FnScope ["piece","saying","ring","pair","there"] ["piece"] (defScope zIE):=by walk_at "s"
noncomputable def d_21:DS:=dSeq (dSet 1 (dOp ixS (jV 0) (dC (.int 0))))
 (dSeq (dSet 2 (dOp ixS (jV 0) (dC (.int 1))))
 (dSeq (dIf (dTest (dOp eqS (dOp ixS (jV 1) (dC (.int 0))) (dC (.str "not")))) (dRet (dLst (jW (dTup (jW (dOp ixS (jV 1) (dC (.int 1))) (jW (dCall none F_17 [] (jW (jV 2) qQ)) qQ))) qQ))) dNext)
 (dSeq (dIf (dTest (dOp eqS (dOp ixS (jV 1) (dC (.int 0))) (dC (.str "and")))) (dSeq (dSet 3 (dCall none F_20 [] (jW (jV 2) qQ)))
 (dSeq (dSet 4 (dLst (jW (dTup (jW (dOp ixS (jV 1) (dC (.int 1))) (jW (dOp ixS (jV 3) (dC (.int 0))) qQ))) (jW (dTup (jW (dOp ixS (jV 1) (dC (.int 2))) (jW (dOp ixS (jV 3) (dC (.int 1))) qQ))) qQ))))
 (dRet (dOp addS (jV 4) (dLst (jW (dTup (jW (dOp ixS (jV 1) (dC (.int 1))) (jW (dCall none F_17 [] (jW (dOp ixS (jV 3) (dC (.int 0))) qQ)) qQ))) (jW (dTup (jW (dOp ixS (jV 1) (dC (.int 2))) (jW (dCall none F_17 [] (jW (dOp ixS (jV 3) (dC (.int 1))) qQ)) qQ))) qQ))))))) dNext)
 (dRet (dLst qQ)))))
noncomputable def F_21:DF:=fnD none 1 5 d_21
theorem zPH{f:Addr}{fd:FuncData}(Fn:Fun K "pieces_in" "pieces_in" zIE f fd)(hm:mg "pieces_in"=some (.ref f))(hb:Binds K fd ["piece"] [])(D_17:FD P wd K mg base (1) "back" none 1 F_17)(D_20:FD P wd K mg base (4) "apart" none 1 F_20):FD P wd K mg base (5) "pieces_in" none 1 F_21 :=
 zAM (k:=4) Fn zDm hm hb fun cdv A outer s H E M B=>zAA (zAI 1 (zAC M (jZ 0) jJ) (hN:=fun _=>zDm.nd))
 (zAA (zAI 2 (zAC M (jZ 0) jJ) (hN:=fun _=>zDm.nd))
 (zAA (zAL (tx_c (zAR M) (zAC M (jZ 1) jJ) zAF) (zAD (zAE (zAc (jQ (zAG (jQ (zAC M (jZ 1) jJ) (jQ (zAB M B D_17 (jQ (jZ 2) jY)) jY))) jY)))) zAJ)
 (zAA (zAL (tx_c (zAR M) (zAC M (jZ 1) jJ) zAF) (zAA (zAI 3 (zAB M B D_20 (jQ (jZ 2) jY)) (hN:=fun _=>zDm.nd))
 (zAA (zAI 4 (zAc (jQ (zAG (jQ (zAC M (jZ 1) jJ) (jQ (zAC M (jZ 3) jJ) jY))) (jQ (zAG (jQ (zAC M (jZ 1) jJ) (jQ (zAC M (jZ 3) jJ) jY))) jY))) (hN:=fun _=>zDm.nd))
 (zAD (zAE (zAS M (jZ 4) (zAc (jQ (zAG (jQ (zAC M (jZ 1) jJ) (jQ (zAB M B D_17 (jQ (zAC M (jZ 3) jJ) jY)) jY))) (jQ (zAG (jQ (zAC M (jZ 1) jJ) (jQ (zAB M B D_17 (jQ (zAC M (jZ 3) jJ) jY)) jY))) jY)))))))) zAJ)
 (zAD (zAE (zAc jY))))))
noncomputable def zNO:DT:=dTru (jV 3)
noncomputable def zMM:DS:=dSeq (dSet 4 (dMut 3 hPop qQ))
 (dSeq (dDrop (dMut 2 hAppend (jW (jV 4) qQ)))
 (dDrop (dMut 3 hExtend (jW (dLRev (jW (dCallV 1 [("inner",1,F_14),("pieces_in",1,F_21)] (jW (jV 4) qQ)) qQ)) qQ))))
abbrev zIK:Stmt:=top 10
theorem zFX:FnScope ["whole","inside_of","found","rest","part"] ["whole","inside_of"] (defScope zIK):=by walk_at "s"
noncomputable def d_22:DS:=dSeq (dSet 2 (dLst qQ))
 (dSeq (dSet 3 (dLst (jW (jV 0) qQ)))
 (dSeq (dWhile (zNO) (zMM) fuelX)
 (dRet (jV 2))))
noncomputable def F_22:DF:=fnD none 2 5 d_22
theorem zP5{f:Addr}{fd:FuncData}(Fn:Fun K "all_within" "all_within" zIK f fd)(hm:mg "all_within"=some (.ref f))(hb:Binds K fd ["whole","inside_of"] [])(z_list:mg "list"=none)(z_reversed:mg "reversed"=none)(D_14:FD P wd K mg base (1) "inner" none 1 F_14)(D_21:FD P wd K mg base (5) "pieces_in" none 1 F_21):FD P wd K mg base (6) "all_within" none 2 F_22 :=
 zAM (k:=5) Fn zFX hm hb fun cdv A outer s H E M B=>zAA (zAI 2 (zAc jY) (hN:=fun _=>zFX.nd))
 (zAA (zAI 3 (zAc (jQ (jZ 0) jY)) (hN:=fun _=>zFX.nd))
 (zAA (zBn fuelX (fun _=>PassesOwn.never) (tx_v M (jZ 3)) (zAA (zAI 4 (zEM M PySem.F.slot_list_pop PySem.F.type_list_pop (fun _=>zGM) zEc (pv' 3)) (hN:=fun _=>zFX.nd))
 (zAA (zBU (zBu M PySem.F.slot_list_append PySem.F.type_list_append (fun _=>zB1) zBh (pv' 2) (jQ (jZ 4) jY)))
 (zAD (zBU (zBu M PySem.F.slot_list_extend PySem.F.type_list_extend (fun _=>zEq) zD2 (pv' 3) (jQ (zNN M z_list z_reversed (jQ (zDc (k':=5) 1 M B (zBV D_14 (zBV D_21 (zGc))) (jQ (jZ 4) jY)) jY)) jY)))))))
 (zAD (zAE (jZ 2)))))
abbrev zHa:Stmt:=top 15
theorem zLk:FnScope ["part","inside","word"] ["part","inside"] (defScope zHa):=by walk_at "s"
noncomputable def d_23:DS:=dSeq (dSet 2 (dOp ixS (jV 0) (dC (.int 0))))
 (dSeq (dIf (dTest (dOp eqS (jV 2) (dC (.str "not")))) (dRet (dOp ixS (jV 1) (dC (.int 0)))) dNext)
 (dSeq (dIf (dTest (dOp (inS false) (jV 2) (dTup (jW (dC (.str "and")) (jW (dC (.str "or")) qQ))))) (dRet (dOp mulS (dC (.int 2)) (dOp addS (dOp ixS (jV 1) (dC (.int 0))) (dOp ixS (jV 1) (dC (.int 1)))))) dNext)
 (dSeq (dIf (dTest (dOp eqS (jV 2) (dC (.str "either")))) (dRet (dOp mulS (dC (.int 8)) (dOp addS (dOp ixS (jV 1) (dC (.int 0))) (dOp ixS (jV 1) (dC (.int 1)))))) dNext)
 (dSeq (dIf (dTest (dOp eqS (jV 2) (dC (.str "most")))) (dRet (dOp addS (dOp mulS (dC (.int 12)) (dOp addS (dOp ixS (jV 1) (dC (.int 0))) (dOp ixS (jV 1) (dC (.int 1))))) (dOp mulS (dC (.int 4)) (dOp ixS (jV 1) (dC (.int 2)))))) dNext)
 (dRet (dC (.int 1)))))))
noncomputable def F_23:DF:=fnD none 2 3 d_23
theorem zPt{f:Addr}{fd:FuncData}(Fn:Fun K "weight_of" "weight_of" zHa f fd)(hm:mg "weight_of"=some (.ref f))(hb:Binds K fd ["part","inside"] []) :FD P wd K mg base (1) "weight_of" none 2 F_23 :=
 zAM (k:=0) Fn zLk hm hb fun cdv A outer s H E M B=>zAA (zAI 2 (zAC M (jZ 0) jJ) (hN:=fun _=>zLk.nd))
 (zAA (zAL (tx_c (zAR M) (jZ 2) zAF) (zAD (zAE (zAC M (jZ 1) jJ))) zAJ)
 (zAA (zAL (tx_c (zIT M) (jZ 2) (zAG (jQ zAF (jQ zAF jY)))) (zAD (zAE (zAx jJ (zAS M (zAC M (jZ 1) jJ) (zAC M (jZ 1) jJ))))) zAJ)
 (zAA (zAL (tx_c (zAR M) (jZ 2) zAF) (zAD (zAE (zAx jJ (zAS M (zAC M (jZ 1) jJ) (zAC M (jZ 1) jJ))))) zAJ)
 (zAA (zAL (tx_c (zAR M) (jZ 2) zAF) (zAD (zAE (zAS M (zAx jJ (zAS M (zAC M (jZ 1) jJ) (zAC M (jZ 1) jJ))) (zAx jJ (zAC M (jZ 1) jJ))))) zAJ)
 (zAD (zAE jJ))))))
abbrev zHS:Stmt:=top 18
theorem zPG:FnScope ["s","t"] ["s","t"] (defScope zHS):=by walk_at "s"
noncomputable def d_24:DS:=dRet (dTup (jW (dC (.str "not")) (jW (dTup (jW (dC (.str "and")) (jW (dTup (jW (dC (.str "not")) (jW (jV 0) qQ))) (jW (dTup (jW (dC (.str "not")) (jW (jV 1) qQ))) qQ)))) qQ)))
noncomputable def F_24:DF:=fnD none 2 2 d_24
theorem zPd{f:Addr}{fd:FuncData}(Fn:Fun K "either_or_both" "either_or_both" zHS f fd)(hm:mg "either_or_both"=some (.ref f))(hb:Binds K fd ["s","t"] []) :FD P wd K mg base (1) "either_or_both" none 2 F_24 :=
 zAM (k:=0) Fn zPG hm hb fun cdv A outer s H E M B=>zAD (zAE (zAG (jQ zAF (jQ (zAG (jQ zAF (jQ (zAG (jQ zAF (jQ (jZ 0) jY))) (jQ (zAG (jQ zAF (jQ (jZ 1) jY))) jY)))) jY))))
abbrev zIW:Stmt:=top 19
theorem zDJ:FnScope ["part","inside","word","s","t"] ["part","inside"] (defScope zIW):=by walk_at "s"
noncomputable def d_25:DS:=dSeq (dSet 2 (dOp ixS (jV 0) (dC (.int 0))))
 (dSeq (dIf (dTest (dOp (inS false) (jV 2) (dTup (jW (dC (.str "yes")) (jW (dC (.str "no")) (jW (dC (.str "ask")) qQ)))))) (dRet (jV 0)) dNext)
 (dSeq (dIf (dTest (dOp eqS (jV 2) (dC (.str "or")))) (dRet (dCall none F_24 [] (jW (dOp ixS (jV 1) (dC (.int 0))) (jW (dOp ixS (jV 1) (dC (.int 1))) qQ)))) dNext)
 (dSeq (dIf (dTest (dOp eqS (jV 2) (dC (.str "either")))) (dSeq (dSet 3 (dOp ixS (jV 1) (dC (.int 0))))
 (dSeq (dSet 4 (dOp ixS (jV 1) (dC (.int 1))))
 (dRet (dCall none F_24 [] (jW (dTup (jW (dC (.str "and")) (jW (jV 3) (jW (dTup (jW (dC (.str "not")) (jW (jV 4) qQ))) qQ)))) (jW (dTup (jW (dC (.str "and")) (jW (dTup (jW (dC (.str "not")) (jW (jV 3) qQ))) (jW (jV 4) qQ)))) qQ)))))) dNext)
 (dSeq (dIf (dTest (dOp eqS (jV 2) (dC (.str "most")))) (dSeq (dSet 3 (dOp ixS (jV 1) (dC (.int 0))))
 (dSeq (dSet 4 (dOp ixS (jV 1) (dC (.int 1))))
 (dRet (dCall none F_24 [] (jW (dTup (jW (dC (.str "and")) (jW (jV 3) (jW (jV 4) qQ)))) (jW (dTup (jW (dC (.str "and")) (jW (dOp ixS (jV 1) (dC (.int 2))) (jW (dCall none F_24 [] (jW (jV 3) (jW (jV 4) qQ))) qQ)))) qQ)))))) dNext)
 (dRet (dCB tupleS (jW (dOp addS (dLst (jW (jV 2) qQ)) (jV 1)) qQ)))))))
noncomputable def F_25:DF:=fnD none 2 5 d_25
theorem zPa{f:Addr}{fd:FuncData}(Fn:Fun K "spelled_of" "spelled_of" zIW f fd)(hm:mg "spelled_of"=some (.ref f))(hb:Binds K fd ["part","inside"] [])(z_tuple:mg "tuple"=none)(D_24:FD P wd K mg base (1) "either_or_both" none 2 F_24):FD P wd K mg base (2) "spelled_of" none 2 F_25 :=
 zAM (k:=1) Fn zDJ hm hb fun cdv A outer s H E M B=>zAA (zAI 2 (zAC M (jZ 0) jJ) (hN:=fun _=>zDJ.nd))
 (zAA (zAL (tx_c (zIT M) (jZ 2) (zAG (jQ zAF (jQ zAF (jQ zAF jY))))) (zAD (zAE (jZ 0))) zAJ)
 (zAA (zAL (tx_c (zAR M) (jZ 2) zAF) (zAD (zAE (zAB M B D_24 (jQ (zAC M (jZ 1) jJ) (jQ (zAC M (jZ 1) jJ) jY))))) zAJ)
 (zAA (zAL (tx_c (zAR M) (jZ 2) zAF) (zAA (zAI 3 (zAC M (jZ 1) jJ) (hN:=fun _=>zDJ.nd))
 (zAA (zAI 4 (zAC M (jZ 1) jJ) (hN:=fun _=>zDJ.nd))
 (zAD (zAE (zAB M B D_24 (jQ (zAG (jQ zAF (jQ (jZ 3) (jQ (zAG (jQ zAF (jQ (jZ 4) jY))) jY)))) (jQ (zAG (jQ zAF (jQ (zAG (jQ zAF (jQ (jZ 3) jY))) (jQ (jZ 4) jY)))) jY))))))) zAJ)
 (zAA (zAL (tx_c (zAR M) (jZ 2) zAF) (zAA (zAI 3 (zAC M (jZ 1) jJ) (hN:=fun _=>zDJ.nd))
 (zAA (zAI 4 (zAC M (jZ 1) jJ) (hN:=fun _=>zDJ.nd))
 (zAD (zAE (zAB M B D_24 (jQ (zAG (jQ zAF (jQ (jZ 3) (jQ (jZ 4) jY)))) (jQ (zAG (jQ zAF (jQ (zAC M (jZ 1) jJ) (jQ (zAB M B D_24 (jQ (jZ 3) (jQ (jZ 4) jY))) jY)))) jY))))))) zAJ)
 (zAD (zAE (zBM M (zA9 M) z_tuple boot_tuple (jQ (zAS M (zAc (jQ (jZ 2) jY)) (jZ 1)) jY))))))))
abbrev zIZ:Stmt:=top 36
theorem zLg:FnScope ["steps","turning","last"] ["steps","turning"] (defScope zIZ):=by walk_at "s"
noncomputable def d_26:DS:=dSeq (dSet 2 (dOp ixS (jV 0) (dUn negS (dC (.int 1)))))
 (dRet (dOp addS (dSl (jV 0) dNoPart (dPart (dUn negS (dC (.int 1))))) (dTup (jW (dTup (jW (dOp ixS (jV 2) (dC (.int 0))) (jW (dCall none F_16 [] (jW (dOp ixS (jV 2) (dC (.int 1))) (jW (jV 1) qQ))) (jW (dCall none F_16 [] (jW (dOp ixS (jV 2) (dC (.int 2))) (jW (jV 1) qQ))) qQ)))) qQ))))
noncomputable def F_26:DF:=fnD none 2 3 d_26
theorem zPh{f:Addr}{fd:FuncData}(Fn:Fun K "last_followed" "last_followed" zIZ f fd)(hm:mg "last_followed"=some (.ref f))(hb:Binds K fd ["steps","turning"] [])(D_16:FD P wd K mg base (1) "then" none 2 F_16):FD P wd K mg base (2) "last_followed" none 2 F_26 :=
 zAM (k:=1) Fn zLg hm hb fun cdv A outer s H E M B=>zAA (zAI 2 (zAC M (jZ 0) (zB2 jJ)) (hN:=fun _=>zLg.nd))
 (zAD (zAE (zAS M (zAq M (jZ 0) zAo (zAU (zB2 jJ))) (zAG (jQ (zAG (jQ (zAC M (jZ 2) jJ) (jQ (zAB M B D_16 (jQ (zAC M (jZ 2) jJ) (jQ (jZ 1) jY))) (jQ (zAB M B D_16 (jQ (zAC M (jZ 2) jJ) (jQ (jZ 1) jY))) jY)))) jY)))))
abbrev zIH:Stmt:=top 22
theorem zO8:FnScope ["cups"] ["cups"] (defScope zIH):=by walk_at "s"
noncomputable def d_27:DS:=dRet (dTupRng (jW (jV 0) qQ))
noncomputable def F_27:DF:=fnD none 1 1 d_27
theorem zQS{f:Addr}{fd:FuncData}(Fn:Fun K "still" "still" zIH f fd)(hm:mg "still"=some (.ref f))(hb:Binds K fd ["cups"] [])(z_range:mg "range"=none)(z_tuple:mg "tuple"=none):FD P wd K mg base (1) "still" none 1 F_27 :=
 zAM (k:=0) Fn zO8 hm hb fun cdv A outer s H E M B=>zAD (zAE (zJR M z_tuple z_range (jQ (jZ 0) jY)))
abbrev zHr:Stmt:=top 35
theorem zLn:FnScope ["saying","ring","turning"] ["saying","ring"] (defScope zHr):=by walk_at "s"
noncomputable def d_28:DS:=dSeq (dIf (dTest (dOp eqS (dOp ixS (jV 0) (dC (.int 0))) (dC (.str "ask")))) (dRet (dTup (jW (dOp ixS (jV 0) (dC (.int 1))) (jW (jV 1) (jW (dCall none F_27 [] (jW (dC (.int 5)) qQ)) qQ))))) dNext)
 (dSeq (dSet 2 (dIfE (dTest (dOp eqS (dOp ixS (jV 0) (dC (.int 0))) (dC (.str "yes")))) (jV 1) (dCall none F_27 [] (jW (dC (.int 5)) qQ))))
 (dRet (dTup (jW (dC (.int 0)) (jW (jV 2) (jW (jV 2) qQ))))))
noncomputable def F_28:DF:=fnD none 2 3 d_28
theorem zPp{f:Addr}{fd:FuncData}(Fn:Fun K "bare_step" "bare_step" zHr f fd)(hm:mg "bare_step"=some (.ref f))(hb:Binds K fd ["saying","ring"] [])(D_27:FD P wd K mg base (1) "still" none 1 F_27):FD P wd K mg base (2) "bare_step" none 2 F_28 :=
 zAM (k:=1) Fn zLn hm hb fun cdv A outer s H E M B=>zAA (zAL (tx_c (zAR M) (zAC M (jZ 0) jJ) zAF) (zAD (zAE (zAG (jQ (zAC M (jZ 0) jJ) (jQ (jZ 1) (jQ (zAB M B D_27 (jQ jJ jY)) jY)))))) zAJ)
 (zAA (zAI 2 (zHk (tx_c (zAR M) (zAC M (jZ 0) jJ) zAF) (jZ 1) (zAB M B D_27 (jQ jJ jY))) (hN:=fun _=>zLn.nd))
 (zAD (zAE (zAG (jQ jJ (jQ (jZ 2) (jQ (jZ 2) jY)))))))
abbrev zIa:Stmt:=top 37
theorem zLl:FnScope ["piece","inside","word"] ["piece","inside"] (defScope zIa):=by walk_at "s"
noncomputable def d_29:DS:=dSeq (dSet 2 (dOp ixS (dOp ixS (jV 0) (dC (.int 0))) (dC (.int 0))))
 (dSeq (dIf (dTest (dOp eqS (jV 2) (dC (.str "not")))) (dRet (dCall none F_26 [] (jW (dOp ixS (jV 1) (dC (.int 0))) (jW (dOp ixS (jV 0) (dC (.int 1))) qQ)))) dNext)
 (dSeq (dIf (dTest (dOp eqS (jV 2) (dC (.str "and")))) (dRet (dOp addS (dOp addS (dOp addS (dOp ixS (jV 1) (dC (.int 0))) (dOp ixS (jV 1) (dC (.int 1)))) (dOp ixS (jV 1) (dC (.int 2)))) (dOp ixS (jV 1) (dC (.int 3))))) dNext)
 (dRet (dTup (jW (dCall none F_28 [] (jW (dOp ixS (jV 0) (dC (.int 0))) (jW (dOp ixS (jV 0) (dC (.int 1))) qQ))) qQ)))))
noncomputable def F_29:DF:=fnD none 2 3 d_29
theorem zP6{f:Addr}{fd:FuncData}(Fn:Fun K "steps_of" "steps_of" zIa f fd)(hm:mg "steps_of"=some (.ref f))(hb:Binds K fd ["piece","inside"] [])(D_26:FD P wd K mg base (2) "last_followed" none 2 F_26)(D_28:FD P wd K mg base (2) "bare_step" none 2 F_28):FD P wd K mg base (3) "steps_of" none 2 F_29 :=
 zAM (k:=2) Fn zLl hm hb fun cdv A outer s H E M B=>zAA (zAI 2 (zAC M (zAC M (jZ 0) jJ) jJ) (hN:=fun _=>zLl.nd))
 (zAA (zAL (tx_c (zAR M) (jZ 2) zAF) (zAD (zAE (zAB M B D_26 (jQ (zAC M (jZ 1) jJ) (jQ (zAC M (jZ 0) jJ) jY))))) zAJ)
 (zAA (zAL (tx_c (zAR M) (jZ 2) zAF) (zAD (zAE (zAS M (zAS M (zAS M (zAC M (jZ 1) jJ) (zAC M (jZ 1) jJ)) (zAC M (jZ 1) jJ)) (zAC M (jZ 1) jJ)))) zAJ)
 (zAD (zAE (zAG (jQ (zAB M B D_28 (jQ (zAC M (jZ 0) jJ) (jQ (zAC M (jZ 0) jJ) jY))) jY))))))
noncomputable def zHH:DE:=dOp ixS (jV 0) (dC (.int 0))
abbrev zH7:Stmt:=top 49
theorem zDM:FnScope ["piece","inside","pair","i","j","k","papers"] ["piece","inside"] (defScope zH7):=by walk_at "s"
noncomputable def d_30:DS:=dSeq (dIf (dTest (dOp eqS (dOp ixS (dOp ixS (jV 0) (dC (.int 0))) (dC (.int 0))) (dC (.str "not")))) (dRet (dTup (jW (dTup (jW (dC (.str "not")) (jW (dOp ixS (dOp ixS (jV 1) (dC (.int 0))) (dC (.int 0))) qQ))) (jW (dOp ixS (dOp ixS (jV 1) (dC (.int 0))) (dC (.int 1))) qQ)))) dNext)
 (dSeq (dIf (dTest (dOp eqS (dOp ixS (dOp ixS (jV 0) (dC (.int 0))) (dC (.int 0))) (dC (.str "and")))) (dSeq (dSet 2 (dCall none F_20 [] (jW (dOp ixS (jV 0) (dC (.int 1))) qQ)))
 (dSeq (dSet 3 (dOp ixS (dOp ixS (jV 1) (dC (.int 0))) (dC (.int 1))))
 (dSeq (dSet 4 (dOp addS (jV 3) (dOp ixS (dOp ixS (jV 1) (dC (.int 1))) (dC (.int 1)))))
 (dSeq (dSet 5 (dOp addS (jV 4) (dOp ixS (dOp ixS (jV 1) (dC (.int 2))) (dC (.int 1)))))
 (dSeq (dSet 6 (dCB tupleS (jW (dComp none [none] (dSeqI (jV 1)) (gdName 0) dYes (zHH)) qQ)))
 (dRet (dTup (jW (dOp addS (dTup (jW (dC (.str "and")) (jW (jV 3) (jW (jV 4) (jW (jV 5) (jW (dOp ixS (jV 2) (dC (.int 0))) (jW (dOp ixS (jV 2) (dC (.int 1))) qQ))))))) (jV 6)) (jW (dOp addS (jV 5) (dOp ixS (dOp ixS (jV 1) (dC (.int 3))) (dC (.int 1)))) qQ))))))))) dNext)
 (dRet (dTup (jW (dTup (jW (dC (.str "step")) qQ)) (jW (dC (.int 1)) qQ)))))
noncomputable def F_30:DF:=fnD none 2 7 d_30
theorem zO4{f:Addr}{fd:FuncData}(Fn:Fun K "paper_of" "paper_of" zH7 f fd)(hm:mg "paper_of"=some (.ref f))(hb:Binds K fd ["piece","inside"] [])(z_tuple:mg "tuple"=none)(D_20:FD P wd K mg base (4) "apart" none 1 F_20):FD P wd K mg base (5) "paper_of" none 2 F_30 :=
 zAM (k:=4) Fn zDM hm hb fun cdv A outer s H E M B=>zAA (zAL (tx_c (zAR M) (zAC M (zAC M (jZ 0) jJ) jJ) zAF) (zAD (zAE (zAG (jQ (zAG (jQ zAF (jQ (zAC M (zAC M (jZ 1) jJ) jJ) jY))) (jQ (zAC M (zAC M (jZ 1) jJ) jJ) jY))))) zAJ)
 (zAA (zAL (tx_c (zAR M) (zAC M (zAC M (jZ 0) jJ) jJ) zAF) (zAA (zAI 2 (zAB M B D_20 (jQ (zAC M (jZ 0) jJ) jY)) (hN:=fun _=>zDM.nd))
 (zAA (zAI 3 (zAC M (zAC M (jZ 1) jJ) jJ) (hN:=fun _=>zDM.nd))
 (zAA (zAI 4 (zAS M (jZ 3) (zAC M (zAC M (jZ 1) jJ) jJ)) (hN:=fun _=>zDM.nd))
 (zAA (zAI 5 (zAS M (jZ 4) (zAC M (zAC M (jZ 1) jJ) jJ)) (hN:=fun _=>zDM.nd))
 (zAA (zAI 6 (zBM M (zA9 M) z_tuple boot_tuple (jQ (zA0 none (N':=["told"]) (ix:=[none]) M (fun _=>⟨rfl,by kernel_rfl⟩) (zA1 M (jZ 1)) (zAP 0 (hN:=fun _=>(by show (["told"]:List Str).Nodup; decide +kernel))) zA7 (zAC M.comp (jZ 0) jJ) (hix:=hix0)) jY)) (hN:=fun _=>zDM.nd))
 (zAD (zAE (zAG (jQ (zAS M (zAG (jQ zAF (jQ (jZ 3) (jQ (jZ 4) (jQ (jZ 5) (jQ (zAC M (jZ 2) jJ) (jQ (zAC M (jZ 2) jJ) jY))))))) (jZ 6)) (jQ (zAS M (jZ 5) (zAC M (zAC M (jZ 1) jJ) jJ)) jY)))))))))) zAJ)
 (zAD (zAE (zAG (jQ (zAG (jQ zAF jY)) (jQ jJ jY))))))
noncomputable def zMd:DE:=dMut 1 hPop qQ
noncomputable def zMt:DS:=dSeq (dSet 5 (dComp (some (1,3)) [none,some 3] (dSeqI (dCallV 1 [("inner",1,F_14),("pieces_in",1,F_21)] (jW (jV 4) qQ))) (gdName 0) dYes (zMd)))
 (dDrop (dMut 3 hAppend (jW (dCallV 2 [("weight_of",2,F_23),("spelled_of",2,F_25),("steps_of",2,F_29),("paper_of",2,F_30)] (jW (jV 4) (jW (jV 5) qQ))) qQ)))
abbrev zIg:Stmt:=top 11
theorem zFS:FnScope ["whole","inside_of","put","told","part","inside"] ["whole","inside_of","put"] (defScope zIg):=by walk_at "s"
noncomputable def d_31:DS:=dSeq (dSet 3 (dLst qQ))
 (dSeq (dFor none (dRevL (jW (dCall none F_22 [] (jW (jV 0) (jW (jV 1) qQ))) qQ)) (gdName 4) (zMt))
 (dRet (dOp ixS (jV 3) (dC (.int 0)))))
noncomputable def F_31:DF:=fnD none 3 6 d_31
theorem zP4{f:Addr}{fd:FuncData}(Fn:Fun K "fold_within" "fold_within" zIg f fd)(hm:mg "fold_within"=some (.ref f))(hb:Binds K fd ["whole","inside_of","put"] [])(z_reversed:mg "reversed"=none)(D_14:FD P wd K mg base (1) "inner" none 1 F_14)(D_21:FD P wd K mg base (5) "pieces_in" none 1 F_21)(D_22:FD P wd K mg base (6) "all_within" none 2 F_22)(D_23:FD P wd K mg base (1) "weight_of" none 2 F_23)(D_25:FD P wd K mg base (2) "spelled_of" none 2 F_25)(D_29:FD P wd K mg base (3) "steps_of" none 2 F_29)(D_30:FD P wd K mg base (5) "paper_of" none 2 F_30):FD P wd K mg base (7) "fold_within" none 3 F_31 :=
 zAM (k:=6) Fn zFS hm hb fun cdv A outer s H E M B=>zAA (zAI 3 (zAc jY) (hN:=fun _=>zFS.nd))
 (zAA (zFn M (fun _=>PassesOwn.never) (zL0 M z_reversed (jQ (zAB M B D_22 (jQ (jZ 0) (jQ (jZ 1) jY))) jY)) (zAP 4 (hN:=fun _=>zFS.nd)) (zAA (zCR 5 (some (1,3)) (N':=["one","told"]) (ix:=[none,some 3]) M (fun _=>⟨rfl,by kernel_rfl⟩) (zA1 M (zDc (k':=5) 1 M B (zBV D_14 (zBV D_21 (zGc))) (jQ (jZ 4) jY))) (zAP 0 (hN:=fun _=>(by show (["one","told"]:List Str).Nodup; decide +kernel))) zA7 (zEM M.comp PySem.F.slot_list_pop PySem.F.type_list_pop (fun _=>zGM) zEc (pv' 1)) (hix:=hix1 (by decide)) (hN:=fun _=>zFS.nd))
 (zAD (zBU (zBu M PySem.F.slot_list_append PySem.F.type_list_append (fun _=>zB1) zBh (pv' 3) (jQ (zDc (k':=5) 2 M B (zBV D_23 (zBV D_25 (zBV D_29 (zBV D_30 (zGc))))) (jQ (jZ 4) (jQ (jZ 5) jY))) jY))))))
 (zAD (zAE (zAC M (jZ 3) jJ))))
abbrev zHq:Stmt:=top 14
theorem zPT:FnScope ["saying","put"] ["saying","put"] (defScope zHq):=by walk_at "s"
noncomputable def d_32:DS:=dRet (dCall none F_31 [] (jW (jV 0) (jW (dFn "inner") (jW (jV 1) qQ))))
noncomputable def F_32:DF:=fnD none 2 2 d_32
theorem zPN{f:Addr}{fd:FuncData}(Fn:Fun K "folded" "folded" zHq f fd)(hm:mg "folded"=some (.ref f))(hb:Binds K fd ["saying","put"] [])(n_inner:NK K mg "inner")(D_31:FD P wd K mg base (7) "fold_within" none 3 F_31):FD P wd K mg base (8) "folded" none 2 F_32 :=
 zAM (k:=7) Fn zPT hm hb fun cdv A outer s H E M B=>zAD (zAE (zAB M B D_31 (jQ (jZ 0) (jQ (zCg M n_inner) (jQ (jZ 1) jY)))))
abbrev zIN:Stmt:=top 16
theorem zO0:FnScope ["saying"] ["saying"] (defScope zIN):=by walk_at "s"
noncomputable def d_33:DS:=dRet (dCall none F_32 [] (jW (jV 0) (jW (dFn "weight_of") qQ)))
noncomputable def F_33:DF:=fnD none 1 1 d_33
theorem zPs{f:Addr}{fd:FuncData}(Fn:Fun K "weight" "weight" zIN f fd)(hm:mg "weight"=some (.ref f))(hb:Binds K fd ["saying"] [])(n_weight_of:NK K mg "weight_of")(D_32:FD P wd K mg base (8) "folded" none 2 F_32):FD P wd K mg base (9) "weight" none 1 F_33 :=
 zAM (k:=8) Fn zO0 hm hb fun cdv A outer s H E M B=>zAD (zAE (zAB M B D_32 (jQ (jZ 0) (jQ (zCg M n_weight_of) jY))))
abbrev zIv:Stmt:=top 33
theorem zOy:FnScope ["saying","ring","most"] ["saying","ring","most"] (defScope zIv):=by walk_at "s"
noncomputable def d_34:DS:=dSeq (dIf (dNot (dTru (dCall none F_13 [] (jW (jV 1) qQ)))) (dNever) dNext)
 (dIf (dTest (dOp gtS (dCall none F_33 [] (jW (jV 0) qQ)) (jV 2))) (dNever) dNext)
noncomputable def F_34:DF:=fnD none 3 3 d_34
theorem zPq{f:Addr}{fd:FuncData}(Fn:Fun K "look_at_making" "look_at_making" zIv f fd)(hm:mg "look_at_making"=some (.ref f))(hb:Binds K fd ["saying","ring","most"] [])(D_13:FD P wd K mg base (4) "is_ring_of_five" none 1 F_13)(D_33:FD P wd K mg base (9) "weight" none 1 F_33):FD P wd K mg base (10) "look_at_making" none 3 F_34 :=
 zAM (k:=9) Fn zOy hm hb fun cdv A outer s H E M B=>zAA (zAL (zA8 (tx_v M (zAB M B D_13 (jQ (jZ 1) jY)))) (zAD (zGP)) zAJ)
 (zAD (zAL (tx_c zBq (zAB M B D_33 (jQ (jZ 0) jY)) (jZ 2)) (zAD (zGP)) zAJ))
abbrev zHV:Stmt:=top 20
theorem zPi:FnScope ["saying"] ["saying"] (defScope zHV):=by walk_at "s"
noncomputable def d_35:DS:=dRet (dCall none F_32 [] (jW (jV 0) (jW (dFn "spelled_of") qQ)))
noncomputable def F_35:DF:=fnD none 1 1 d_35
theorem zOt{f:Addr}{fd:FuncData}(Fn:Fun K "spelled" "spelled" zHV f fd)(hm:mg "spelled"=some (.ref f))(hb:Binds K fd ["saying"] [])(n_spelled_of:NK K mg "spelled_of")(D_32:FD P wd K mg base (8) "folded" none 2 F_32):FD P wd K mg base (9) "spelled" none 1 F_35 :=
 zAM (k:=8) Fn zPi hm hb fun cdv A outer s H E M B=>zAD (zAE (zAB M B D_32 (jQ (jZ 0) (jQ (zCg M n_spelled_of) jY))))
abbrev zDK:Stmt:=top 38
theorem zPQ:FnScope ["saying","questions","ring","most"] ["saying","questions","ring","most"] (defScope zDK):=by walk_at "s"
noncomputable def d_36:DS:=dSeq (dDrop (dCall none F_34 [] (jW (jV 0) (jW (jV 2) (jW (jV 3) qQ)))))
 (dRet (dTup (jW (dC (.int 5)) (jW (jV 1) (jW (dCall none F_31 [] (jW (dTup (jW (dCall none F_35 [] (jW (jV 0) qQ)) (jW (jV 2) qQ))) (jW (dFn "pieces_in") (jW (dFn "steps_of") qQ)))) qQ)))))
noncomputable def F_36:DF:=fnD none 4 4 d_36
theorem zQI{pT f:Addr}{fd:FuncData}{ds:List Value}(Fn:FunD K "made" "made" zDK pT f fd)(hm:mg "made"=some (.ref f))(hb:Binds K fd ["saying","questions","ring","most"] [])(hb2:Binds K fd ["saying","questions","ring","most"] ds)(hv:Vals [.int 128] ds)(n_pieces_in:NK K mg "pieces_in")(n_steps_of:NK K mg "steps_of")(D_31:FD P wd K mg base (7) "fold_within" none 3 F_31)(D_34:FD P wd K mg base (10) "look_at_making" none 3 F_34)(D_35:FD P wd K mg base (9) "spelled" none 1 F_35):FD P wd K mg base (11) "made" none 4 F_36/\FDd P wd K mg base (11) "made" none 4 F_36 [.int 128] :=
 zJM (k:=10) Fn zPQ hm hb hb2 hv fun cdv A outer s H E M B=>zAA (zBU (zAB M B D_34 (jQ (jZ 0) (jQ (jZ 2) (jQ (jZ 3) jY)))))
 (zAD (zAE (zAG (jQ jJ (jQ (jZ 1) (jQ (zAB M B D_31 (jQ (zAG (jQ (zAB M B D_35 (jQ (jZ 0) jY)) (jQ (jZ 2) jY))) (jQ (zCg M n_pieces_in) (jQ (zCg M n_steps_of) jY)))) jY))))))
abbrev zDD:Stmt:=top 50
theorem zHl:FnScope ["saying","questions","ring","most","dance","paper"] ["saying","questions","ring","most"] (defScope zDD):=by walk_at "s"
noncomputable def d_37:DS:=dSeq (dSet 4 (dCall none F_36 [] (jW (jV 0) (jW (jV 1) (jW (jV 2) (jW (jV 3) qQ))))))
 (dSeq (dSet 5 (dOp ixS (dCall none F_31 [] (jW (dTup (jW (dCall none F_35 [] (jW (jV 0) qQ)) (jW (jV 2) qQ))) (jW (dFn "pieces_in") (jW (dFn "paper_of") qQ)))) (dC (.int 0))))
 (dRet (dTup (jW (jV 4) (jW (jV 5) qQ)))))
noncomputable def F_37:DF:=fnD none 4 6 d_37
theorem zPS{pT f:Addr}{fd:FuncData}{ds:List Value}(Fn:FunD K "made_with_paper" "made_with_paper" zDD pT f fd)(hm:mg "made_with_paper"=some (.ref f))(hb:Binds K fd ["saying","questions","ring","most"] [])(hb2:Binds K fd ["saying","questions","ring","most"] ds)(hv:Vals [.int 128] ds)(n_paper_of:NK K mg "paper_of")(n_pieces_in:NK K mg "pieces_in")(D_31:FD P wd K mg base (7) "fold_within" none 3 F_31)(D_35:FD P wd K mg base (9) "spelled" none 1 F_35)(D_36:FD P wd K mg base (11) "made" none 4 F_36):FD P wd K mg base (12) "made_with_paper" none 4 F_37/\FDd P wd K mg base (12) "made_with_paper" none 4 F_37 [.int 128] :=
 zJM (k:=11) Fn zHl hm hb hb2 hv fun cdv A outer s H E M B=>zAA (zAI 4 (zAB M B D_36 (jQ (jZ 0) (jQ (jZ 1) (jQ (jZ 2) (jQ (jZ 3) jY))))) (hN:=fun _=>zHl.nd))
 (zAA (zAI 5 (zAC M (zAB M B D_31 (jQ (zAG (jQ (zAB M B D_35 (jQ (jZ 0) jY)) (jQ (jZ 2) jY))) (jQ (zCg M n_pieces_in) (jQ (zCg M n_paper_of) jY)))) jJ) (hN:=fun _=>zHl.nd))
 (zAD (zAE (zAG (jQ (jZ 4) (jQ (jZ 5) jY))))))
noncomputable def zGa (rec:DF):DE:=dCall none rec [] (jW (jV 0) qQ)
noncomputable def zC6 (rec:DF):DT:=dTru (dCB isiS (jW (jV 0) (jW (dC (.ty "tuple")) qQ)))
abbrev st_3:Stmt:=top 64
theorem sc_3:FnScope ["_law_saying_here","_law_some","_law_one","_law_both"] ["_law_saying_here"] (defScope st_3):=by walk_at "s"
noncomputable def d_3 (rec:DF):DS:=dSeq (dSet 1 (dComp none [none] (dSeqI (dSl (jV 0) (dPart (dC (.int 1))) dNoPart)) (gdName 0) ((zC6 rec)) ((zGa rec))))
 (dSeq (dIf (dTest (dOp eqS (dOp ixS (jV 0) (dC (.int 0))) (dC (.str "or")))) (dRet (dTup (jW (dC (.str "not")) (jW (dTup (jW (dC (.str "and")) (jW (dTup (jW (dC (.str "not")) (jW (dOp ixS (jV 1) (dC (.int 0))) qQ))) (jW (dTup (jW (dC (.str "not")) (jW (dOp ixS (jV 1) (dC (.int 1))) qQ))) qQ)))) qQ)))) dNext)
 (dSeq (dIf (dTest (dOp eqS (dOp ixS (jV 0) (dC (.int 0))) (dC (.str "either")))) (dSeq (dSet 2 (dTup (jW (dC (.str "and")) (jW (dOp ixS (jV 1) (dC (.int 0))) (jW (dTup (jW (dC (.str "not")) (jW (dOp ixS (jV 1) (dC (.int 1))) qQ))) qQ)))))
 (dRet (dTup (jW (dC (.str "not")) (jW (dTup (jW (dC (.str "and")) (jW (dTup (jW (dC (.str "not")) (jW (jV 2) qQ))) (jW (dTup (jW (dC (.str "not")) (jW (dTup (jW (dC (.str "and")) (jW (dTup (jW (dC (.str "not")) (jW (dOp ixS (jV 1) (dC (.int 0))) qQ))) (jW (dOp ixS (jV 1) (dC (.int 1))) qQ)))) qQ))) qQ)))) qQ))))) dNext)
 (dSeq (dIf (dTest (dOp eqS (dOp ixS (jV 0) (dC (.int 0))) (dC (.str "most")))) (dSeq (dSet 2 (dTup (jW (dC (.str "not")) (jW (dTup (jW (dC (.str "and")) (jW (dTup (jW (dC (.str "not")) (jW (dOp ixS (jV 1) (dC (.int 0))) qQ))) (jW (dTup (jW (dC (.str "not")) (jW (dOp ixS (jV 1) (dC (.int 1))) qQ))) qQ)))) qQ))))
 (dSeq (dSet 3 (dTup (jW (dC (.str "and")) (jW (dOp ixS (jV 1) (dC (.int 0))) (jW (dOp ixS (jV 1) (dC (.int 1))) qQ)))))
 (dRet (dTup (jW (dC (.str "not")) (jW (dTup (jW (dC (.str "and")) (jW (dTup (jW (dC (.str "not")) (jW (jV 3) qQ))) (jW (dTup (jW (dC (.str "not")) (jW (dTup (jW (dC (.str "and")) (jW (dOp ixS (jV 1) (dC (.int 2))) (jW (jV 2) qQ)))) qQ))) qQ)))) qQ)))))) dNext)
 (dRet (dOp addS (dOp addS (dSl (jV 0) dNoPart (dPart (dC (.int 1)))) (dCB tupleS (jW (jV 1) qQ))) (dOp mulS5 (dSl (jV 0) (dPart (dC (.int 1))) dNoPart) (dCB intS (jW (dOp eqS (dOp ixS (jV 0) (dC (.int 0))) (dC (.str "ask"))) qQ))))))))
noncomputable def F_3:Nat->DF
 | 0=>fun _=>none
 | n+1=>fnD none 1 4 (d_3 (F_3 n))
theorem ok_3{f:Addr}{fd:FuncData}(Fn:Fun K "_law_spelled" "_law_spelled" st_3 f fd)(hm:mg "_law_spelled"=some (.ref f))(hb:Binds K fd ["_law_saying_here"] [])(z_int:mg "int"=none)(z_isinstance:mg "isinstance"=none)(z_tuple:mg "tuple"=none)(n:Nat):FD P wd K mg base (0+n) "_law_spelled" none 1 (F_3 n):=by
 induction n with
 | zero=>exact zCB Fn hm hb rfl
 | succ n ih =>
  have Drec:=ih
  exact zAM (k:=0+n) Fn sc_3 hm hb fun cdv A outer s H E M B=>zAA (zCR 1 none (N':=["_law_one"]) (ix:=[none]) M (fun _=>⟨rfl,by kernel_rfl⟩) (zA1 M (zAq M (jZ 0) (zAU jJ) zAo)) (zAP 0 (hN:=fun _=>(by show (["_law_one"]:List Str).Nodup; decide +kernel))) (zDz (tx_v M.comp (zAO M.comp (zBD M.comp) z_isinstance boot_isinstance (jQ (jZ 0) (jQ (zBQ M.comp z_tuple boot_tuple) jY))))) (zAB M.comp B.comp Drec (jQ (jZ 0) jY)) (hix:=hix0) (hN:=fun _=>sc_3.nd))   (zAA (zAL (tx_c (zAR M) (zAC M (jZ 0) jJ) zAF) (zAD (zAE (zAG (jQ zAF (jQ (zAG (jQ zAF (jQ (zAG (jQ zAF (jQ (zAC M (jZ 1) jJ) jY))) (jQ (zAG (jQ zAF (jQ (zAC M (jZ 1) jJ) jY))) jY)))) jY))))) zAJ)   (zAA (zAL (tx_c (zAR M) (zAC M (jZ 0) jJ) zAF) (zAA (zAI 2 (zAG (jQ zAF (jQ (zAC M (jZ 1) jJ) (jQ (zAG (jQ zAF (jQ (zAC M (jZ 1) jJ) jY))) jY)))) (hN:=fun _=>sc_3.nd))   (zAD (zAE (zAG (jQ zAF (jQ (zAG (jQ zAF (jQ (zAG (jQ zAF (jQ (jZ 2) jY))) (jQ (zAG (jQ zAF (jQ (zAG (jQ zAF (jQ (zAG (jQ zAF (jQ (zAC M (jZ 1) jJ) jY))) (jQ (zAC M (jZ 1) jJ) jY)))) jY))) jY)))) jY)))))) zAJ)   (zAA (zAL (tx_c (zAR M) (zAC M (jZ 0) jJ) zAF) (zAA (zAI 2 (zAG (jQ zAF (jQ (zAG (jQ zAF (jQ (zAG (jQ zAF (jQ (zAC M (jZ 1) jJ) jY))) (jQ (zAG (jQ zAF (jQ (zAC M (jZ 1) jJ) jY))) jY)))) jY))) (hN:=fun _=>sc_3.nd))   (zAA (zAI 3 (zAG (jQ zAF (jQ (zAC M (jZ 1) jJ) (jQ (zAC M (jZ 1) jJ) jY)))) (hN:=fun _=>sc_3.nd))   (zAD (zAE (zAG (jQ zAF (jQ (zAG (jQ zAF (jQ (zAG (jQ zAF (jQ (jZ 3) jY))) (jQ (zAG (jQ zAF (jQ (zAG (jQ zAF (jQ (zAC M (jZ 1) jJ) (jQ (jZ 2) jY)))) jY))) jY)))) jY))))))) zAJ)   (zAD (zAE (zAS M (zAS M (zAq M (jZ 0) zAo (zAU jJ)) (zBM M (zA9 M) z_tuple boot_tuple (jQ (jZ 1) jY))) (zNL M (zAq M (jZ 0) (zAU jJ) zAo) (zBM M (zFh) z_int (by decide +kernel) (jQ (ex_c (zAR M) (zAC M (jZ 0) jJ) zAF) jY)))))))))
abbrev zHp:Stmt:=top 41
theorem zPu:FnScope ["paper","word","many"] ["paper","word","many"] (defScope zHp):=by walk_at "s"
noncomputable def d_38:DS:=dRet (dAndV (dCB isiS (jW (jV 0) (jW (dC (.ty "tuple")) qQ))) (dAndV (dOp eqS (dCB lenS (jW (jV 0) qQ)) (jV 2)) (dOp eqS (dOp ixS (jV 0) (dC (.int 0))) (jV 1))))
noncomputable def F_38:DF:=fnD none 3 3 d_38
theorem zP3{f:Addr}{fd:FuncData}(Fn:Fun K "is_form" "is_form" zHp f fd)(hm:mg "is_form"=some (.ref f))(hb:Binds K fd ["paper","word","many"] [])(z_isinstance:mg "isinstance"=none)(z_len:mg "len"=none)(z_tuple:mg "tuple"=none):FD P wd K mg base (1) "is_form" none 3 F_38 :=
 zAM (k:=0) Fn zPu hm hb fun cdv A outer s H E M B=>zAD (zAE (zBb (zAO M (zBD M) z_isinstance boot_isinstance (jQ (jZ 0) (jQ (zBQ M z_tuple boot_tuple) jY))) (zBb (ex_c (zAR M) (zAO M (zAd M) z_len PySem.boot_len (jQ (jZ 0) jY)) (jZ 2)) (zBy (ex_c (zAR M) (zAC M (jZ 0) jJ) (jZ 1))))))
abbrev zIf:Stmt:=top 45
theorem zOx:FnScope ["saying","ring","row","paper"] ["saying","ring","row","paper"] (defScope zIf):=by walk_at "s"
noncomputable def d_39:DS:=dSeq (dIf (dOr (dTest (dOp neS (dOp ixS (jV 0) (dC (.int 0))) (dC (.str "not")))) (dTest (dOp eqS (dCB lenS (jW (jV 2) qQ)) (dC (.int 0))))) (dRet (dC .non)) dNext)
 (dRet (dLst (jW (dTup (jW (dOp ixS (jV 0) (dC (.int 1))) (jW (dCall none F_17 [] (jW (jV 1) qQ)) (jW (dCall none F_26 [] (jW (jV 2) (jW (dCall none F_17 [] (jW (jV 1) qQ)) qQ))) (jW (dOp ixS (jV 3) (dC (.int 1))) qQ))))) qQ)))
noncomputable def F_39:DF:=fnD none 4 4 d_39
theorem zPe{f:Addr}{fd:FuncData}(Fn:Fun K "not_claims" "not_claims" zIf f fd)(hm:mg "not_claims"=some (.ref f))(hb:Binds K fd ["saying","ring","row","paper"] [])(z_len:mg "len"=none)(D_17:FD P wd K mg base (1) "back" none 1 F_17)(D_26:FD P wd K mg base (2) "last_followed" none 2 F_26):FD P wd K mg base (3) "not_claims" none 4 F_39 :=
 zAM (k:=2) Fn zOx hm hb fun cdv A outer s H E M B=>zAA (zAL (tx_w (zAt (tx_c (zBA M) (zAC M (jZ 0) jJ) zAF) (zA3 (tx_c (zAR M) (zAO M (zAd M) z_len PySem.boot_len (jQ (jZ 2) jY)) jJ)))) (zAD (zAE zCQ)) zAJ)
 (zAD (zAE (zAc (jQ (zAG (jQ (zAC M (jZ 0) jJ) (jQ (zAB M B D_17 (jQ (jZ 1) jY)) (jQ (zAB M B D_26 (jQ (jZ 2) (jQ (zAB M B D_17 (jQ (jZ 1) jY)) jY))) (jQ (zAC M (jZ 3) jJ) jY))))) jY))))
abbrev zH3:Stmt:=top 40
theorem zPv:FnScope ["thing"] ["thing"] (defScope zH3):=by walk_at "s"
noncomputable def d_40:DS:=dRet (dAndV (dCB isiS (jW (jV 0) (jW (dC (.ty "int")) qQ))) (dNotV (dCB isiS (jW (jV 0) (jW (dC (.ty "bool")) qQ)))))
noncomputable def F_40:DF:=fnD none 1 1 d_40
theorem zO3{f:Addr}{fd:FuncData}(Fn:Fun K "is_whole" "is_whole" zH3 f fd)(hm:mg "is_whole"=some (.ref f))(hb:Binds K fd ["thing"] [])(z_bool:mg "bool"=none)(z_int:mg "int"=none)(z_isinstance:mg "isinstance"=none):FD P wd K mg base (1) "is_whole" none 1 F_40 :=
 zAM (k:=0) Fn zPv hm hb fun cdv A outer s H E M B=>zAD (zAE (zBb (zAO M (zBD M) z_isinstance boot_isinstance (jQ (jZ 0) (jQ (zBQ M z_int (by decide +kernel)) jY))) (zBy (zNr (zAO M (zBD M) z_isinstance boot_isinstance (jQ (jZ 0) (jQ (zBQ M z_bool boot_bool) jY)))))))
noncomputable def zG0:DE:=dCall none F_40 [] (jW (jV 0) qQ)
abbrev zHi:Stmt:=top 42
theorem zO6:FnScope ["cuts","many"] ["cuts","many"] (defScope zHi):=by walk_at "s"
noncomputable def d_41:DS:=dRet (dAndV (dCB allS (jW (dComp none [none] (dSeqI (jV 0)) (gdName 0) dYes (zG0)) qQ)) (dChainN (dC (.int 0)) (dLink ltS (dOp ixS (jV 0) (dC (.int 0))) (dLink ltS (dOp ixS (jV 0) (dC (.int 1))) (dLink ltS (dOp ixS (jV 0) (dC (.int 2))) (dLast ltS (jV 1)))))))
noncomputable def F_41:DF:=fnD none 2 2 d_41
theorem zO7{f:Addr}{fd:FuncData}(Fn:Fun K "are_cuts" "are_cuts" zHi f fd)(hm:mg "are_cuts"=some (.ref f))(hb:Binds K fd ["cuts","many"] [])(z_all:mg "all"=none)(D_40:FD P wd K mg base (1) "is_whole" none 1 F_40):FD P wd K mg base (2) "are_cuts" none 2 F_41 :=
 zAM (k:=1) Fn zO6 hm hb fun cdv A outer s H E M B=>zAD (zAE (zBb (zAO M (zDn M) z_all boot_all (jQ (zA0 none (N':=["cut"]) (ix:=[none]) M (fun _=>⟨rfl,by kernel_rfl⟩) (zA1 M (jZ 0)) (zAP 0 (hN:=fun _=>(by show (["cut"]:List Str).Nodup; decide +kernel))) zA7 (zAB M.comp B.comp D_40 (jQ (jZ 0) jY)) (hix:=hix0)) jY)) (zBy (zJO jJ (zEF zA6 (zAC M (jZ 0) jJ) (zEF zA6 (zAC M (jZ 0) jJ) (zEF zA6 (zAC M (jZ 0) jJ) (zNT zA6 (jZ 1)))))))))
noncomputable def zMR:DE:=dCall none F_40 [] (jW (jV 0) qQ)
abbrev zHc:Stmt:=top 43
theorem zPE:FnScope ["thing"] ["thing"] (defScope zHc):=by walk_at "s"
noncomputable def d_42:DS:=dRet (dAndV (dCB isiS (jW (jV 0) (jW (dC (.ty "tuple")) qQ))) (dAndV (dCB allS (jW (dComp none [none] (dSeqI (jV 0)) (gdName 0) dYes (zMR)) qQ)) (dCall none F_13 [] (jW (jV 0) qQ))))
noncomputable def F_42:DF:=fnD none 1 1 d_42
theorem zQH{f:Addr}{fd:FuncData}(Fn:Fun K "is_any_ring_of_five" "is_any_ring_of_five" zHc f fd)(hm:mg "is_any_ring_of_five"=some (.ref f))(hb:Binds K fd ["thing"] [])(z_all:mg "all"=none)(z_isinstance:mg "isinstance"=none)(z_tuple:mg "tuple"=none)(D_13:FD P wd K mg base (4) "is_ring_of_five" none 1 F_13)(D_40:FD P wd K mg base (1) "is_whole" none 1 F_40):FD P wd K mg base (5) "is_any_ring_of_five" none 1 F_42 :=
 zAM (k:=4) Fn zPE hm hb fun cdv A outer s H E M B=>zAD (zAE (zBb (zAO M (zBD M) z_isinstance boot_isinstance (jQ (jZ 0) (jQ (zBQ M z_tuple boot_tuple) jY))) (zBb (zAO M (zDn M) z_all boot_all (jQ (zA0 none (N':=["place"]) (ix:=[none]) M (fun _=>⟨rfl,by kernel_rfl⟩) (zA1 M (jZ 0)) (zAP 0 (hN:=fun _=>(by show (["place"]:List Str).Nodup; decide +kernel))) zA7 (zAB M.comp B.comp D_40 (jQ (jZ 0) jY)) (hix:=hix0)) jY)) (zBy (zAB M B D_13 (jQ (jZ 0) jY))))))
abbrev zH4:Stmt:=top 46
theorem zCn:FnScope ["saying","ring","row","paper","a","b","i","j","k","there"] ["saying","ring","row","paper"] (defScope zH4):=by walk_at "s"
noncomputable def d_43:DS:=dSeq (dSet 4 (dOp ixS (jV 3) (dC (.int 4))))
 (dSeq (dSet 5 (dOp ixS (jV 3) (dC (.int 5))))
 (dSeq (dIf (dOr (dTest (dOp neS (dOp ixS (jV 0) (dC (.int 0))) (dC (.str "and")))) (dNot (dTru (dCall none F_41 [] (jW (dSl (jV 3) (dPart (dC (.int 1))) (dPart (dC (.int 4)))) (jW (dCB lenS (jW (jV 2) qQ)) qQ)))))) (dRet (dC .non)) dNext)
 (dSeq (dIf (dOr (dNot (dTru (dCall none F_42 [] (jW (jV 4) qQ)))) (dOr (dNot (dTru (dCall none F_42 [] (jW (jV 5) qQ)))) (dTest (dOp neS (dCall none F_18 [] (jW (jV 4) (jW (jV 5) qQ))) (jV 1))))) (dRet (dC .non)) dNext)
 (dSeq (dSet 6 (dOp ixS (jV 3) (dC (.int 1))))
 (dSeq (dSet 7 (dOp ixS (jV 3) (dC (.int 2))))
 (dSeq (dSet 8 (dOp ixS (jV 3) (dC (.int 3))))
 (dSeq (dSet 9 (dLst (jW (dTup (jW (dOp ixS (jV 0) (dC (.int 1))) (jW (jV 4) (jW (dSl (jV 2) dNoPart (dPart (jV 6))) (jW (dOp ixS (jV 3) (dC (.int 6))) qQ))))) (jW (dTup (jW (dOp ixS (jV 0) (dC (.int 2))) (jW (jV 5) (jW (dSl (jV 2) (dPart (jV 6)) (dPart (jV 7))) (jW (dOp ixS (jV 3) (dC (.int 7))) qQ))))) qQ))))
 (dRet (dOp addS (jV 9) (dLst (jW (dTup (jW (dOp ixS (jV 0) (dC (.int 1))) (jW (dCall none F_17 [] (jW (jV 4) qQ)) (jW (dSl (jV 2) (dPart (jV 7)) (dPart (jV 8))) (jW (dOp ixS (jV 3) (dC (.int 8))) qQ))))) (jW (dTup (jW (dOp ixS (jV 0) (dC (.int 2))) (jW (dCall none F_17 [] (jW (jV 5) qQ)) (jW (dSl (jV 2) (dPart (jV 8)) dNoPart) (jW (dOp ixS (jV 3) (dC (.int 9))) qQ))))) qQ))))))))))))
noncomputable def F_43:DF:=fnD none 4 10 d_43
theorem zQJ{f:Addr}{fd:FuncData}(Fn:Fun K "and_claims" "and_claims" zH4 f fd)(hm:mg "and_claims"=some (.ref f))(hb:Binds K fd ["saying","ring","row","paper"] [])(z_len:mg "len"=none)(D_17:FD P wd K mg base (1) "back" none 1 F_17)(D_18:FD P wd K mg base (2) "there_back" none 2 F_18)(D_41:FD P wd K mg base (2) "are_cuts" none 2 F_41)(D_42:FD P wd K mg base (5) "is_any_ring_of_five" none 1 F_42):FD P wd K mg base (6) "and_claims" none 4 F_43 :=
 zAM (k:=5) Fn zCn hm hb fun cdv A outer s H E M B=>zAA (zAI 4 (zAC M (jZ 3) jJ) (hN:=fun _=>zCn.nd))
 (zAA (zAI 5 (zAC M (jZ 3) jJ) (hN:=fun _=>zCn.nd))
 (zAA (zAL (tx_w (zAt (tx_c (zBA M) (zAC M (jZ 0) jJ) zAF) (zA3 (zA8 (tx_v M (zAB M B D_41 (jQ (zAq M (jZ 3) (zAU jJ) (zAU jJ)) (jQ (zAO M (zAd M) z_len PySem.boot_len (jQ (jZ 2) jY)) jY)))))))) (zAD (zAE zCQ)) zAJ)
 (zAA (zAL (tx_w (zAt (zA8 (tx_v M (zAB M B D_42 (jQ (jZ 4) jY)))) (zAt (zA8 (tx_v M (zAB M B D_42 (jQ (jZ 5) jY)))) (zA3 (tx_c (zBA M) (zAB M B D_18 (jQ (jZ 4) (jQ (jZ 5) jY))) (jZ 1)))))) (zAD (zAE zCQ)) zAJ)
 (zAA (zAI 6 (zAC M (jZ 3) jJ) (hN:=fun _=>zCn.nd))
 (zAA (zAI 7 (zAC M (jZ 3) jJ) (hN:=fun _=>zCn.nd))
 (zAA (zAI 8 (zAC M (jZ 3) jJ) (hN:=fun _=>zCn.nd))
 (zAA (zAI 9 (zAc (jQ (zAG (jQ (zAC M (jZ 0) jJ) (jQ (jZ 4) (jQ (zAq M (jZ 2) zAo (zAU (jZ 6))) (jQ (zAC M (jZ 3) jJ) jY))))) (jQ (zAG (jQ (zAC M (jZ 0) jJ) (jQ (jZ 5) (jQ (zAq M (jZ 2) (zAU (jZ 6)) (zAU (jZ 7))) (jQ (zAC M (jZ 3) jJ) jY))))) jY))) (hN:=fun _=>zCn.nd))
 (zAD (zAE (zAS M (jZ 9) (zAc (jQ (zAG (jQ (zAC M (jZ 0) jJ) (jQ (zAB M B D_17 (jQ (jZ 4) jY)) (jQ (zAq M (jZ 2) (zAU (jZ 7)) (zAU (jZ 8))) (jQ (zAC M (jZ 3) jJ) jY))))) (jQ (zAG (jQ (zAC M (jZ 0) jJ) (jQ (zAB M B D_17 (jQ (jZ 5) jY)) (jQ (zAq M (jZ 2) (zAU (jZ 8)) zAo) (jQ (zAC M (jZ 3) jJ) jY))))) jY)))))))))))))
abbrev zIS:Stmt:=top 44
theorem zPU:FnScope ["saying","ring","row"] ["saying","ring","row"] (defScope zIS):=by walk_at "s"
noncomputable def d_44:DS:=dSeq (dIf (dTest (dOp neS (dCB lenS (jW (jV 2) qQ)) (dC (.int 1)))) (dRet (dC (.bl false))) dNext)
 (dSeq (dIf (dTest (dOp eqS (dOp ixS (jV 0) (dC (.int 0))) (dC (.str "ask")))) (dRet (dOp eqS (dOp ixS (jV 2) (dC (.int 0))) (dTup (jW (dOp ixS (jV 0) (dC (.int 1))) (jW (jV 1) (jW (dCall none F_27 [] (jW (dC (.int 5)) qQ)) qQ)))))) dNext)
 (dSeq (dIf (dTest (dOp eqS (dOp ixS (jV 0) (dC (.int 0))) (dC (.str "yes")))) (dRet (dOp eqS (dSl (dOp ixS (jV 2) (dC (.int 0))) (dPart (dC (.int 1))) dNoPart) (dTup (jW (jV 1) (jW (jV 1) qQ))))) dNext)
 (dRet (dAndV (dOp eqS (dOp ixS (jV 0) (dC (.int 0))) (dC (.str "no"))) (dOp eqS (dSl (dOp ixS (jV 2) (dC (.int 0))) (dPart (dC (.int 1))) dNoPart) (dTup (jW (dCall none F_27 [] (jW (dC (.int 5)) qQ)) (jW (dCall none F_27 [] (jW (dC (.int 5)) qQ)) qQ))))))))
noncomputable def F_44:DF:=fnD none 3 3 d_44
theorem zPb{f:Addr}{fd:FuncData}(Fn:Fun K "is_step_for" "is_step_for" zIS f fd)(hm:mg "is_step_for"=some (.ref f))(hb:Binds K fd ["saying","ring","row"] [])(z_len:mg "len"=none)(D_27:FD P wd K mg base (1) "still" none 1 F_27):FD P wd K mg base (2) "is_step_for" none 3 F_44 :=
 zAM (k:=1) Fn zPU hm hb fun cdv A outer s H E M B=>zAA (zAL (tx_c (zBA M) (zAO M (zAd M) z_len PySem.boot_len (jQ (jZ 2) jY)) jJ) (zAD (zAE zA4)) zAJ)
 (zAA (zAL (tx_c (zAR M) (zAC M (jZ 0) jJ) zAF) (zAD (zAE (ex_c (zAR M) (zAC M (jZ 2) jJ) (zAG (jQ (zAC M (jZ 0) jJ) (jQ (jZ 1) (jQ (zAB M B D_27 (jQ jJ jY)) jY))))))) zAJ)
 (zAA (zAL (tx_c (zAR M) (zAC M (jZ 0) jJ) zAF) (zAD (zAE (ex_c (zAR M) (zAq M (zAC M (jZ 2) jJ) (zAU jJ) zAo) (zAG (jQ (jZ 1) (jQ (jZ 1) jY)))))) zAJ)
 (zAD (zAE (zBb (ex_c (zAR M) (zAC M (jZ 0) jJ) zAF) (zBy (ex_c (zAR M) (zAq M (zAC M (jZ 2) jJ) (zAU jJ) zAo) (zAG (jQ (zAB M B D_27 (jQ jJ jY)) (jQ (zAB M B D_27 (jQ jJ jY)) jY))))))))))
abbrev zIA:Stmt:=top 47
theorem zPR:FnScope ["saying","ring","row","paper"] ["saying","ring","row","paper"] (defScope zIA):=by walk_at "s"
noncomputable def d_45:DS:=dSeq (dIf (dTru (dCall none F_38 [] (jW (jV 3) (jW (dC (.str "step")) (jW (dC (.int 1)) qQ))))) (dRet (dIfE (dTru (dCall none F_44 [] (jW (jV 0) (jW (jV 1) (jW (jV 2) qQ))))) (dLst qQ) (dC .non))) dNext)
 (dSeq (dIf (dTru (dCall none F_38 [] (jW (jV 3) (jW (dC (.str "not")) (jW (dC (.int 2)) qQ))))) (dRet (dCall none F_39 [] (jW (jV 0) (jW (jV 1) (jW (jV 2) (jW (jV 3) qQ)))))) dNext)
 (dSeq (dIf (dTru (dCall none F_38 [] (jW (jV 3) (jW (dC (.str "and")) (jW (dC (.int 10)) qQ))))) (dRet (dCall none F_43 [] (jW (jV 0) (jW (jV 1) (jW (jV 2) (jW (jV 3) qQ)))))) dNext)
 (dRet (dC .non))))
noncomputable def F_45:DF:=fnD none 4 4 d_45
theorem zQD{f:Addr}{fd:FuncData}(Fn:Fun K "claims_in" "claims_in" zIA f fd)(hm:mg "claims_in"=some (.ref f))(hb:Binds K fd ["saying","ring","row","paper"] [])(D_38:FD P wd K mg base (1) "is_form" none 3 F_38)(D_39:FD P wd K mg base (3) "not_claims" none 4 F_39)(D_43:FD P wd K mg base (6) "and_claims" none 4 F_43)(D_44:FD P wd K mg base (2) "is_step_for" none 3 F_44):FD P wd K mg base (7) "claims_in" none 4 F_45 :=
 zAM (k:=6) Fn zPR hm hb fun cdv A outer s H E M B=>zAA (zAL (tx_v M (zAB M B D_38 (jQ (jZ 3) (jQ zAF (jQ jJ jY))))) (zAD (zAE (zHk (tx_v M (zAB M B D_44 (jQ (jZ 0) (jQ (jZ 1) (jQ (jZ 2) jY))))) (zAc jY) zCQ))) zAJ)
 (zAA (zAL (tx_v M (zAB M B D_38 (jQ (jZ 3) (jQ zAF (jQ jJ jY))))) (zAD (zAE (zAB M B D_39 (jQ (jZ 0) (jQ (jZ 1) (jQ (jZ 2) (jQ (jZ 3) jY))))))) zAJ)
 (zAA (zAL (tx_v M (zAB M B D_38 (jQ (jZ 3) (jQ zAF (jQ jJ jY))))) (zAD (zAE (zAB M B D_43 (jQ (jZ 0) (jQ (jZ 1) (jQ (jZ 2) (jQ (jZ 3) jY))))))) zAJ)
 (zAD (zAE zCQ))))
noncomputable def zB6:DT:=dTru (jV 4)
noncomputable def zBj:DS:=dSeq (dSet 5 (dMut 4 hPop qQ))
 (dSeq (dSet 6 (dCall none F_45 [] (jW (dOp ixS (jV 5) (dC (.int 0))) (jW (dOp ixS (jV 5) (dC (.int 1))) (jW (dOp ixS (jV 5) (dC (.int 2))) (jW (dOp ixS (jV 5) (dC (.int 3))) qQ))))))
 (dSeq (dIf (dTest (dOp (isNoneS false) (jV 6) (dC .non))) (dRet (dC (.bl false))) dNext)
 (dDrop (dMut 4 hExtend (jW (jV 6) qQ)))))
abbrev zIt:Stmt:=top 48
theorem zFP:FnScope ["saying","ring","dance","paper","rest","claim","inside"] ["saying","ring","dance","paper"] (defScope zIt):=by walk_at "s"
noncomputable def d_46:DS:=dSeq (dSet 4 (dLst (jW (dTup (jW (dCall none F_35 [] (jW (jV 0) qQ)) (jW (jV 1) (jW (dOp ixS (jV 2) (dC (.int 2))) (jW (jV 3) qQ))))) qQ)))
 (dSeq (dWhile (zB6) (zBj) fuelX)
 (dRet (dC (.bl true))))
noncomputable def F_46:DF:=fnD none 4 7 d_46
theorem zQP{f:Addr}{fd:FuncData}(Fn:Fun K "paper_holds" "paper_holds" zIt f fd)(hm:mg "paper_holds"=some (.ref f))(hb:Binds K fd ["saying","ring","dance","paper"] [])(D_35:FD P wd K mg base (9) "spelled" none 1 F_35)(D_45:FD P wd K mg base (7) "claims_in" none 4 F_45):FD P wd K mg base (10) "paper_holds" none 4 F_46 :=
 zAM (k:=9) Fn zFP hm hb fun cdv A outer s H E M B=>zAA (zAI 4 (zAc (jQ (zAG (jQ (zAB M B D_35 (jQ (jZ 0) jY)) (jQ (jZ 1) (jQ (zAC M (jZ 2) jJ) (jQ (jZ 3) jY))))) jY)) (hN:=fun _=>zFP.nd))
 (zAA (zBn fuelX (fun _=>PassesOwn.never) (tx_v M (jZ 4)) (zAA (zAI 5 (zEM M PySem.F.slot_list_pop PySem.F.type_list_pop (fun _=>zGM) zEc (pv' 4)) (hN:=fun _=>zFP.nd))
 (zAA (zAI 6 (zAB M B D_45 (jQ (zAC M (jZ 5) jJ) (jQ (zAC M (jZ 5) jJ) (jQ (zAC M (jZ 5) jJ) (jQ (zAC M (jZ 5) jJ) jY))))) (hN:=fun _=>zFP.nd))
 (zAA (zAL (tx_c zPD (jZ 6) zCQ) (zAD (zAE zA4)) zAJ)
 (zAD (zBU (zBu M PySem.F.slot_list_extend PySem.F.type_list_extend (fun _=>zEq) zD2 (pv' 4) (jQ (jZ 6) jY))))))))
 (zAD (zAE zA4)))
noncomputable def zEZ:DE:=dIndex (jV 1) (jW (jV 0) qQ)
abbrev zIF:Stmt:=top 56
theorem zPX:FnScope ["_law_turning"] ["_law_turning"] (defScope zIF):=by walk_at "s"
noncomputable def d_47:DS:=dRet (dCB tupleS (jW (dComp none [none,some 0] (dRng1 (jW (dCB lenS (jW (jV 0) qQ)) qQ)) (gdName 0) dYes (zEZ)) qQ))
noncomputable def F_47:DF:=fnD none 1 1 d_47
theorem zPx{f:Addr}{fd:FuncData}(Fn:Fun K "_law_back" "_law_back" zIF f fd)(hm:mg "_law_back"=some (.ref f))(hb:Binds K fd ["_law_turning"] [])(z_len:mg "len"=none)(z_range:mg "range"=none)(z_tuple:mg "tuple"=none):FD P wd K mg base (1) "_law_back" none 1 F_47 :=
 zAM (k:=0) Fn zPX hm hb fun cdv A outer s H E M B=>zAD (zAE (zBM M (zA9 M) z_tuple boot_tuple (jQ (zA0 none (N':=["_law_place","_law_turning"]) (ix:=[none,some 0]) M (fun _=>⟨rfl,by kernel_rfl⟩) (zCW M z_range (jQ (zAO M (zAd M) z_len PySem.boot_len (jQ (jZ 0) jY)) jY)) (zAP 0 (hN:=fun _=>(by show (["_law_place","_law_turning"]:List Str).Nodup; decide +kernel))) zA7 (zFi M.comp (jZ 1) (jQ (jZ 0) jY)) (hix:=hix0)) jY)))
abbrev zHd:Stmt:=top 66
theorem zIe:FnScope ["_law_saying_here","_law_ring_here","_law_steps","_law_plain","_law_due"] ["_law_saying_here","_law_ring_here","_law_steps"] (defScope zHd):=by walk_at "s"
noncomputable def d_48:DS:=dSeq (dSet 3 (dTup (jW (dC (.int 0)) (jW (dC (.int 1)) (jW (dC (.int 2)) (jW (dC (.int 3)) (jW (dC (.int 4)) qQ)))))))
 (dSeq (dSet 4 (dDGetT (dDispK [.inr "yes",.inr "no",.inr "ask"] (jW (dTup (jW (jV 1) (jW (jV 1) qQ))) (jW (dTup (jW (jV 3) (jW (jV 3) qQ))) (jW (dTup (jW (jV 1) (jW (jV 3) qQ))) qQ)))) (dOp ixS (jV 0) (dC (.int 0)))))
 (dSeq (dIf (dOr (dTest (dOp neS (dCB lenS (jW (jV 2) qQ)) (dC (.int 1)))) (dTest (dOp neS (dSl (dOp ixS (jV 2) (dC (.int 0))) (dPart (dC (.int 1))) dNoPart) (jV 4)))) (dRet (dC (.bl false))) dNext)
 (dRet (dOrV (dOp neS (dOp ixS (jV 0) (dC (.int 0))) (dC (.str "ask"))) (dOp eqS (dOp ixS (jV 0) (dC (.int 1))) (dOp ixS (dOp ixS (jV 2) (dC (.int 0))) (dC (.int 0))))))))
noncomputable def F_48:DF:=fnD none 3 5 d_48
theorem zPB{f:Addr}{fd:FuncData}(Fn:Fun K "_law_step_holds" "_law_step_holds" zHd f fd)(hm:mg "_law_step_holds"=some (.ref f))(hb:Binds K fd ["_law_saying_here","_law_ring_here","_law_steps"] [])(z_len:mg "len"=none):FD P wd K mg base (1) "_law_step_holds" none 3 F_48 :=
 zAM (k:=0) Fn zIe hm hb fun cdv A outer s H E M B=>zAA (zAI 3 (zAG (jQ jJ (jQ jJ (jQ jJ (jQ jJ (jQ jJ jY)))))) (hN:=fun _=>zIe.nd))
 (zAA (zAI 4 (zK7 M (zK0 (zGX (zAG (jQ (jZ 1) (jQ (jZ 1) jY))) (zGX (zAG (jQ (jZ 3) (jQ (jZ 3) jY))) (zGX (zAG (jQ (jZ 1) (jQ (jZ 3) jY))) zOR)))) (zAC M (jZ 0) jJ)) (hN:=fun _=>zIe.nd))
 (zAA (zAL (tx_w (zAt (tx_c (zBA M) (zAO M (zAd M) z_len PySem.boot_len (jQ (jZ 2) jY)) jJ) (zA3 (tx_c (zBA M) (zAq M (zAC M (jZ 2) jJ) (zAU jJ) zAo) (jZ 4))))) (zAD (zAE zA4)) zAJ)
 (zAD (zAE (zP2 (ex_c (zBA M) (zAC M (jZ 0) jJ) zAF) (zBy (ex_c (zAR M) (zAC M (jZ 0) jJ) (zAC M (zAC M (jZ 2) jJ) jJ))))))))
noncomputable def zEg:DE:=dOp ixS (jV 1) (jV 0)
abbrev zH0:Stmt:=top 55
theorem zPn:FnScope ["_law_one","_law_other"] ["_law_one","_law_other"] (defScope zH0):=by walk_at "s"
noncomputable def d_49:DS:=dRet (dCB tupleS (jW (dComp none [none,some 1] (dSeqI (jV 0)) (gdName 0) dYes (zEg)) qQ))
noncomputable def F_49:DF:=fnD none 2 2 d_49
theorem zQF{f:Addr}{fd:FuncData}(Fn:Fun K "_law_then" "_law_then" zH0 f fd)(hm:mg "_law_then"=some (.ref f))(hb:Binds K fd ["_law_one","_law_other"] [])(z_tuple:mg "tuple"=none):FD P wd K mg base (1) "_law_then" none 2 F_49 :=
 zAM (k:=0) Fn zPn hm hb fun cdv A outer s H E M B=>zAD (zAE (zBM M (zA9 M) z_tuple boot_tuple (jQ (zA0 none (N':=["_law_place","_law_other"]) (ix:=[none,some 1]) M (fun _=>⟨rfl,by kernel_rfl⟩) (zA1 M (jZ 0)) (zAP 0 (hN:=fun _=>(by show (["_law_place","_law_other"]:List Str).Nodup; decide +kernel))) zA7 (zAC M.comp (jZ 1) (jZ 0)) (hix:=hix0)) jY)))
abbrev zH5:Stmt:=top 65
theorem zFV:FnScope ["_law_steps","_law_turning","_law_q","_law_yes","_law_no"] ["_law_steps","_law_turning"] (defScope zH5):=by walk_at "s"
noncomputable def d_50:DS:=dSeq (dUnp (gdTup 3 (gdCons (gdName 2) (gdCons (gdName 3) (gdCons (gdName 4) gdNil)))) (dOp ixS (jV 0) (dUn negS (dC (.int 1)))))
 (dRet (dOp addS (dSl (jV 0) dNoPart (dPart (dUn negS (dC (.int 1))))) (dTup (jW (dTup (jW (jV 2) (jW (dCall none F_49 [] (jW (jV 3) (jW (jV 1) qQ))) (jW (dCall none F_49 [] (jW (jV 4) (jW (jV 1) qQ))) qQ)))) qQ))))
noncomputable def F_50:DF:=fnD none 2 5 d_50
theorem zQK{f:Addr}{fd:FuncData}(Fn:Fun K "_law_followed" "_law_followed" zH5 f fd)(hm:mg "_law_followed"=some (.ref f))(hb:Binds K fd ["_law_steps","_law_turning"] [])(D_49:FD P wd K mg base (1) "_law_then" none 2 F_49):FD P wd K mg base (2) "_law_followed" none 2 F_50 :=
 zAM (k:=1) Fn zFV hm hb fun cdv A outer s H E M B=>zAA (zFs (zAC M (jZ 0) (zB2 jJ)) (zCO 3 M (zAi (zAP 2 (hN:=fun _=>zFV.nd)) (zAi (zAP 3 (hN:=fun _=>zFV.nd)) (zAi (zAP 4 (hN:=fun _=>zFV.nd)) zB9)))))
 (zAD (zAE (zAS M (zAq M (jZ 0) zAo (zAU (zB2 jJ))) (zAG (jQ (zAG (jQ (jZ 2) (jQ (zAB M B D_49 (jQ (jZ 3) (jQ (jZ 1) jY))) (jQ (zAB M B D_49 (jQ (jZ 4) (jQ (jZ 1) jY))) jY)))) jY)))))
noncomputable def zMD:DT:=dTest (dOp neS (dOp ixS (jV 0) (dOp ixS (jV 1) (dUn negS (dC (.int 1))))) (dC (.int 0)))
noncomputable def zMu:DS:=dDrop (dMut 1 hAppend (jW (dOp ixS (jV 0) (dOp ixS (jV 1) (dUn negS (dC (.int 1))))) qQ))
abbrev zH6:Stmt:=top 62
theorem zLi:FnScope ["_law_thing","_law_row"] ["_law_thing"] (defScope zH6):=by walk_at "s"
noncomputable def d_51:DS:=dSeq (dIf (dTest (dOp neS (dCB sortedS (jW (jV 0) qQ)) (dLst (jW (dC (.int 0)) (jW (dC (.int 1)) (jW (dC (.int 2)) (jW (dC (.int 3)) (jW (dC (.int 4)) qQ)))))))) (dRet (dC (.bl false))) dNext)
 (dSeq (dSet 1 (dLst (jW (dC (.int 0)) qQ)))
 (dSeq (dWhile (zMD) (zMu) fuelX)
 (dRet (dOp eqS (dCB lenS (jW (jV 1) qQ)) (dC (.int 5))))))
noncomputable def F_51:DF:=fnD none 1 2 d_51
theorem zPr{f:Addr}{fd:FuncData}(Fn:Fun K "_law_is_ring" "_law_is_ring" zH6 f fd)(hm:mg "_law_is_ring"=some (.ref f))(hb:Binds K fd ["_law_thing"] [])(z_len:mg "len"=none)(z_sorted:mg "sorted"=none):FD P wd K mg base (1) "_law_is_ring" none 1 F_51 :=
 zAM (k:=0) Fn zLi hm hb fun cdv A outer s H E M B=>zAA (zAL (tx_c (zBA M) (zAO M (zEs M) z_sorted boot_sorted (jQ (jZ 0) jY)) (zAc (jQ jJ (jQ jJ (jQ jJ (jQ jJ (jQ jJ jY))))))) (zAD (zAE zA4)) zAJ)
 (zAA (zAI 1 (zAc (jQ jJ jY)) (hN:=fun _=>zLi.nd))
 (zAA (zBn fuelX (fun _=>PassesOwn.never) (tx_c (zBA M) (zAC M (jZ 0) (zAC M (jZ 1) (zB2 jJ))) jJ) (zAD (zBU (zBu M PySem.F.slot_list_append PySem.F.type_list_append (fun _=>zB1) zBh (pv' 1) (jQ (zAC M (jZ 0) (zAC M (jZ 1) (zB2 jJ))) jY)))))
 (zAD (zAE (ex_c (zAR M) (zAO M (zAd M) z_len PySem.boot_len (jQ (jZ 1) jY)) jJ)))))
noncomputable def zNS:DE:=dCB isiS (jW (jV 0) (jW (dC (.ty "int")) qQ))
abbrev zIQ:Stmt:=top 67
theorem zPJ:FnScope ["_law_thing"] ["_law_thing"] (defScope zIQ):=by walk_at "s"
noncomputable def d_52:DS:=dSeq (dIf (dOr (dNot (dTru (dCB isiS (jW (jV 0) (jW (dC (.ty "tuple")) qQ))))) (dNot (dTru (dCB allS (jW (dComp none [none] (dSeqI (jV 0)) (gdName 0) dYes (zNS)) qQ))))) (dRet (dC (.bl false))) dNext)
 (dRet (dCall none F_51 [] (jW (jV 0) qQ)))
noncomputable def F_52:DF:=fnD none 1 1 d_52
theorem zPZ{f:Addr}{fd:FuncData}(Fn:Fun K "_law_is_aim" "_law_is_aim" zIQ f fd)(hm:mg "_law_is_aim"=some (.ref f))(hb:Binds K fd ["_law_thing"] [])(z_all:mg "all"=none)(z_int:mg "int"=none)(z_isinstance:mg "isinstance"=none)(z_tuple:mg "tuple"=none)(D_51:FD P wd K mg base (1) "_law_is_ring" none 1 F_51):FD P wd K mg base (2) "_law_is_aim" none 1 F_52 :=
 zAM (k:=1) Fn zPJ hm hb fun cdv A outer s H E M B=>zAA (zAL (tx_w (zAt (zA8 (tx_v M (zAO M (zBD M) z_isinstance boot_isinstance (jQ (jZ 0) (jQ (zBQ M z_tuple boot_tuple) jY))))) (zA3 (zA8 (tx_v M (zAO M (zDn M) z_all boot_all (jQ (zA0 none (N':=["_law_one"]) (ix:=[none]) M (fun _=>⟨rfl,by kernel_rfl⟩) (zA1 M (jZ 0)) (zAP 0 (hN:=fun _=>(by show (["_law_one"]:List Str).Nodup; decide +kernel))) zA7 (zAO M.comp (zBD M.comp) z_isinstance boot_isinstance (jQ (jZ 0) (jQ (zBQ M.comp z_int (by decide +kernel)) jY))) (hix:=hix0)) jY))))))) (zAD (zAE zA4)) zAJ)
 (zAD (zAE (zAB M B D_51 (jQ (jZ 0) jY))))
abbrev zHs:Stmt:=top 63
theorem zP1:FnScope ["_law_a","_law_b"] ["_law_a","_law_b"] (defScope zHs):=by walk_at "s"
noncomputable def d_53:DS:=dRet (dCall none F_49 [] (jW (dCall none F_49 [] (jW (jV 0) (jW (jV 1) qQ))) (jW (dCall none F_49 [] (jW (dCall none F_47 [] (jW (jV 0) qQ)) (jW (dCall none F_47 [] (jW (jV 1) qQ)) qQ))) qQ)))
noncomputable def F_53:DF:=fnD none 2 2 d_53
theorem zP9{f:Addr}{fd:FuncData}(Fn:Fun K "_law_there_back" "_law_there_back" zHs f fd)(hm:mg "_law_there_back"=some (.ref f))(hb:Binds K fd ["_law_a","_law_b"] [])(D_47:FD P wd K mg base (1) "_law_back" none 1 F_47)(D_49:FD P wd K mg base (1) "_law_then" none 2 F_49):FD P wd K mg base (2) "_law_there_back" none 2 F_53 :=
 zAM (k:=1) Fn zP1 hm hb fun cdv A outer s H E M B=>zAD (zAE (zAB M B D_49 (jQ (zAB M B D_49 (jQ (jZ 0) (jQ (jZ 1) jY))) (jQ (zAB M B D_49 (jQ (zAB M B D_47 (jQ (jZ 0) jY)) (jQ (zAB M B D_47 (jQ (jZ 1) jY)) jY))) jY))))
noncomputable def zGw (rec:DF):DE:=dCall none rec [] (jW (dOp ixS (jV 4) (jV 0)) (jW (jV 1) (jW (jV 2) (jW (jV 3) qQ))))
noncomputable def zHE (rec:DF):DE:=dCB isiS (jW (jV 0) (jW (dC (.ty "int")) qQ))
abbrev zH1:Stmt:=top 68
theorem zCI:FnScope ["_law_saying_here","_law_ring_here","_law_steps","_law_paper","_law_i","_law_j","_law_k","_law_a","_law_b","_law_some","_law_told"] ["_law_saying_here","_law_ring_here","_law_steps","_law_paper"] (defScope zH1):=by walk_at "s"
noncomputable def d_54 (rec:DF):DS:=dSeq (dUnp (gdTup 5 (gdCons (gdName 4) (gdCons (gdName 5) (gdCons (gdName 6) (gdCons (gdName 7) (gdCons (gdName 8) gdNil)))))) (dSl (jV 3) (dPart (dC (.int 1))) (dPart (dC (.int 6)))))
 (dSeq (dIf (dOr (dTest (dOp neS (dOp ixS (jV 0) (dC (.int 0))) (dC (.str "and")))) (dNot (dTru (dCB allS (jW (dComp none [none] (dSeqI (dTup (jW (jV 4) (jW (jV 5) (jW (jV 6) qQ))))) (gdName 0) dYes ((zHE rec))) qQ))))) (dRet (dC (.bl false))) dNext)
 (dSeq (dIf (dOr (dNot (dTest (dChainN (dC (.int 0)) (dLink ltS (jV 4) (dLink ltS (jV 5) (dLink ltS (jV 6) (dLast ltS (dCB lenS (jW (jV 2) qQ))))))))) (dOr (dNot (dTru (dCall none F_52 [] (jW (jV 7) qQ)))) (dOr (dNot (dTru (dCall none F_52 [] (jW (jV 8) qQ)))) (dTest (dOp neS (dCall none F_53 [] (jW (jV 7) (jW (jV 8) qQ))) (jV 1)))))) (dRet (dC (.bl false))) dNext)
 (dSeq (dSet 9 (dLst (jW (dTup (jW (dC (.int 1)) (jW (jV 7) (jW (dSl (jV 2) dNoPart (dPart (jV 4))) qQ)))) (jW (dTup (jW (dC (.int 2)) (jW (jV 8) (jW (dSl (jV 2) (dPart (jV 4)) (dPart (jV 5))) qQ)))) (jW (dTup (jW (dC (.int 1)) (jW (dCall none F_47 [] (jW (jV 7) qQ)) (jW (dSl (jV 2) (dPart (jV 5)) (dPart (jV 6))) qQ)))) (jW (dTup (jW (dC (.int 2)) (jW (dCall none F_47 [] (jW (jV 8) qQ)) (jW (dSl (jV 2) (dPart (jV 6)) dNoPart) qQ)))) qQ))))))
 (dSeq (dSet 10 (dComp none [none,none,none,none,some 0] (dZipM (jW (jV 9) (jW (dSl (jV 3) (dPart (dC (.int 6))) dNoPart) qQ))) (gdTup 2 (gdCons (gdTup 3 (gdCons (gdName 0) (gdCons (gdName 1) (gdCons (gdName 2) gdNil)))) (gdCons (gdName 3) gdNil))) dYes ((zGw rec))))
 (dRet (dOp (inS true) (dC (.bl false)) (jV 10)))))))
noncomputable def F_54 (rec:DF):DF:=fnD none 4 11 (d_54 rec)
theorem zPl{f:Addr}{fd:FuncData}(Fn:Fun K "_law_and_holds" "_law_and_holds" zH1 f fd)(hm:mg "_law_and_holds"=some (.ref f))(hb:Binds K fd ["_law_saying_here","_law_ring_here","_law_steps","_law_paper"] [])(z_all:mg "all"=none)(z_int:mg "int"=none)(z_isinstance:mg "isinstance"=none)(z_len:mg "len"=none)(z_zip:mg "zip"=none)(D_47:FD P wd K mg base (1) "_law_back" none 1 F_47)(D_52:FD P wd K mg base (2) "_law_is_aim" none 1 F_52)(D_53:FD P wd K mg base (2) "_law_there_back" none 2 F_53){lr:Nat}{recF:DF}(hlr:2<=lr)(Drec:FD P wd K mg base lr "_law_holds" none 4 recF):FD P wd K mg base (lr+1) "_law_and_holds" none 4 (F_54 recF) :=
 zAM (k:=lr) Fn zCI hm hb fun cdv A outer s H E M B=>zAA (zFs (zAq M (jZ 3) (zAU jJ) (zAU jJ)) (zCO 5 M (zAi (zAP 4 (hN:=fun _=>zCI.nd)) (zAi (zAP 5 (hN:=fun _=>zCI.nd)) (zAi (zAP 6 (hN:=fun _=>zCI.nd)) (zAi (zAP 7 (hN:=fun _=>zCI.nd)) (zAi (zAP 8 (hN:=fun _=>zCI.nd)) zB9)))))))   (zAA (zAL (tx_w (zAt (tx_c (zBA M) (zAC M (jZ 0) jJ) zAF) (zA3 (zA8 (tx_v M (zAO M (zDn M) z_all boot_all (jQ (zA0 none (N':=["_law_one"]) (ix:=[none]) M (fun _=>⟨rfl,by kernel_rfl⟩) (zA1 M (zAG (jQ (jZ 4) (jQ (jZ 5) (jQ (jZ 6) jY))))) (zAP 0 (hN:=fun _=>(by show (["_law_one"]:List Str).Nodup; decide +kernel))) zA7 (zAO M.comp (zBD M.comp) z_isinstance boot_isinstance (jQ (jZ 0) (jQ (zBQ M.comp z_int (by decide +kernel)) jY))) (hix:=hix0)) jY))))))) (zAD (zAE zA4)) zAJ)   (zAA (zAL (tx_w (zAt (zA8 (zJa jJ (zEQ zA6 (jZ 4) (zEQ zA6 (jZ 5) (zEQ zA6 (jZ 6) (zL9 zA6 (zAO M (zAd M) z_len PySem.boot_len (jQ (jZ 2) jY)))))))) (zAt (zA8 (tx_v M (zAB M B D_52 (jQ (jZ 7) jY)))) (zAt (zA8 (tx_v M (zAB M B D_52 (jQ (jZ 8) jY)))) (zA3 (tx_c (zBA M) (zAB M B D_53 (jQ (jZ 7) (jQ (jZ 8) jY))) (jZ 1))))))) (zAD (zAE zA4)) zAJ)   (zAA (zAI 9 (zAc (jQ (zAG (jQ jJ (jQ (jZ 7) (jQ (zAq M (jZ 2) zAo (zAU (jZ 4))) jY)))) (jQ (zAG (jQ jJ (jQ (jZ 8) (jQ (zAq M (jZ 2) (zAU (jZ 4)) (zAU (jZ 5))) jY)))) (jQ (zAG (jQ jJ (jQ (zAB M B D_47 (jQ (jZ 7) jY)) (jQ (zAq M (jZ 2) (zAU (jZ 5)) (zAU (jZ 6))) jY)))) (jQ (zAG (jQ jJ (jQ (zAB M B D_47 (jQ (jZ 8) jY)) (jQ (zAq M (jZ 2) (zAU (jZ 6)) zAo) jY)))) jY))))) (hN:=fun _=>zCI.nd))   (zAA (zCR 10 none (N':=["_law_at","_law_aim","_law_row","_law_one","_law_saying_here"]) (ix:=[none,none,none,none,some 0]) M (fun _=>⟨rfl,by kernel_rfl⟩) (zL2 M z_zip (jQ (jZ 9) (jQ (zAq M (jZ 3) (zAU jJ) zAo) jY))) (zCO 2 M.comp (zAi (zCO 3 M.comp (zAi (zAP 0 (hN:=fun _=>(by show (["_law_at","_law_aim","_law_row","_law_one","_law_saying_here"]:List Str).Nodup; decide +kernel))) (zAi (zAP 1 (hN:=fun _=>(by show (["_law_at","_law_aim","_law_row","_law_one","_law_saying_here"]:List Str).Nodup; decide +kernel))) (zAi (zAP 2 (hN:=fun _=>(by show (["_law_at","_law_aim","_law_row","_law_one","_law_saying_here"]:List Str).Nodup; decide +kernel))) zB9)))) (zAi (zAP 3 (hN:=fun _=>(by show (["_law_at","_law_aim","_law_row","_law_one","_law_saying_here"]:List Str).Nodup; decide +kernel))) zB9))) zA7 (zAB M.comp B.comp Drec (jQ (zAC M.comp (jZ 4) (jZ 0)) (jQ (jZ 1) (jQ (jZ 2) (jQ (jZ 3) jY))))) (hix:=hix0) (hN:=fun _=>zCI.nd))   (zAD (zAE (ex_c (zGK M) zA4 (jZ 10))))))))
abbrev st_0:Stmt:=top 69
theorem sc_0:FnScope ["_law_saying_here","_law_ring_here","_law_steps","_law_paper","_law_away"] ["_law_saying_here","_law_ring_here","_law_steps","_law_paper"] (defScope st_0):=by walk_at "s"
noncomputable def d_0 (rec:DF):DS:=dSeq (dIf (dTest (dOp eqS (jV 3) (dTup (jW (dC (.str "step")) qQ)))) (dRet (dCall none F_48 [] (jW (jV 0) (jW (jV 1) (jW (jV 2) qQ))))) dNext)
 (dSeq (dIf (dOr (dNot (dTru (dCB isiS (jW (jV 3) (jW (dC (.ty "tuple")) qQ))))) (dTest (dOp (inS true) (dCB lenS (jW (jV 3) qQ)) (dTup (jW (dC (.int 2)) (jW (dC (.int 10)) qQ)))))) (dRet (dC (.bl false))) dNext)
 (dSeq (dIf (dTest (dOp eqS (dCB lenS (jW (jV 3) qQ)) (dC (.int 10)))) (dRet (dAndV (dOp eqS (dOp ixS (jV 3) (dC (.int 0))) (dC (.str "and"))) (dCall none (F_54 rec) [] (jW (jV 0) (jW (jV 1) (jW (jV 2) (jW (jV 3) qQ))))))) dNext)
 (dSeq (dIf (dOr (dTest (dOp neS (dOp ixS (jV 3) (dC (.int 0))) (dC (.str "not")))) (dOr (dTest (dOp neS (dOp ixS (jV 0) (dC (.int 0))) (dC (.str "not")))) (dTest (dOp eqS (dCB lenS (jW (jV 2) qQ)) (dC (.int 0)))))) (dRet (dC (.bl false))) dNext)
 (dSeq (dSet 4 (dCall none F_47 [] (jW (jV 1) qQ)))
 (dRet (dCall none rec [] (jW (dOp ixS (jV 0) (dC (.int 1))) (jW (jV 4) (jW (dCall none F_50 [] (jW (jV 2) (jW (jV 4) qQ))) (jW (dOp ixS (jV 3) (dC (.int 1))) qQ))))))))))
noncomputable def F_0:Nat->DF
 | 0=>fun _=>none
 | n+1=>fnD none 4 5 (d_0 (F_0 n))
theorem ok_0{f:Addr}{fd:FuncData}(Fn:Fun K "_law_holds" "_law_holds" st_0 f fd)(hm:mg "_law_holds"=some (.ref f))(hb:Binds K fd ["_law_saying_here","_law_ring_here","_law_steps","_law_paper"] [])(z_isinstance:mg "isinstance"=none)(z_len:mg "len"=none)(z_tuple:mg "tuple"=none)(D_47:FD P wd K mg base (1) "_law_back" none 1 F_47)(D_48:FD P wd K mg base (1) "_law_step_holds" none 3 F_48)(D_50:FD P wd K mg base (2) "_law_followed" none 2 F_50)(D_54:∀ (lr:Nat) (recF:DF),2<=lr->FD P wd K mg base lr "_law_holds" none 4 recF->FD P wd K mg base (lr+1) "_law_and_holds" none 4 (F_54 recF))(n:Nat):FD P wd K mg base (2+2 * n) "_law_holds" none 4 (F_0 n):=by
 induction n with
 | zero=>exact zCB Fn hm hb rfl
 | succ n ih =>
  have Drec:=ih
  have D_54:=D_54 (2+2 * n) (F_0 n) (by omega) ih
  exact zAM (k:=2+2 * n+1) Fn sc_0 hm hb fun cdv A outer s H E M B=>zAA (zAL (tx_c (zAR M) (jZ 3) (zAG (jQ zAF jY))) (zAD (zAE (zAB M B D_48 (jQ (jZ 0) (jQ (jZ 1) (jQ (jZ 2) jY)))))) zAJ)   (zAA (zAL (tx_w (zAt (zA8 (tx_v M (zAO M (zBD M) z_isinstance boot_isinstance (jQ (jZ 3) (jQ (zBQ M z_tuple boot_tuple) jY))))) (zA3 (tx_c (zGK M) (zAO M (zAd M) z_len PySem.boot_len (jQ (jZ 3) jY)) (zAG (jQ jJ (jQ jJ jY))))))) (zAD (zAE zA4)) zAJ)   (zAA (zAL (tx_c (zAR M) (zAO M (zAd M) z_len PySem.boot_len (jQ (jZ 3) jY)) jJ) (zAD (zAE (zBb (ex_c (zAR M) (zAC M (jZ 3) jJ) zAF) (zBy (zAB M B D_54 (jQ (jZ 0) (jQ (jZ 1) (jQ (jZ 2) (jQ (jZ 3) jY))))))))) zAJ)   (zAA (zAL (tx_w (zAt (tx_c (zBA M) (zAC M (jZ 3) jJ) zAF) (zAt (tx_c (zBA M) (zAC M (jZ 0) jJ) zAF) (zA3 (tx_c (zAR M) (zAO M (zAd M) z_len PySem.boot_len (jQ (jZ 2) jY)) jJ))))) (zAD (zAE zA4)) zAJ)   (zAA (zAI 4 (zAB M B D_47 (jQ (jZ 1) jY)) (hN:=fun _=>sc_0.nd))   (zAD (zAE (zAB M B Drec (jQ (zAC M (jZ 0) jJ) (jQ (jZ 4) (jQ (zAB M B D_50 (jQ (jZ 2) (jQ (jZ 4) jY))) (jQ (zAC M (jZ 3) jJ) jY)))))))))))
abbrev zHm:Stmt:=top 70
theorem zDy:FnScope ["_law_saying_here","_law_questions","_law_ring_here","_law_found","_law_dance","_law_paper","_law_plain"] ["_law_saying_here","_law_questions","_law_ring_here"] (defScope zHm):=by walk_at "s"
noncomputable def d_55:DS:=dSeq (dSet 3 (dCall none F_37 [.int 128] (jW (jV 0) (jW (jV 1) (jW (jV 2) qQ)))))
 (dSeq (dIf (dOr (dNot (dTru (dCB isiS (jW (jV 3) (jW (dC (.ty "tuple")) qQ))))) (dOr (dTest (dOp neS (dCB lenS (jW (jV 3) qQ)) (dC (.int 2)))) (dTest (dOp neS (dCB reprS (jW (dOp ixS (jV 3) (dC (.int 0))) qQ)) (dCB reprS (jW (dCall none F_36 [.int 128] (jW (jV 0) (jW (jV 1) (jW (jV 2) qQ)))) qQ)))))) (dRet (dC (.bl false))) dNext)
 (dSeq (dUnp (gdTup 2 (gdCons (gdName 4) (gdCons (gdName 5) gdNil))) (jV 3))
 (dSeq (dSet 6 (dCall none (F_3 zEA) [] (jW (jV 0) qQ)))
 (dSeq (dIf (dOr (dNot (dTru (dCall none (F_0 zDs) [] (jW (jV 6) (jW (jV 2) (jW (dOp ixS (jV 4) (dC (.int 2))) (jW (jV 5) qQ))))))) (dTest (dOp (isBS true) (dCall none F_46 [] (jW (jV 0) (jW (jV 2) (jW (jV 4) (jW (jV 5) qQ))))) (dC (.bl true))))) (dRet (dC (.bl false))) dNext)
 (dSeq (dIf (dTest (dOp (isBS true) (dCall none F_46 [] (jW (jV 6) (jW (jV 2) (jW (jV 4) (jW (jV 5) qQ))))) (dC (.bl true)))) (dRet (dC (.bl false))) dNext)
 (dRet (dOp eqS (dCB reprS (jW (dCall none F_37 [] (jW (jV 0) (jW (jV 1) (jW (jV 2) (jW (dC (.int 128)) qQ))))) qQ)) (dCB reprS (jW (jV 3) qQ)))))))))
noncomputable def F_55:DF:=fnD none 3 7 d_55
theorem zPf{f:Addr}{fd:FuncData}(Fn:Fun K "_law_right" "_law_right" zHm f fd)(hm:mg "_law_right"=some (.ref f))(hb:Binds K fd ["_law_saying_here","_law_questions","_law_ring_here"] [])(z_isinstance:mg "isinstance"=none)(z_len:mg "len"=none)(z_repr:mg "repr"=none)(z_tuple:mg "tuple"=none)(D_37:FD P wd K mg base (12) "made_with_paper" none 4 F_37)(D_3:FD P wd K mg base (12) "_law_spelled" none 1 (F_3 zEA))(D_46:FD P wd K mg base (10) "paper_holds" none 4 F_46)(D_0:FD P wd K mg base (82) "_law_holds" none 4 (F_0 zDs))(Dd_36:FDd P wd K mg base (11) "made" none 4 F_36 [.int 128])(Dd_37:FDd P wd K mg base (12) "made_with_paper" none 4 F_37 [.int 128]):FD P wd K mg base (83) "_law_right" none 3 F_55 :=
 zAM (k:=82) Fn zDy hm hb fun cdv A outer s H E M B=>zAA (zAI 3 (zFc M B Dd_37 (jQ (jZ 0) (jQ (jZ 1) (jQ (jZ 2) jY)))) (hN:=fun _=>zDy.nd))
 (zAA (zAL (tx_w (zAt (zA8 (tx_v M (zAO M (zBD M) z_isinstance boot_isinstance (jQ (jZ 3) (jQ (zBQ M z_tuple boot_tuple) jY))))) (zAt (tx_c (zBA M) (zAO M (zAd M) z_len PySem.boot_len (jQ (jZ 3) jY)) jJ) (zA3 (tx_c (zBA M) (zAO M (zDI M) z_repr boot_repr (jQ (zAC M (jZ 3) jJ) jY)) (zAO M (zDI M) z_repr boot_repr (jQ (zFc M B Dd_36 (jQ (jZ 0) (jQ (jZ 1) (jQ (jZ 2) jY)))) jY))))))) (zAD (zAE zA4)) zAJ)
 (zAA (zFs (jZ 3) (zCO 2 M (zAi (zAP 4 (hN:=fun _=>zDy.nd)) (zAi (zAP 5 (hN:=fun _=>zDy.nd)) zB9))))
 (zAA (zAI 6 (zAB M B D_3 (jQ (jZ 0) jY)) (hN:=fun _=>zDy.nd))
 (zAA (zAL (tx_w (zAt (zA8 (tx_v M (zAB M B D_0 (jQ (jZ 6) (jQ (jZ 2) (jQ (zAC M (jZ 4) jJ) (jQ (jZ 5) jY))))))) (zA3 (tx_c zE5 (zAB M B D_46 (jQ (jZ 0) (jQ (jZ 2) (jQ (jZ 4) (jQ (jZ 5) jY))))) zA4)))) (zAD (zAE zA4)) zAJ)
 (zAA (zAL (tx_c zE5 (zAB M B D_46 (jQ (jZ 6) (jQ (jZ 2) (jQ (jZ 4) (jQ (jZ 5) jY))))) zA4) (zAD (zAE zA4)) zAJ)
 (zAD (zAE (ex_c (zAR M) (zAO M (zDI M) z_repr boot_repr (jQ (zAB M B D_37 (jQ (jZ 0) (jQ (jZ 1) (jQ (jZ 2) (jQ jJ jY))))) jY)) (zAO M (zDI M) z_repr boot_repr (jQ (jZ 3) jY))))))))))
noncomputable def zEH:DS:=dSetIx 4 (dOp ixS (jV 3) (dOp modS (dOp addS (jV 5) (dC (.int 1))) (jV 1))) (jV 6)
noncomputable def zCY:DT:=dTest (dOp gtS (dCB lenS (jW (jV 2) qQ)) (dC (.int 0)))
noncomputable def zDE:DS:=dDrop (dMut 3 hAppend (jW (dMut 2 hPopAt (jW (dCall (some 0) F_7 [] (jW (jV 0) (jW (dCB lenS (jW (jV 2) qQ)) qQ))) qQ)) qQ))
abbrev zIO:Stmt:=top 54
theorem zDC:FnScope ["_law_box_here","_law_cups","_law_left","_law_row","_law_found","_law_k","_law_place"] ["_law_box_here","_law_cups"] (defScope zIO):=by walk_at "s"
noncomputable def d_56:DS:=dSeq (dSet 2 (dListRng (jW (dC (.int 1)) (jW (jV 1) qQ))))
 (dSeq (dSet 3 (dLst (jW (dC (.int 0)) qQ)))
 (dSeq (dWhile (zCY) (zDE) fuelX)
 (dSeq (dSet 4 (dOp mulS (dLst (jW (dC (.int 0)) qQ)) (jV 1)))
 (dSeq (dFor (some 0) (dEnum (jW (jV 3) qQ)) (gdTup 2 (gdCons (gdName 5) (gdCons (gdName 6) gdNil))) (zEH))
 (dRet (dCB tupleS (jW (jV 4) qQ)))))))
noncomputable def F_56:DF:=fnD (some 0) 2 7 d_56
theorem zPz{f:Addr}{fd:FuncData}(Fn:Fun K "_law_ring" "_law_ring" zIO f fd)(hm:mg "_law_ring"=some (.ref f))(hb:Binds K fd ["_law_box_here","_law_cups"] [])(z_enumerate:mg "enumerate"=none)(z_len:mg "len"=none)(z_list:mg "list"=none)(z_range:mg "range"=none)(z_tuple:mg "tuple"=none)(D_7:FD P wd K mg base (1) "_law_take" (some 0) 2 F_7):FD P wd K mg base (2) "_law_ring" (some 0) 2 F_56 :=
 zAM (k:=1) Fn zDC hm hb fun cdv A outer s H E M B=>zAA (zAI 2 (zDg M z_list z_range (jQ jJ (jQ (jZ 1) jY))) (hN:=fun _=>zDC.nd))
 (zAA (zAI 3 (zAc (jQ jJ jY)) (hN:=fun _=>zDC.nd))
 (zAA (zBn fuelX (fun _=>PassesOwn.never) (tx_c zBq (zAO M (zAd M) z_len PySem.boot_len (jQ (jZ 2) jY)) jJ) (zAD (zBU (zBu M PySem.F.slot_list_append PySem.F.type_list_append (fun _=>zB1) zBh (pv' 3) (jQ (zBu M PySem.F.slot_list_pop PySem.F.type_list_pop (fun _=>zKg) zKS (pv' 2) (jQ (zAB M B D_7 (jQ (jZ 0) (jQ (zAO M (zAd M) z_len PySem.boot_len (jQ (jZ 2) jY)) jY))) jY)) jY)))))
 (zAA (zAI 4 (zAx (zAc (jQ jJ jY)) (jZ 1)) (hN:=fun _=>zDC.nd))
 (zAA (zFn M (fun _=>PassesOwn.never) (zLs M z_enumerate (jQ (jZ 3) jY)) (zCO 2 M (zAi (zAP 5 (hN:=fun _=>zDC.nd)) (zAi (zAP 6 (hN:=fun _=>zDC.nd)) zB9))) (zAD (zDV 4 (zAC M (jZ 3) (zBI (zAS M (jZ 5) jJ) (jZ 1))) (pv' 4) (jZ 6))))
 (zAD (zAE (zBM M (zA9 M) z_tuple boot_tuple (jQ (jZ 4) jY))))))))
noncomputable def zCm:DS:=dSeq (dSet 2 (dCall none F_6 [] (jW (jV 0) (jW (jV 1) qQ))))
 (dSeq (dSet 3 (dOp addS (dC (.int 1)) (dCall (some 0) F_7 [] (jW (jV 2) (jW (dC (.int 4)) qQ)))))
 (dSeq (dSet 4 (dCall (some 0) F_8 [] (jW (jV 2) (jW (jV 3) (jW (dC (.int 24)) (jW (dOp ixS (dLst (jW (dC (.int 16)) (jW (dC (.int 40)) (jW (dC (.int 128)) qQ)))) (dCall (some 0) F_7 [] (jW (jV 2) (jW (dC (.int 3)) qQ)))) qQ))))))
 (dIf (dNot (dTru (dCall none F_55 [] (jW (jV 4) (jW (jV 3) (jW (dCall (some 0) F_56 [] (jW (jV 2) (jW (dC (.int 5)) qQ))) qQ)))))) (dRet (dC (.bl false))) dNext)))
abbrev zBd:Stmt:=top 71
theorem zCt:FnScope ["_law_script","_law_k","_law_box_here","_law_questions","_law_saying_here"] ["_law_script"] (defScope zBd):=by walk_at "s"
noncomputable def zLm:DS:=dSeq (dFor none (dRng1 (jW (dOp addS (dC (.int 1)) (dCB lenS (jW (dSl (jV 0) dNoPart (dPart (dC (.int 1)))) qQ))) qQ)) (gdName 1) (zCm))
 (dRet (dC (.bl true)))
noncomputable def zCh:DF:=fnD none 1 5 zLm
theorem zOp{f:Addr}{fd:FuncData}(Fn:Fun K "law" "law" zBd f fd)(z_len:mg "len"=none)(z_range:mg "range"=none)(D_6:FD P wd K mg base (1) "_law_box" none 2 F_6)(D_7:FD P wd K mg base (1) "_law_take" (some 0) 2 F_7)(D_8:FD P wd K mg base (26) "_law_light" (some 0) 4 F_8)(D_55:FD P wd K mg base (83) "_law_right" none 3 F_55)(D_56:FD P wd K mg base (2) "_law_ring" (some 0) 2 F_56):FnOk P wd K mg base CX0 84 f fd ["_law_script"] (spD K none 1 zCh) :=
 zPY (k:=83) Fn zCt fun cdv A outer s H E M B=>zAA (zFn M (fun _=>PassesOwn.never) (zCW M z_range (jQ (zAS M jJ (zAO M (zAd M) z_len PySem.boot_len (jQ (zAq M (jZ 0) zAo (zAU jJ)) jY))) jY)) (zAP 1 (hN:=fun _=>zCt.nd)) (zAA (zAI 2 (zAB M B D_6 (jQ (jZ 0) (jQ (jZ 1) jY))) (hN:=fun _=>zCt.nd))
 (zAA (zAI 3 (zAS M jJ (zAB M B D_7 (jQ (jZ 2) (jQ jJ jY)))) (hN:=fun _=>zCt.nd))
 (zAA (zAI 4 (zAB M B D_8 (jQ (jZ 2) (jQ (jZ 3) (jQ jJ (jQ (zAC M (zAc (jQ jJ (jQ jJ (jQ jJ jY)))) (zAB M B D_7 (jQ (jZ 2) (jQ jJ jY)))) jY))))) (hN:=fun _=>zCt.nd))
 (zAD (zAL (zA8 (tx_v M (zAB M B D_55 (jQ (jZ 4) (jQ (jZ 3) (jQ (zAB M B D_56 (jQ (jZ 2) (jQ jJ jY))) jY)))))) (zAD (zAE zA4)) zAJ))))))
 (zAD (zAE zA4))
noncomputable abbrev tb_1:Tb:=[("inner",1,F_14),("pieces_in",1,F_21)]
noncomputable abbrev tb_2:Tb:=[("weight_of",2,F_23),("spelled_of",2,F_25),("steps_of",2,F_29),("paper_of",2,F_30)]
end
theorem zMN(a b w:Int)(h0:0 < w)(h1:w < 1073741824):∃ r a' b',0<=r/\r < w/\F_7 [.l [iT a,iT b],.v (iT w)]=some (.v (iT r),[iT a',iT b']):=by
 have h2:CDiv a w:=⟨h0,h1⟩
 by_cases h:0 < a
 ·refine⟨a % w,a / w,b,Int.emod_nonneg _ (by omega),Int.emod_lt_of_pos _ h0,?_⟩
  simp[F_7,fnD,d_7,h,h0,h2,ixN]
 ·refine⟨(b * 69623 % 2147483647 * 2147483647+((b * 69623 % 2147483647 * 48271+30103) % 2147483629+1)) / 8191 % w,a,(b * 69623 % 2147483647 * 48271+30103) % 2147483629+1,Int.emod_nonneg _ (by omega),Int.emod_lt_of_pos _ h0,?_⟩
  simp[F_7,fnD,d_7,h,h0,h2,ixN,CMul,CDiv]
theorem zAu(a b:Int)(w:Nat)(h0:0 < w)(h1:w<=1000000000):∃ (r:Nat) (a' b':Int),r < w/\F_7 [.l [iT a,iT b],.v (iT (w:Int))]=some (.v (iT (r:Int)),[iT a',iT b']):=by
 obtain⟨r,a',b',r0,r1,e⟩:=zMN a b w (by omega) (by omega)
 obtain⟨n,rfl⟩:∃ n:Nat,r=n:=⟨r.toNat,by omega⟩
 exact⟨n,a',b',by omega,e⟩
theorem zOn(ns:List Int)(k:Int)(hk:0<=k)(hk1:k < 1000):∃ a b,F_6 [.k (intsT ns),.v (iT k)]=some (.l [iT a,iT b],[]):=by
 have hl:(intsT ns).length=ns.length:=by simp[intsT]
 have fin:∀ c:Int,∃ a,atI [T.a (V.int 0),T.a (V.int c)] (if (1000000000000000000:Int)<=c then 1 else 0)=some (iT a):=fun c=>by
  split
  ·exact⟨c,rfl⟩
  ·exact⟨0,rfl⟩
 have c1:CMul 7919 k:=.inl ⟨by decide,by decide⟩
 have c2:CMul 40692 k:=.inl ⟨by decide,by decide⟩
 have c3:∀ m:Int,CMul m 69623:=fun m=>.inr ⟨by decide,by decide⟩
 have c4:∀ m:Int,CMul m 48271:=fun m=>.inr ⟨by decide,by decide⟩
 have c5:CPow 10 18:=⟨by decide,by decide,by decide⟩
 by_cases h1:k < ns.length
 ·obtain⟨z,hz⟩:=zGZ ns hk h1
  obtain⟨a,ha⟩:=fin z
  refine⟨a,(z % 2147483629 * 48271+40692 * k) % 2147483629+1,?_⟩
  simp[F_6,fnD,d_6,hl,h1,c1,c2,c3,c4,c5,hz,ha,gd,zEY]
 ·by_cases h2:0 < ns.length
  ·obtain⟨z,hz⟩:=zGZ ns (i:=k % ns.length) (Int.emod_nonneg _ (by omega)) (Int.emod_lt_of_pos _ (by omega))
   obtain⟨a,ha⟩:=fin (7919 * k+11+z % 2147483629 * 69623)
   refine⟨a,((7919 * k+11+z % 2147483629 * 69623) % 2147483629 * 48271+40692 * k) % 2147483629+1,?_⟩
   simp[F_6,fnD,d_6,hl,h1,h2,c1,c2,c3,c4,c5,hz,ha,gd,zEY]
  ·obtain⟨a,ha⟩:=fin (7919 * k+11)
   refine⟨a,((7919 * k+11) % 2147483629 * 48271+40692 * k) % 2147483629+1,?_⟩
   simp[F_6,fnD,d_6,hl,h1,h2,c1,c2,c3,c4,c5,ha,gd,zEY]
theorem zJq{tg:En->T->Option En}{b:DS}{t:T}{r:List T}{Γ Γ1 Γ2:En}(h1:tg Γ t=some Γ1)(h2:b Γ1=some (.nx Γ2)):forD tg b (t::r) Γ=forD tg b r Γ2:=by
 rw[zCu,h1,Option.bind_some,h2,Option.bind_some]
@[simp] theorem zRW(a b:String):(Str.ofString a=Str.ofString b)=(a=b):=by
 refine propext ⟨fun h=>?_,fun h=>by rw[h]⟩
 rw[Str.ofString_eq_toList,Str.ofString_eq_toList]at h
 have h2:=congrArg (fun s=>s.cps.toList) h
 simp only[List.toList_toArray]at h2
 refine String.toList_inj.mp (List.map_inj_right (fun x y e=>?_) |>.mp h2)
 exact Char.ext (UInt32.toNat_inj.mp e)
inductive Sy where
 | yes | no | ask (q:Nat) | nt (a:Sy) | an (a b:Sy) | or (a b:Sy) | ei (a b:Sy) | mo (a b c:Sy)
abbrev sT(x:Str):T:=.a (.str x)
def Sy.t:Sy->T
 | .yes=>.t [sT "yes"]
 | .no=>.t [sT "no"]
 | .ask q=>.t [sT "ask",iT q]
 | .nt a=>.t [sT "not",a.t]
 | .an a b=>.t [sT "and",a.t,b.t]
 | .or a b=>.t [sT "or",a.t,b.t]
 | .ei a b=>.t [sT "either",a.t,b.t]
 | .mo a b c=>.t [sT "most",a.t,b.t,c.t]
def Sy.kids:Sy->List Sy
 | .yes=>[]
 | .no=>[]
 | .ask _=>[]
 | .nt a=>[a]
 | .an a b=>[a,b]
 | .or a b=>[a,b]
 | .ei a b=>[a,b]
 | .mo a b c=>[a,b,c]
def Sy.parts:Sy->Nat
 | .yes=>1
 | .no=>1
 | .ask _=>1
 | .nt a=>1+a.parts
 | .an a b=>1+a.parts+b.parts
 | .or a b=>1+a.parts+b.parts
 | .ei a b=>1+a.parts+b.parts
 | .mo a b c=>1+a.parts+b.parts+c.parts
def Sy.down:Sy->Nat
 | .yes=>1
 | .no=>1
 | .ask _=>1
 | .nt a=>1+a.down
 | .an a b=>1+max a.down b.down
 | .or a b=>1+max a.down b.down
 | .ei a b=>1+max a.down b.down
 | .mo a b c=>1+max a.down (max b.down c.down)
def Sy.wt:Sy->Nat
 | .yes=>1
 | .no=>1
 | .ask _=>1
 | .nt a=>a.wt
 | .an a b=>2 * (a.wt+b.wt)
 | .or a b=>2 * (a.wt+b.wt)
 | .ei a b=>8 * (a.wt+b.wt)
 | .mo a b c=>12 * (a.wt+b.wt)+4 * c.wt
def Sy.qs(q:Nat):Sy->Prop
 | .yes=>True
 | .no=>True
 | .ask k=>k < q
 | .nt a=>a.qs q
 | .an a b=>a.qs q/\b.qs q
 | .or a b=>a.qs q/\b.qs q
 | .ei a b=>a.qs q/\b.qs q
 | .mo a b c=>a.qs q/\b.qs q/\c.qs q
theorem Sy.parts_pos:∀ s:Sy,1<=s.parts
 | .yes=>Nat.le_refl _
 | .no=>Nat.le_refl _
 | .ask _=>Nat.le_refl _
 | .nt a=>by simp only[Sy.parts]; omega
 | .an a b=>by simp only[Sy.parts]; omega
 | .or a b=>by simp only[Sy.parts]; omega
 | .ei a b=>by simp only[Sy.parts]; omega
 | .mo a b c=>by simp only[Sy.parts]; omega
theorem Sy.down_pos:∀ s:Sy,1<=s.down
 | .yes=>Nat.le_refl _
 | .no=>Nat.le_refl _
 | .ask _=>Nat.le_refl _
 | .nt a=>by simp only[Sy.down]; omega
 | .an a b=>by simp only[Sy.down]; omega
 | .or a b=>by simp only[Sy.down]; omega
 | .ei a b=>by simp only[Sy.down]; omega
 | .mo a b c=>by simp only[Sy.down]; omega
def Sy.rs(f:Sy->T):Sy->Rs
 | .yes=>.mk (Sy.t .yes) (f .yes) []
 | .no=>.mk (Sy.t .no) (f .no) []
 | .ask q=>.mk (Sy.t (.ask q)) (f (.ask q)) []
 | .nt a=>.mk (Sy.t (.nt a)) (f (.nt a)) [a.rs f]
 | .an a b=>.mk (Sy.t (.an a b)) (f (.an a b)) [a.rs f,b.rs f]
 | .or a b=>.mk (Sy.t (.or a b)) (f (.or a b)) [a.rs f,b.rs f]
 | .ei a b=>.mk (Sy.t (.ei a b)) (f (.ei a b)) [a.rs f,b.rs f]
 | .mo a b c=>.mk (Sy.t (.mo a b c)) (f (.mo a b c)) [a.rs f,b.rs f,c.rs f]
theorem Sy.rs_e(f:Sy->T)(s:Sy):(s.rs f).e=s.t:=by cases s <;> rfl
theorem Sy.rs_v(f:Sy->T)(s:Sy):(s.rs f).v=f s:=by cases s <;> rfl
theorem Sy.rs_pre(f:Sy->T):∀ s:Sy,(s.rs f).pre.length=s.parts
 | .yes=>by simp[Sy.rs,zAe,zAa,Sy.parts]
 | .no=>by simp[Sy.rs,zAe,zAa,Sy.parts]
 | .ask _=>by simp[Sy.rs,zAe,zAa,Sy.parts]
 | .nt a=>by simp[Sy.rs,zAe,zAa,zAb,Sy.parts,a.rs_pre f]; omega
 | .an a b=>by simp[Sy.rs,zAe,zAa,zAb,Sy.parts,a.rs_pre f,b.rs_pre f]; omega
 | .or a b=>by simp[Sy.rs,zAe,zAa,zAb,Sy.parts,a.rs_pre f,b.rs_pre f]; omega
 | .ei a b=>by simp[Sy.rs,zAe,zAa,zAb,Sy.parts,a.rs_pre f,b.rs_pre f]; omega
 | .mo a b c=>by simp[Sy.rs,zAe,zAa,zAb,Sy.parts,a.rs_pre f,b.rs_pre f,c.rs_pre f]; omega
theorem cut1(x:T)(r:List T):cutT (x::r) (some 1) none=r:=zCe (x::r) 1
theorem zBJ(s:Sy):F_14 [.v s.t]=some (.v (.t (s.kids.map Sy.t)),[]):=by
 cases s <;> simp[F_14,fnD,d_14,Sy.t,Sy.kids,gd,cut1,zOv]
theorem Sy.rs_in(f:Sy->T):∀ s:Sy,(s.rs f).In F_14
 | .yes=>zAw.mpr ⟨.inl (zBJ .yes),zAl⟩
 | .no=>zAw.mpr ⟨.inl (zBJ .no),zAl⟩
 | .ask q=>zAw.mpr ⟨.inl (zBJ (.ask q)),zAl⟩
 | .nt a=>zAw.mpr ⟨.inl (by simpa [Sy.kids,Sy.rs_e] using zBJ (.nt a)),zAT.mpr ⟨a.rs_in f,zAl⟩⟩
 | .an a b=>zAw.mpr ⟨.inl (by simpa [Sy.kids,Sy.rs_e] using zBJ (.an a b)),zAT.mpr ⟨a.rs_in f,zAT.mpr ⟨b.rs_in f,zAl⟩⟩⟩
 | .or a b=>zAw.mpr ⟨.inl (by simpa [Sy.kids,Sy.rs_e] using zBJ (.or a b)),zAT.mpr ⟨a.rs_in f,zAT.mpr ⟨b.rs_in f,zAl⟩⟩⟩
 | .ei a b=>zAw.mpr ⟨.inl (by simpa [Sy.kids,Sy.rs_e] using zBJ (.ei a b)),zAT.mpr ⟨a.rs_in f,zAT.mpr ⟨b.rs_in f,zAl⟩⟩⟩
 | .mo a b c=>zAw.mpr ⟨.inl (by simpa [Sy.kids,Sy.rs_e] using zBJ (.mo a b c)),zAT.mpr ⟨a.rs_in f,zAT.mpr ⟨b.rs_in f,zAT.mpr ⟨c.rs_in f,zAl⟩⟩⟩⟩
theorem Sy.rs_put(f:Sy->T){put:DF}(h:∀ s:Sy,put [.v s.t,.r (s.kids.map f)]=some (.v (f s),[])):∀ s:Sy,(s.rs f).Put put
 | .yes=>zAp.mpr ⟨h .yes,zAh⟩
 | .no=>zAp.mpr ⟨h .no,zAh⟩
 | .ask q=>zAp.mpr ⟨h (.ask q),zAh⟩
 | .nt a=>zAp.mpr ⟨by simpa [Sy.kids,Sy.rs_v] using h (.nt a),zAY.mpr ⟨a.rs_put f h,zAh⟩⟩
 | .an a b=>zAp.mpr ⟨by simpa [Sy.kids,Sy.rs_v] using h (.an a b),zAY.mpr ⟨a.rs_put f h,zAY.mpr ⟨b.rs_put f h,zAh⟩⟩⟩
 | .or a b=>zAp.mpr ⟨by simpa [Sy.kids,Sy.rs_v] using h (.or a b),zAY.mpr ⟨a.rs_put f h,zAY.mpr ⟨b.rs_put f h,zAh⟩⟩⟩
 | .ei a b=>zAp.mpr ⟨by simpa [Sy.kids,Sy.rs_v] using h (.ei a b),zAY.mpr ⟨a.rs_put f h,zAY.mpr ⟨b.rs_put f h,zAh⟩⟩⟩
 | .mo a b c=>zAp.mpr ⟨by simpa [Sy.kids,Sy.rs_v] using h (.mo a b c),zAY.mpr ⟨a.rs_put f h,zAY.mpr ⟨b.rs_put f h,zAY.mpr ⟨c.rs_put f h,zAh⟩⟩⟩⟩
def orS(s t:Sy):Sy:=.nt (.an (.nt s) (.nt t))
def Sy.spell:Sy->Sy
 | .yes=>.yes
 | .no=>.no
 | .ask q=>.ask q
 | .nt a=>.nt a.spell
 | .an a b=>.an a.spell b.spell
 | .or a b=>orS a.spell b.spell
 | .ei a b=>orS (.an a.spell (.nt b.spell)) (.an (.nt a.spell) b.spell)
 | .mo a b c=>orS (.an a.spell b.spell) (.an c.spell (orS a.spell b.spell))
theorem zOY(x y:T):F_24 [.v x,.v y]=some (.v (.t [sT "not",.t [sT "and",.t [sT "not",x],.t [sT "not",y]]]),[]):=by
 have g2:(2:Nat)<=sizeLine:=by decide
 have g3:(3:Nat)<=sizeLine:=by decide
 simp[F_24,fnD,d_24,gd,g2,g3]
theorem zFG(s:Sy):F_25 [.v s.t,.r (s.kids.map fun k=>k.spell.t)]=some (.v s.spell.t,[]):=by
 have g1:(1:Nat)<=sizeLine:=by decide
 have g2:(2:Nat)<=sizeLine:=by decide
 have g3:(3:Nat)<=sizeLine:=by decide
 have g4:(4:Nat)<=sizeLine:=by decide
 cases s <;> simp[F_25,fnD,d_25,Sy.t,Sy.kids,Sy.spell,orS,gd,g1,g2,g3,g4,zOY,inS,atomsOf,flatV,inV,eqV]
theorem zFQ:F_31=fnD none 3 6 (fwD (fnD none 2 5 (awD tb_1)) tb_1 tb_2):=rfl
theorem zDx:tb_1.find? (fun q=>decide (q.1=("inner":Str)))=some (("inner":Str),1,F_14):=by rfl
theorem zD9:tb_2.find? (fun q=>decide (q.1=("spelled_of":Str)))=some (("spelled_of":Str),2,F_25):=by rfl
theorem zCl(s:Sy)(h:s.parts<=80000):F_35 [.v s.t]=some (.v s.spell.t,[]):=by
 have:=zBL zDx zD9 (s.rs fun k=>k.spell.t) (s.rs_in _) (s.rs_put _ zFG) (by rw[Sy.rs_pre]; exact h)
 rw[← zFQ,Sy.rs_e,Sy.rs_v]at this
 simp[F_35,fnD,d_35,F_32,d_32,this]
theorem zEf{f g:DS}{Γ Γ':En}{r:Option O}(h:f Γ=some (.nx Γ'))(k:g Γ'=r):dSeq f g Γ=r:=by rw[zMl,h]; exact k
theorem zEr(q:Nat)(hq0:0 < q)(hq:q<=100):∀ (n:Nat) (a b:Int) (room down:Nat),1<=n->down<=n->1<=room->room<=1000->∃ (s:Sy) (a' b':Int),s.down<=max 1 down/\s.parts<=room/\s.qs q /\
  F_2 n [.l [iT a,iT b],.v (iT (q:Int)),.v (iT (room:Int)),.v (iT (down:Int))]=some (.v s.t,[iT a',iT b']):=by
 intro n
 induction n with
 | zero=>intro a b room down h; omega
 | succ n ih =>
  intro a b room down _ hd hr hr2
  obtain⟨f,a1,b1,hf,e1⟩:=zAu a b 10 (by decide) (by decide)
  have e1':F_7 [.l [iT a,iT b],.v (iT 10)]=some (.v (iT (f:Int)),[iT a1,iT b1]):=e1
  simp only[iT]at e1' ⊢
  clear e1
  by_cases leaf:room < 2\/down < 2\/f=0
  ·obtain⟨k,a2,b2,hk,e2⟩:=zAu a1 b1 q hq0 (by omega)
   obtain⟨g,a3,b3,hg,e3⟩:=zAu a2 b2 8 (by decide) (by decide)
   have e3':F_7 [.l [iT a2,iT b2],.v (iT 8)]=some (.v (iT (g:Int)),[iT a3,iT b3]):=e3
   simp only[iT]at e2 e3'
   have fin:∀ (s:Sy) (i:Nat),(if (5:Int) < (g:Int) then (g:Int) - 5 else 0)=(i:Int)->[Sy.t (.ask k),Sy.t .yes,Sy.t .no][i]?=some s.t->F_2 (n+1) [.l [.a (.int a),.a (.int b)],.v (.a (.int (q:Int))),.v (.a (.int (room:Int))),.v (.a (.int (down:Int)))]=some (.v s.t,[.a (.int a3),.a (.int b3)]):=fun s i mx es=>by
    simp only[Sy.t,iT]at es
    by_cases h1:(room:Int) < 2
    ·simp[F_2,fnD,d_2,e1',e2,e3',h1,mx,zA2,es]
    ·by_cases h2:(down:Int) < 2
     ·simp[F_2,fnD,d_2,e1',e2,e3',h1,h2,mx,zA2,es]
     ·have h3:f=0:=by omega
      simp[F_2,fnD,d_2,e1',e2,e3',h1,h2,h3,mx,zA2,es]
   have hm:(1:Nat)<=max 1 down:=Nat.le_max_left _ _
   by_cases c1:g<=5
   ·exact⟨.ask k,a3,b3,hm,hr,hk,fin _ 0 (by rw[if_neg (by omega)]; rfl) rfl⟩
   ·by_cases c2:g=6
    ·subst c2
     exact⟨.yes,a3,b3,hm,hr,trivial,fin _ 1 (by decide) rfl⟩
    ·have:g=7:=by omega
     subst this
     exact⟨.no,a3,b3,hm,hr,trivial,fin _ 2 (by decide) rfl⟩
  ·have m1:¬ (room:Int) < 2:=by omega
   have m2:¬ (down:Int) < 2:=by omega
   have m3:¬ f=0:=by omega
   have m3':¬ (f:Int)=0:=by omega
   have d1:(down:Int) - 1=((down - 1:Nat):Int):=by omega
   by_cases nt:f < 3\/room < 3
   ·obtain⟨s,a2,b2,h1,h2,h3,e2⟩:=ih a1 b1 (room - 1) (down - 1) (by omega) (by omega) (by omega) (by omega)
    have r1:(room:Int) - 1=((room - 1:Nat):Int):=by omega
    refine⟨.nt s,a2,b2,by simp only[Sy.down]; omega,by simp only[Sy.parts]; omega,h3,?_⟩
    simp only[iT,Sy.t]at e2 ⊢
    generalize s.t=S at *
    by_cases h:(f:Int) < 3
    ·simp[F_2,fnD,d_2,e1',m1,m2,m3,m3',h,r1,d1,e2]
    ·have h':(room:Int) < 3:=by omega
     simp[F_2,fnD,d_2,e1',m1,m2,m3,m3',h,h',r1,d1,e2]
   ·have n1:¬ (f:Int) < 3:=by omega
    have n2:¬ (room:Int) < 3:=by omega
    obtain⟨k1,a2,b2,hk1,e2⟩:=zAu a1 b1 (room - 2) (by omega) (by omega)
    have r2:(room:Int) - 2=((room - 2:Nat):Int):=by omega
    obtain⟨x1,hx1⟩:∃ x1:Nat,x1=1+k1:=⟨1+k1,rfl⟩
    obtain⟨s1,a3,b3,h1,h2,h3,e3⟩:=ih a2 b2 x1 (down - 1) (by omega) (by omega) (by omega) (by omega)
    have c1:(1:Int)+(k1:Int)=(x1:Int):=by omega
    by_cases mo:f=9/\room > 3/\x1 < room - 2
    ·obtain⟨k2,a4,b4,hk2,e4⟩:=zAu a3 b3 (room - 2 - x1) (by omega) (by omega)
     obtain⟨x2,hx2⟩:∃ x2:Nat,x2=1+k2:=⟨1+k2,rfl⟩
     have c2:(1:Int)+(k2:Int)=(x2:Int):=by omega
     obtain⟨s2,a5,b5,u1,u2,u3,e5⟩:=ih a4 b4 x2 (down - 1) (by omega) (by omega) (by omega) (by omega)
     obtain⟨s3,a6,b6,v1,v2,v3,e6⟩:=ih a5 b5 (room - 1 - x1 - x2) (down - 1) (by omega) (by omega) (by omega) (by omega)
     have r3:((room - 2:Nat):Int) - (x1:Int)=((room - 2 - x1:Nat):Int):=by omega
     have r4:(room:Int) - 1 - (x1:Int) - (x2:Int)=((room - 1 - x1 - x2:Nat):Int):=by omega
     have q1:(f:Int)=9:=by omega
     have q2:(3:Int) < (room:Int):=by omega
     have q3:(x1:Int) < ((room - 2:Nat):Int):=by omega
     refine⟨.mo s1 s2 s3,a6,b6,by simp only[Sy.down]; omega,by simp only[Sy.parts]; omega,⟨h3,u3,v3⟩,?_⟩
     simp only[iT,Sy.t]at e2 e3 e4 e5 e6 ⊢
     rw[q1]at e1'
     simp[F_2,fnD,d_2,e1',m1,m2,n2,r2,e2,c1,d1,e3,q2,q3,r3,e4,c2,e5,r4,e6]
    ·obtain⟨s2,a4,b4,u1,u2,u3,e4⟩:=ih a3 b3 (room - 1 - x1) (down - 1) (by omega) (by omega) (by omega) (by omega)
     have r3:(room:Int) - 1 - (x1:Int)=((room - 1 - x1:Nat):Int):=by omega
     simp only[iT]at e2 e3 e4
     have fin:∀ (w:Str) (i:Nat),(f:Int) % 3=(i:Int)->[sT "and",sT "or",sT "either"][i]?=some (sT w)->F_2 (n+1) [.l [.a (.int a),.a (.int b)],.v (.a (.int (q:Int))),.v (.a (.int (room:Int))),.v (.a (.int (down:Int)))]=some (.v (.t [sT w,s1.t,s2.t]),[.a (.int a4),.a (.int b4)]):=fun w i ei es=>by
      simp only[sT]at es ⊢
      by_cases q1:(f:Int)=9
      ·have hi:i=0:=by omega
       subst hi
       simp at es
       subst es
       by_cases q2:(3:Int) < (room:Int)
       ·have q3:¬ (x1:Int) < ((room - 2:Nat):Int):=by omega
        simp[F_2,fnD,d_2,e1',m1,m2,m3,m3',n1,n2,r2,e2,c1,d1,e3,q1,q2,q3,r3,e4]
       ·simp[F_2,fnD,d_2,e1',m1,m2,m3,m3',n1,n2,r2,e2,c1,d1,e3,q1,q2,r3,e4]
      ·simp[F_2,fnD,d_2,e1',m1,m2,m3,m3',n1,n2,r2,e2,c1,d1,e3,q1,ei,zA2,es,r3,e4]
     have hf3:f % 3=0\/f % 3=1\/f % 3=2:=by omega
     rcases hf3 with h | h | h
     ·exact⟨.an s1 s2,a4,b4,by simp only[Sy.down]; omega,by simp only[Sy.parts]; omega,⟨h3,u3⟩,fin "and" 0 (by omega) rfl⟩
     ·exact⟨.or s1 s2,a4,b4,by simp only[Sy.down]; omega,by simp only[Sy.parts]; omega,⟨h3,u3⟩,fin "or" 1 (by omega) rfl⟩
     ·exact⟨.ei s1 s2,a4,b4,by simp only[Sy.down]; omega,by simp only[Sy.parts]; omega,⟨h3,u3⟩,fin "either" 2 (by omega) rfl⟩
theorem lw_q(rec:DF)(s:Sy):zC2 rec [some (.v s.t)]=some (true,[some (.v s.t)]):=by
 cases s <;> simp[zC2,Sy.t,isiS,tyN,subTy]
theorem lw_i(rec:DF)(i:Int):zC2 rec [some (.v (iT i))]=some (false,[some (.v (iT i))]):=by
 simp[zC2,isiS,tyN,subTy]
theorem lw_e(rec:DF)(s:Sy)(m:Nat)(h:rec [.v s.t]=some (.v (iT (m:Int)),[])):zDh rec [some (.v s.t)]=some (.v (iT (m:Int)),[some (.v s.t)]):=by
 simp only[iT]at h ⊢
 simp[zDh,h]
theorem zGn:∀ (n:Nat) (s:Sy),s.down<=n->F_5 n [.v s.t]=some (.v (iT (s.wt:Int)),[]):=by
 intro n
 induction n with
 | zero=>intro s h; have:=s.down_pos; omega
 | succ n ih =>
  intro s h
  have g1:(1:Nat)<=sizeLine:=by decide
  have g2:(2:Nat)<=sizeLine:=by decide
  have g3:(3:Nat)<=sizeLine:=by decide
  have c12:∀ x:Int,CMul 12 x:=fun x=>.inl ⟨by decide,by decide⟩
  have c4:∀ x:Int,CMul 4 x:=fun x=>.inl ⟨by decide,by decide⟩
  have c2:∀ x:Int,CMul x 2:=fun x=>.inr ⟨by decide,by decide⟩
  have c8:∀ x:Int,CMul x 8:=fun x=>.inr ⟨by decide,by decide⟩
  have ea:∀ k:Sy,k.down<=n->zDh (F_5 n) [some (.v k.t)]=some (.v (.a (.int (k.wt:Int))),[some (.v k.t)]):=fun k hk=>lw_e _ k _ (ih k hk)
  have qi:=fun i:Int=>lw_i (F_5 n) i
  have qk:=lw_q (F_5 n)
  simp only[iT]at qi
  cases s with
  | yes=>simp[F_5,fnD,d_5,Sy.t,Sy.wt,cut1,zAN,gd,g1,g2,g3,inS,atomsOf,flatV,inV,eqV]
  | no=>simp[F_5,fnD,d_5,Sy.t,Sy.wt,cut1,zAN,gd,g1,g2,g3,inS,atomsOf,flatV,inV,eqV]
  | ask q=>simp[F_5,fnD,d_5,Sy.t,Sy.wt,cut1,zAQ,zAN,gd,g1,g2,g3,inS,atomsOf,flatV,inV,eqV,qi]
  | nt a =>
   have h1:=ea a (by simp only[Sy.down]at h; omega)
   simp[F_5,fnD,d_5,Sy.t,Sy.wt,cut1,zAQ,zAN,gd,g1,g2,g3,inS,atomsOf,flatV,inV,eqV,qk,h1]
  | an a b =>
   have h1:=ea a (by simp only[Sy.down]at h; omega)
   have h2:=ea b (by simp only[Sy.down]at h; omega)
   simp[F_5,fnD,d_5,Sy.t,Sy.wt,cut1,zAQ,zAN,gd,g1,g2,g3,inS,atomsOf,flatV,inV,eqV,qk,h1,h2,c2]
   omega
  | or a b =>
   have h1:=ea a (by simp only[Sy.down]at h; omega)
   have h2:=ea b (by simp only[Sy.down]at h; omega)
   simp[F_5,fnD,d_5,Sy.t,Sy.wt,cut1,zAQ,zAN,gd,g1,g2,g3,inS,atomsOf,flatV,inV,eqV,qk,h1,h2,c2]
   omega
  | ei a b =>
   have h1:=ea a (by simp only[Sy.down]at h; omega)
   have h2:=ea b (by simp only[Sy.down]at h; omega)
   simp[F_5,fnD,d_5,Sy.t,Sy.wt,cut1,zAQ,zAN,gd,g1,g2,g3,inS,atomsOf,flatV,inV,eqV,qk,h1,h2,c8]
   omega
  | mo a b c =>
   have h1:=ea a (by simp only[Sy.down]at h; omega)
   have h2:=ea b (by simp only[Sy.down]at h; omega)
   have h3:=ea c (by simp only[Sy.down]at h; omega)
   simp[F_5,fnD,d_5,Sy.t,Sy.wt,cut1,zAQ,zAN,gd,g1,g2,g3,inS,atomsOf,flatV,inV,eqV,qk,h1,h2,h3,c12,c4]
theorem lp_q(rec:DF)(s:Sy):zC3 rec [some (.v s.t)]=some (true,[some (.v s.t)]):=by
 cases s <;> simp[zC3,Sy.t,isiS,tyN,subTy]
theorem lp_i(rec:DF)(i:Int):zC3 rec [some (.v (iT i))]=some (false,[some (.v (iT i))]):=by
 simp[zC3,isiS,tyN,subTy]
theorem lp_e(rec:DF)(s:Sy)(m:Nat)(h:rec [.v s.t]=some (.v (iT (m:Int)),[])):zD1 rec [some (.v s.t)]=some (.v (iT (m:Int)),[some (.v s.t)]):=by
 simp only[iT]at h ⊢
 simp[zD1,h]
theorem zIl:∀ (n:Nat) (s:Sy),s.down<=n->F_1 n [.v s.t]=some (.v (iT (s.parts:Int)),[]):=by
 intro n
 induction n with
 | zero=>intro s h; have:=s.down_pos; omega
 | succ n ih =>
  intro s h
  have g1:(1:Nat)<=sizeLine:=by decide
  have g2:(2:Nat)<=sizeLine:=by decide
  have g3:(3:Nat)<=sizeLine:=by decide
  have ea:∀ k:Sy,k.down<=n->zD1 (F_1 n) [some (.v k.t)]=some (.v (.a (.int (k.parts:Int))),[some (.v k.t)]):=fun k hk=>lp_e _ k _ (ih k hk)
  have qi:=fun i:Int=>lp_i (F_1 n) i
  have qk:=lp_q (F_1 n)
  simp only[iT]at qi
  cases s with
  | yes=>simp[F_1,fnD,d_1,Sy.t,Sy.parts,cut1,zAN,gd,sumS,intsOf]
  | no=>simp[F_1,fnD,d_1,Sy.t,Sy.parts,cut1,zAN,gd,sumS,intsOf]
  | ask q=>simp[F_1,fnD,d_1,Sy.t,Sy.parts,cut1,zAQ,zAN,gd,g1,sumS,intsOf,qi]
  | nt a =>
   have h1:=ea a (by simp only[Sy.down]at h; omega)
   simp[F_1,fnD,d_1,Sy.t,Sy.parts,cut1,zAQ,zAN,gd,g1,sumS,intsOf,qk,h1]
  | an a b =>
   have h1:=ea a (by simp only[Sy.down]at h; omega)
   have h2:=ea b (by simp only[Sy.down]at h; omega)
   simp[F_1,fnD,d_1,Sy.t,Sy.parts,cut1,zAQ,zAN,gd,g1,g2,sumS,intsOf,qk,h1,h2]
   omega
  | or a b =>
   have h1:=ea a (by simp only[Sy.down]at h; omega)
   have h2:=ea b (by simp only[Sy.down]at h; omega)
   simp[F_1,fnD,d_1,Sy.t,Sy.parts,cut1,zAQ,zAN,gd,g1,g2,sumS,intsOf,qk,h1,h2]
   omega
  | ei a b =>
   have h1:=ea a (by simp only[Sy.down]at h; omega)
   have h2:=ea b (by simp only[Sy.down]at h; omega)
   simp[F_1,fnD,d_1,Sy.t,Sy.parts,cut1,zAQ,zAN,gd,g1,g2,sumS,intsOf,qk,h1,h2]
   omega
  | mo a b c =>
   have h1:=ea a (by simp only[Sy.down]at h; omega)
   have h2:=ea b (by simp only[Sy.down]at h; omega)
   have h3:=ea c (by simp only[Sy.down]at h; omega)
   simp[F_1,fnD,d_1,Sy.t,Sy.parts,cut1,zAQ,zAN,gd,g1,g2,g3,sumS,intsOf,qk,h1,h2,h3]
   omega
theorem zGY(q n dn:Nat)(ih:∀ (a b:Int) (most:Nat),1<=most->most<=1000->∃ (s:Sy) (a' b':Int),s.down<=max 1 (dn - 1)/\s.qs q/\F_4 n [.l [iT a,iT b],.v (iT (q:Int)),.v (iT (most:Int)),.v (iT ((dn - 1:Nat):Int))]=some (.v s.t,[iT a',iT b']))(a b:Int)(y:Nat)(h2:2<=y)(hy:y<=1000) :
  ∃ (k x:Nat) (s1 s2:Sy) (a1 b1 a2 b2 a3 b3:Int),(s1.down<=max 1 (dn - 1)/\s1.qs q/\s2.down<=max 1 (dn - 1)/\s2.qs q)/\(1:Int)+(k:Int)=(x:Int) /\
   F_7 [.l [.a (.int a),.a (.int b)],.v (.a (.int ((y:Int) - 1)))]=some (.v (.a (.int (k:Int))),[.a (.int a1),.a (.int b1)]) /\
   F_4 n [.l [.a (.int a1),.a (.int b1)],.v (.a (.int (q:Int))),.v (.a (.int (x:Int))),.v (.a (.int ((dn - 1:Nat):Int)))]=some (.v s1.t,[.a (.int a2),.a (.int b2)]) /\
   F_4 n [.l [.a (.int a2),.a (.int b2)],.v (.a (.int (q:Int))),.v (.a (.int ((y:Int) - (x:Int)))),.v (.a (.int ((dn - 1:Nat):Int)))]=some (.v s2.t,[.a (.int a3),.a (.int b3)]):=by
 obtain⟨k,a1,b1,hk,e1⟩:=zAu a b (y - 1) (by omega) (by omega)
 obtain⟨s1,a2,b2,u1,u2,e2⟩:=ih a1 b1 (1+k) (by omega) (by omega)
 obtain⟨s2,a3,b3,v1,v2,e3⟩:=ih a2 b2 (y - (1+k)) (by omega) (by omega)
 rw[show ((y - 1:Nat):Int)=(y:Int) - 1 by omega]at e1
 rw[show ((y - (1+k):Nat):Int)=(y:Int) - ((1+k:Nat):Int) by omega]at e3
 exact⟨k,1+k,s1,s2,a1,b1,a2,b2,a3,b3,⟨u1,u2,v1,v2⟩,by omega,e1,e2,e3⟩
theorem zHu(q:Nat)(hq0:0 < q)(hq:q<=100):∀ (n:Nat) (a b:Int) (most down:Nat),1<=n->down<=n->1<=most->most<=1000->∃ (s:Sy) (a' b':Int),s.down<=max 1 down/\s.qs q /\
  F_4 n [.l [iT a,iT b],.v (iT (q:Int)),.v (iT (most:Int)),.v (iT (down:Int))]=some (.v s.t,[iT a',iT b']):=by
 intro n
 induction n with
 | zero=>intro a b most down h; omega
 | succ n ih =>
  intro a b most down _ hd hm hm2
  obtain⟨f,a1,b1,hf,e1⟩:=zAu a b 8 (by decide) (by decide)
  have e1':F_7 [.l [iT a,iT b],.v (iT 8)]=some (.v (iT (f:Int)),[iT a1,iT b1]):=e1
  simp only[iT]at e1' ⊢
  clear e1
  by_cases leaf:most < 4\/down < 2\/f=0
  ·obtain⟨s,a2,b2,h1,h2,h3,e2⟩:=zEr q hq0 hq zBa a1 b1 1 1 (by decide) (by decide) (by decide) (by decide)
   have e2':F_2 zBa [.l [.a (.int a1),.a (.int b1)],.v (.a (.int (q:Int))),.v (.a (.int 1)),.v (.a (.int 1))]=some (.v s.t,[.a (.int a2),.a (.int b2)]):=e2
   refine⟨s,a2,b2,by omega,h3,?_⟩
   by_cases h1:(most:Int) < 4
   ·simp[F_4,fnD,d_4,e1',h1,e2']
   ·by_cases h2:(down:Int) < 2
    ·simp[F_4,fnD,d_4,e1',h1,h2,e2']
    ·have h3:f=0:=by omega
     simp[F_4,fnD,d_4,e1',h1,h2,h3,e2']
  ·have l1:¬ (most:Int) < 4:=by omega
   have l2:¬ (down:Int) < 2:=by omega
   have l3:¬ f=0:=by omega
   have c4:(down:Int) - 1=((down - 1:Nat):Int):=by omega
   by_cases one:f=1
   ·subst one
    obtain⟨s,a2,b2,h1,h2,e2⟩:=ih a1 b1 most (down - 1) (by omega) (by omega) hm hm2
    refine⟨.nt s,a2,b2,by simp only[Sy.down]; omega,h2,?_⟩
    simp only[iT,Sy.t]at e2 ⊢
    simp[F_4,fnD,d_4,e1',l1,l2,c4,e2]
   ·have o1:¬ (f:Int)=1:=by omega
    have ih':=fun a b mm h1 h2=>ih a b mm (down - 1) (by omega) (by omega) h1 h2
    have d2:CDiv (most:Int) 2:=⟨by decide,by decide⟩
    have d8:CDiv (most:Int) 8:=⟨by decide,by decide⟩
    obtain⟨w0,ew,hw0⟩:∃ w0:Str,atI [.a (.str "and"),.a (.str "or")] ((f:Int) % 2)=some (sT w0)/\(w0="and"\/w0="or"):=by
     have:f % 2=0\/f % 2=1:=by omega
     rcases this with h | h
     ·exact⟨"and",by rw[show (f:Int) % 2=((0:Nat):Int) by omega]; rfl,.inl rfl⟩
     ·exact⟨"or",by rw[show (f:Int) % 2=((1:Nat):Int) by omega]; rfl,.inr rfl⟩
    obtain⟨hh,ehh⟩:∃ hh:Nat,hh=most / 2:=⟨most / 2,rfl⟩
    obtain⟨hg,ehg⟩:∃ hg:Nat,hg=most / 8:=⟨most / 8,rfl⟩
    have m2:(most:Int) / 2=(hh:Int):=by omega
    have m8:(most:Int) / 8=(hg:Int):=by omega
    by_cases mst:f < 4/\most > 27
    ·obtain⟨z4,ez4⟩:∃ z4:Nat,z4=(most - 24) / 4:=⟨(most - 24) / 4,rfl⟩
     obtain⟨k,a2,b2,hk,e2⟩:=zAu a1 b1 z4 (by omega) (by omega)
     obtain⟨x,hx⟩:∃ x:Nat,x=1+k:=⟨1+k,rfl⟩
     have c1:(1:Int)+(k:Int)=(x:Int):=by omega
     have d4:∀ z:Int,CDiv z 4:=fun z=>⟨by decide,by decide⟩
     have d12:∀ z:Int,CDiv z 12:=fun z=>⟨by decide,by decide⟩
     have cm4:CMul 4 (x:Int):=.inl ⟨by decide,by decide⟩
     have m24:((most:Int) - 24) / 4=(z4:Int):=by omega
     obtain⟨y,hy⟩:∃ y:Nat,y=(most - 4 * x) / 12:=⟨_,rfl⟩
     have m12:((most:Int) - 4 * (x:Int)) / 12=(y:Int):=by omega
     obtain⟨s0,a3,b3,h01,h02,e3⟩:=ih' a2 b2 x (by omega) (by omega)
     obtain⟨k',x',s1,s2,a4,b4,a5,b5,a6,b6,⟨u1,u2,v1,v2⟩,c5,t1,t2,t3⟩:=zGY q n down ih' a3 b3 y (by omega) (by omega)
     refine⟨.mo s1 s2 s0,a6,b6,by simp only[Sy.down]; omega,⟨u2,v2,h02⟩,?_⟩
     have f4:(f:Int) < 4:=by omega
     have f4':¬ (f:Int)=4:=by omega
     have b27:(27:Int) < (most:Int):=by omega
     simp only[iT,Sy.t]at e2 e3 ⊢
     simp[F_4,fnD,d_4,e1',l1,l2,l3,o1,one,ew,d2,m2,f4,f4',b27,d4,m24,e2,c1,d12,cm4,m12,c4,e3,t1,c5,t2,t3]
    ·by_cases ei:f=4/\most > 15
     ·obtain⟨k',x',s1,s2,a4,b4,a5,b5,a6,b6,⟨u1,u2,v1,v2⟩,c5,t1,t2,t3⟩:=zGY q n down ih' a1 b1 hg (by omega) (by omega)
      refine⟨.ei s1 s2,a6,b6,by simp only[Sy.down]; omega,⟨u2,v2⟩,?_⟩
      obtain⟨rfl,h15⟩:=ei
      have b15:(15:Int) < (most:Int):=by omega
      simp only[Sy.t]
      have ew':atI [T.a (.str "and"),.a (.str "or")] 0=some (sT "and"):=rfl
      simp[F_4,fnD,d_4,e1',l1,l2,d2,m2,ew',b15,d8,m8,c4,t1,c5,t2,t3]
     ·obtain⟨k',x',s1,s2,a4,b4,a5,b5,a6,b6,⟨u1,u2,v1,v2⟩,c5,t1,t2,t3⟩:=zGY q n down ih' a1 b1 hh (by omega) (by omega)
      have go:F_4 (n+1) [.l [.a (.int a),.a (.int b)],.v (.a (.int (q:Int))),.v (.a (.int (most:Int))),.v (.a (.int (down:Int)))]=some (.v (.t [sT w0,s1.t,s2.t]),[.a (.int a6),.a (.int b6)]):=by
       by_cases f4:f=4
       ·have b15:¬ (15:Int) < (most:Int):=by omega
        have f4':(f:Int)=4:=by omega
        have f4'':¬ (f:Int) < 4:=by omega
        have z:atI [T.a (.str "and"),.a (.str "or")] ((4:Int) % 2)=some (sT "and"):=rfl
        rw[f4']at ew
        cases Option.some.inj (z.symm.trans ew)
        simp[F_4,fnD,d_4,e1',l1,l2,l3,o1,one,ew,d2,m2,f4',f4'',b15,c4,t1,c5,t2,t3]
       ·have f4':¬ (f:Int)=4:=by omega
        by_cases f3:(f:Int) < 4
        ·have b27:¬ (27:Int) < (most:Int):=by omega
         simp[F_4,fnD,d_4,e1',l1,l2,l3,o1,one,ew,d2,m2,f4,f4',f3,b27,c4,t1,c5,t2,t3]
        ·simp[F_4,fnD,d_4,e1',l1,l2,l3,o1,one,ew,d2,m2,f4,f4',f3,c4,t1,c5,t2,t3]
      rcases hw0 with rfl | rfl
      ·exact⟨.an s1 s2,a6,b6,by simp only[Sy.down]; omega,⟨u2,v2⟩,go⟩
      ·exact⟨.or s1 s2,a6,b6,by simp only[Sy.down]; omega,⟨u2,v2⟩,go⟩
structure ShD(d:PyData)(w dp:Nat):Prop where
 sh:d.showable=true
 nd:d.hasDict=false
 dp:d.depth<=dp
 ls:d.leavesShort 8=true
 wt:d.weight<=w
structure ShDs(ds:List PyData)(w dp:Nat):Prop where
 sh:PyData.showableAll ds=true
 nd:PyData.hasDictAll ds=false
 dp:PyData.depthAll ds<=dp
 ls:PyData.leavesShortAll 8 ds=true
 wt:PyData.weightAll ds<=w
theorem ShDs.nil{w dp:Nat}:ShDs [] w dp:=⟨rfl,rfl,Nat.zero_le _,rfl,Nat.zero_le _⟩
theorem ShDs.cons{d:PyData}{ds:List PyData}{w w' dp:Nat}(h:ShD d w dp)(hs:ShDs ds w' dp):ShDs (d::ds) (w+1+w') dp:=by
 refine⟨?_,?_,?_,?_,?_⟩
 ·simp only[PyData.showableAll,h.sh,hs.sh]; rfl
 ·simp only[PyData.hasDictAll,h.nd,hs.nd]; rfl
 ·simp only[PyData.depthAll]; exact Nat.max_le.mpr ⟨h.dp,hs.dp⟩
 ·simp only[PyData.leavesShortAll,h.ls,hs.ls]; rfl
 ·simp only[PyData.weightAll]; have:=h.wt; have:=hs.wt; omega
theorem ShD.tup{ds:List PyData}{w dp:Nat}(h:ShDs ds w dp):ShD (.tuple ds) w (dp+1):=by
 refine⟨?_,?_,?_,?_,?_⟩
 ·simp only[PyData.showable]; exact h.sh
 ·simp only[PyData.hasDict]; exact h.nd
 ·simp only[PyData.depth]; have:=h.dp; omega
 ·simp only[PyData.leavesShort]; exact h.ls
 ·simp only[PyData.weight]; exact h.wt
theorem ShD.mono{d:PyData}{w w' dp dp':Nat}(h:ShD d w dp)(h1:w<=w')(h2:dp<=dp'):ShD d w' dp':=⟨h.sh,h.nd,Nat.le_trans h.dp h2,h.ls,Nat.le_trans h.wt h1⟩
theorem ShDs.mono{d:List PyData}{w w' dp dp':Nat}(h:ShDs d w dp)(h1:w<=w')(h2:dp<=dp'):ShDs d w' dp':=⟨h.sh,h.nd,Nat.le_trans h.dp h2,h.ls,Nat.le_trans h.wt h1⟩
theorem ShD.word{x:Str}{dp:Nat}(h:(x.cps.toList.all fun c=>decide (c < 16 ^ 8))=true)(h2:x.cps.size<=6):ShD (.str x) 6 dp:=⟨rfl,rfl,by simp[PyData.depth],by simpa only [PyData.leavesShort] using h,by simpa only [PyData.weight] using h2⟩
theorem ShD.nat{k dp:Nat}(h:k < 10):ShD (.int (k:Int)) 6 dp:=by
 obtain⟨a,b,c⟩:=L2.small_show h
 exact⟨a,rfl,by simp[PyData.depth],b,by omega⟩
theorem zHQ{t:T}{d:PyData}{w dp:Nat}(e:toD t=some d)(h:ShD d w dp)(hd:dp<=100)(hw:w<=1000000)(Γ:En):reprS Γ [.v t]=some (.v (.a (.str d.shown))):=by
 rw[zG2,e,zPV,if_pos]
 exact⟨h.sh,h.nd,Nat.le_trans h.dp hd,PyData.shown_fits (B:=8) (by decide) (by decide) h.ls (Nat.le_trans h.wt (Nat.le_trans hw (by decide)))⟩
def Sy.d:Sy->PyData
 | .yes=>.tuple [.str "yes"]
 | .no=>.tuple [.str "no"]
 | .ask q=>.tuple [.str "ask",.int (q:Int)]
 | .nt a=>.tuple [.str "not",a.d]
 | .an a b=>.tuple [.str "and",a.d,b.d]
 | .or a b=>.tuple [.str "or",a.d,b.d]
 | .ei a b=>.tuple [.str "either",a.d,b.d]
 | .mo a b c=>.tuple [.str "most",a.d,b.d,c.d]
theorem Sy.toD:∀ s:Sy,D.toD s.t=some s.d
 | .yes=>by simp[Sy.t,Sy.d,D.toD,toDs,toDa]
 | .no=>by simp[Sy.t,Sy.d,D.toD,toDs,toDa]
 | .ask q=>by simp[Sy.t,Sy.d,D.toD,toDs,toDa]
 | .nt a=>by simp[Sy.t,Sy.d,D.toD,toDs,toDa,a.toD]
 | .an a b=>by simp[Sy.t,Sy.d,D.toD,toDs,toDa,a.toD,b.toD]
 | .or a b=>by simp[Sy.t,Sy.d,D.toD,toDs,toDa,a.toD,b.toD]
 | .ei a b=>by simp[Sy.t,Sy.d,D.toD,toDs,toDa,a.toD,b.toD]
 | .mo a b c=>by simp[Sy.t,Sy.d,D.toD,toDs,toDa,a.toD,b.toD,c.toD]
theorem Sy.head(s:Sy)(h:s.kids≠[]):∃ w:Str,s.t=.t (sT w::s.kids.map Sy.t):=by
 cases s with
 | yes=>exact absurd rfl h
 | no=>exact absurd rfl h
 | ask q=>exact absurd rfl h
 | nt a=>exact⟨_,rfl⟩
 | an a b=>exact⟨_,rfl⟩
 | or a b=>exact⟨_,rfl⟩
 | ei a b=>exact⟨_,rfl⟩
 | mo a b c=>exact⟨_,rfl⟩
theorem Sy.leaf(s:Sy)(h:s.kids=[]):s.wt=1/\s.parts=1:=by
 cases s with
 | yes=>exact⟨rfl,rfl⟩
 | no=>exact⟨rfl,rfl⟩
 | ask q=>exact⟨rfl,rfl⟩
 | nt a=>cases h
 | an a b=>cases h
 | or a b=>cases h
 | ei a b=>cases h
 | mo a b c=>cases h
theorem Sy.kid{q:Nat}{s k:Sy}(h:k∈s.kids):k.down < s.down/\(s.qs q->k.qs q):=by
 cases s with
 | yes=>cases h
 | no=>cases h
 | ask q=>cases h
 | nt a =>
  simp only[Sy.kids,List.mem_cons,List.not_mem_nil,or_false]at h
  subst h
  exact⟨by simp only[Sy.down]; omega,fun z=>z⟩
 | an a b =>
  simp only[Sy.kids,List.mem_cons,List.not_mem_nil,or_false]at h
  rcases h with rfl | rfl
  ·exact⟨by simp only[Sy.down]; omega,fun z=>z.1⟩
  ·exact⟨by simp only[Sy.down]; omega,fun z=>z.2⟩
 | or a b =>
  simp only[Sy.kids,List.mem_cons,List.not_mem_nil,or_false]at h
  rcases h with rfl | rfl
  ·exact⟨by simp only[Sy.down]; omega,fun z=>z.1⟩
  ·exact⟨by simp only[Sy.down]; omega,fun z=>z.2⟩
 | ei a b =>
  simp only[Sy.kids,List.mem_cons,List.not_mem_nil,or_false]at h
  rcases h with rfl | rfl
  ·exact⟨by simp only[Sy.down]; omega,fun z=>z.1⟩
  ·exact⟨by simp only[Sy.down]; omega,fun z=>z.2⟩
 | mo a b c =>
  simp only[Sy.kids,List.mem_cons,List.not_mem_nil,or_false]at h
  rcases h with rfl | rfl | rfl
  ·exact⟨by simp only[Sy.down]; omega,fun z=>z.1⟩
  ·exact⟨by simp only[Sy.down]; omega,fun z=>z.2.1⟩
  ·exact⟨by simp only[Sy.down]; omega,fun z=>z.2.2⟩
theorem Sy.kids3(s:Sy):s.kids.length<=3:=by cases s <;> simp[Sy.kids]
theorem zDi(q room most:Nat)(h1:1<=room)(h2:1<=most):∀ (m:Nat) (s:Sy) (a b:Int) (fuel:Nat),s.down<=m->s.down<=12->m < fuel->s.qs q->∃ (s':Sy) (a' b':Int),s'.down<=s.down/\s'.qs q/\s'.wt<=most/\s'.parts<=room /\
  dWhile zCX zDl fuel [some (.l [iT a,iT b]),some (.v (iT (q:Int))),some (.v (iT (room:Int))),some (.v (iT (most:Int))),some (.v s.t)]=some (.nx [some (.l [iT a',iT b']),some (.v (iT (q:Int))),some (.v (iT (room:Int))),some (.v (iT (most:Int))),some (.v s'.t)]):=by
 intro m
 induction m with
 | zero=>intro s a b fuel h; have:=s.down_pos; omega
 | succ m ih =>
  intro s a b fuel hd h12 hf hq
  obtain⟨f,rfl⟩:∃ f,fuel=f+1:=⟨fuel - 1,by omega⟩
  have ew:=zGn zD6 s h12
  have ep:=zIl zDp s h12
  by_cases c:s.wt > most\/s.parts > room
  ·have hk:s.kids≠[]:=fun z=>by have:=s.leaf z; omega
   obtain⟨w,et⟩:=s.head hk
   obtain⟨j,a1,b1,hj,e1⟩:=zAu a b s.kids.length (List.length_pos_iff.mpr hk) (by have:=s.kids3; omega)
   obtain⟨k,ek⟩:∃ k,s.kids[j]?=some k:=⟨s.kids[j],by simp[hj]⟩
   have hm:k∈s.kids:=List.mem_of_getElem? ek
   obtain⟨kd,kq⟩:=Sy.kid (q:=q) hm
   obtain⟨s',a',b',u1,u2,u3,u4,e2⟩:=ih k a1 b1 f (by omega) (by omega) (by omega) (kq hq)
   refine⟨s',a',b',by omega,u2,u3,u4,?_⟩
   rw[← e2,zAy]
   have test:zCX [some (.l [iT a,iT b]),some (.v (iT (q:Int))),some (.v (iT (room:Int))),some (.v (iT (most:Int))),some (.v s.t)]=some (true,[some (.l [iT a,iT b]),some (.v (iT (q:Int))),some (.v (iT (room:Int))),some (.v (iT (most:Int))),some (.v s.t)]):=by
    simp only[iT]at ew ep ⊢
    by_cases c1:s.wt > most
    ·have:(most:Int) < (s.wt:Int):=by omega
     simp[zCX,ew,this]
    ·have c1':¬ (most:Int) < (s.wt:Int):=by omega
     have:(room:Int) < (s.parts:Int):=by omega
     simp[zCX,ew,ep,c1',this]
   have body:zDl [some (.l [iT a,iT b]),some (.v (iT (q:Int))),some (.v (iT (room:Int))),some (.v (iT (most:Int))),some (.v s.t)]=some (.nx [some (.l [iT a1,iT b1]),some (.v (iT (q:Int))),some (.v (iT (room:Int))),some (.v (iT (most:Int))),some (.v k.t)]):=by
    simp only[iT]at e1 ⊢
    have el:((s.kids.map Sy.t).length+1:Nat)=s.kids.length+1:=by simp
    have ei:atI (sT w::s.kids.map Sy.t) (1+(j:Int))=some k.t:=by
     rw[show (1:Int)+(j:Int)=((j+1:Nat):Int) by omega,zA2]
     simp[ek]
    rw[et]
    simp only[sT]at ei ⊢
    simp[zDl,e1,ei]
   rw[test,Option.bind_some,if_pos rfl,body,Option.bind_some]
  ·have c1:¬ (most:Int) < (s.wt:Int):=by omega
   have c2:¬ (room:Int) < (s.parts:Int):=by omega
   refine⟨s,a,b,Nat.le_refl _,hq,by omega,by omega,?_⟩
   rw[zAy]
   simp only[iT]at ew ep ⊢
   simp[zCX,ew,ep,c1,c2]
theorem zLZ(q room most:Nat)(hq0:0 < q)(hq:q<=100)(h1:1<=room)(h1':room<=1000)(h2:1<=most)(h2':most<=1000)(a b:Int):∃ (s:Sy) (a' b':Int),s.down<=6/\s.qs q/\s.wt<=most/\s.parts<=room /\
  F_8 [.l [iT a,iT b],.v (iT (q:Int)),.v (iT (room:Int)),.v (iT (most:Int))]=some (.v s.t,[iT a',iT b']):=by
 obtain⟨s,a1,b1,u1,u2,u3,e1⟩:=zEr q hq0 hq zBa a b room 5 (by decide) (by decide) h1 h1'
 obtain⟨c,a2,b2,hc,e2⟩:=zAu a1 b1 2 (by decide) (by decide)
 have e1':F_2 zBa [.l [.a (.int a),.a (.int b)],.v (.a (.int (q:Int))),.v (.a (.int (room:Int))),.v (.a (.int 5))]=some (.v s.t,[.a (.int a1),.a (.int b1)]):=e1
 have e2':F_7 [.l [.a (.int a1),.a (.int b1)],.v (.a (.int 2))]=some (.v (.a (.int (c:Int))),[.a (.int a2),.a (.int b2)]):=e2
 by_cases c0:c=0
 ·obtain⟨s2,a3,b3,v1,v2,e3⟩:=zHu q hq0 hq zDB a2 b2 most 5 (by decide) (by decide) h2 h2'
  have e3':F_4 zDB [.l [.a (.int a2),.a (.int b2)],.v (.a (.int (q:Int))),.v (.a (.int (most:Int))),.v (.a (.int 5))]=some (.v s2.t,[.a (.int a3),.a (.int b3)]):=e3
  obtain⟨s',a',b',w1,w2,w3,w4,e4⟩:=zDi q room most h1 h2 12 s2 a3 b3 fuelX (by omega) (by omega) (by rw[zCd]; omega) v2
  refine⟨s',a',b',by omega,w2,w3,w4,?_⟩
  simp only[iT]at e4
  simp[F_8,fnD,d_8,e1',e2',c0,e3',e4]
 ·obtain⟨s',a',b',w1,w2,w3,w4,e4⟩:=zDi q room most h1 h2 12 s a2 b2 fuelX (by omega) (by omega) (by rw[zCd]; omega) u3
  refine⟨s',a',b',by omega,w2,w3,w4,?_⟩
  simp only[iT]at e4
  simp[F_8,fnD,d_8,e1',e2',c0,e4]
theorem zAn:∀ s:Sy,s.spell.down<=7 * s.down
 | .yes=>by simp[Sy.spell,Sy.down]
 | .no=>by simp[Sy.spell,Sy.down]
 | .ask _=>by simp[Sy.spell,Sy.down]
 | .nt a=>by have:=zAn a; simp only[Sy.spell,Sy.down]; omega
 | .an a b=>by have:=zAn a; have:=zAn b; simp only[Sy.spell,Sy.down]; omega
 | .or a b=>by have:=zAn a; have:=zAn b; simp only[Sy.spell,orS,Sy.down]; omega
 | .ei a b=>by have:=zAn a; have:=zAn b; simp only[Sy.spell,orS,Sy.down]; omega
 | .mo a b c=>by have:=zAn a; have:=zAn b; have:=zAn c; simp only[Sy.spell,orS,Sy.down]; omega
theorem zAk:∀ s:Sy,s.spell.spell=s.spell
 | .yes=>rfl
 | .no=>rfl
 | .ask _=>rfl
 | .nt a=>by simp[Sy.spell,zAk a]
 | .an a b=>by simp[Sy.spell,zAk a,zAk b]
 | .or a b=>by simp[Sy.spell,orS,zAk a,zAk b]
 | .ei a b=>by simp[Sy.spell,orS,zAk a,zAk b]
 | .mo a b c=>by simp[Sy.spell,orS,zAk a,zAk b,zAk c]
def allL(n:Nat):Nat->List (List Nat)
 | 0=>[[]]
 | m+1=>(allL n m).flatMap fun r=>(List.range n).map fun k=>k::r
theorem zGF{n:Nat}:∀ {t:List Nat},(∀ k∈t,k < n)->t∈allL n t.length
 | [],_=>List.mem_singleton.mpr rfl
 | k::r,h=>List.mem_flatMap.mpr ⟨r,zGF fun x hx=>h x (List.mem_cons_of_mem _ hx),List.mem_map.mpr ⟨k,List.mem_range.mpr (h k List.mem_cons_self),rfl⟩⟩
def ndB:List Nat->Bool
 | []=>true
 | k::r=>!(r.contains k) && ndB r
theorem zKQ:∀ {t:List Nat},t.Nodup->ndB t=true
 | [],_=>rfl
 | k::r,h=>by
  have h':=List.nodup_cons.mp h
  simp[ndB,h'.1,zKQ h'.2]
def turns(n:Nat):List (List Nat):=(allL n n).filter ndB
theorem zC5{n:Nat}{t:List Nat}(h:IsT n t):t∈turns n:=by
 refine List.mem_filter.mpr ⟨?_,zKQ h.nd⟩
 have:=zGF h.lt
 rw[h.len]at this
 exact this
def isTr:Option (G×List T)->Bool
 | some (.v (.a (.bl true)),[])=>true
 | _=>false
theorem zEW:∀ {x:Option (G×List T)},isTr x=true->x=some (.v (.a (.bl true)),[])
 | some (.v (.a (.bl true)),[]),_=>rfl
def ringF(row:List Nat)(m:Nat):List (Nat×Nat)->List Nat->List Nat
 | [],f=>f
 | (p,k)::r,f=>ringF row m r (f.set p (row.getD ((k+1) % m) 0))
def ringOf(n:Nat)(row:List Nat):List Nat:=ringF row n row.zipIdx (List.replicate n 0)
def isTb(n:Nat)(t:List Nat):Bool:=t.length == n && (t.all fun k=>decide (k < n)) && ndB t
theorem zKH:∀ {t:List Nat},ndB t=true->t.Nodup
 | [],_=>List.nodup_nil
 | k::r,h=>by
  simp only[ndB,Bool.and_eq_true,Bool.not_eq_true']at h
  refine List.nodup_cons.mpr ⟨fun hm=>?_,zKH h.2⟩
  have:r.contains k=true:=by simpa using hm
  rw[h.1]at this; cases this
theorem zHB{n:Nat}{t:List Nat}(h:isTb n t=true):IsT n t:=by
 simp only[isTb,Bool.and_eq_true,beq_iff_eq,List.all_eq_true,decide_eq_true_eq]at h
 exact⟨h.1.1,h.1.2,zKH h.2⟩
theorem zKr:([3,4,5].all fun n=>(turns n).all fun row=>isTb n (ringOf n row) || row.getD 0 0 != 0)=true:=by decide +kernel
theorem zK4(t:List Nat):enumT (tvT t)=(t.zipIdx 0).map fun q=>.t [iT (q.2:Int),iT (q.1:Int)]:=by
 unfold enumT
 simp[List.zipIdx_map,Function.comp_def]
theorem zJf:∀ (m:Nat) (ls fs:List Nat) (a b n:Int) (o4 o5 o6:Option G) (fuel:Nat),ls.length=m->m < fuel->ls.length+fs.length<=5->∃ fs' a' b',(fs'.Perm (fs++ls)/\(fs≠[]->fs'.getD 0 0=fs.getD 0 0)) /\
  dWhile zCY zDE fuel [some (.l [iT a,iT b]),some (.v (iT n)),some (.l (tvT ls)),some (.l (tvT fs)),o4,o5,o6]=some (.nx [some (.l [iT a',iT b']),some (.v (iT n)),some (.l []),some (.l (tvT fs')),o4,o5,o6]):=by
 intro m
 induction m with
 | zero =>
  intro ls fs a b n o4 o5 o6 fuel hl hf h5
  obtain rfl:ls=[]:=List.length_eq_zero_iff.mp hl
  obtain⟨f,rfl⟩:∃ f,fuel=f+1:=⟨fuel - 1,by omega⟩
  exact⟨fs,a,b,⟨by simp,fun _=>rfl⟩,by rw[zAy]; simp[zCY]⟩
 | succ m ih =>
  intro ls fs a b n o4 o5 o6 fuel hl hf h5
  obtain⟨f,rfl⟩:∃ f,fuel=f+1:=⟨fuel - 1,by omega⟩
  obtain⟨r,a',b',hr,e⟩:=zAu a b ls.length (by omega) (by omega)
  obtain⟨z,hz⟩:∃ z,ls[r]?=some z:=⟨ls[r],by simp[hr]⟩
  obtain⟨fs',a2,b2,⟨hp,hh⟩,e2⟩:=ih (ls.eraseIdx r) (fs++[z]) a' b' n o4 o5 o6 f (by rw[List.length_eraseIdx_of_lt hr]; omega) (by omega) (by rw[List.length_eraseIdx_of_lt hr]; simp; omega)
  refine⟨fs',a2,b2,⟨hp.trans (zHW hz),fun h0=>?_⟩,?_⟩
  ·rw[hh (by simp)]
   cases fs with
   | nil=>exact absurd rfl h0
   | cons x r=>rfl
  rw[← e2,zAy]
  have hpos:(0:Int) < ls.length:=by omega
  have hb:inR 9223372036854775807 (r:Int)=true:=zCP (by omega)
  have g1:ls.length<=sizeLine:=zAZ (by omega)
  have g2:fs.length<=sizeLine:=zAZ (by omega)
  have g3:fs.length < sizeLine:=zNZ (by omega)
  simp[zCY,zDE,hpos,e,hb,zGC hr,hz,gd,g1,g2,g3,show 0 < ls.length by omega,zI6]
theorem zLW(n:Nat)(row:List Nat)(hn:0 < n)(hrow:row.length=n)(b0 b2:Option G):∀ (its:List (Nat×Nat)) (f:List Nat) (o5 o6:Option G),(∀ q∈its,q.1 < f.length/\q.2 < 100)->∃ o5' o6',
  forD (gdTup 2 (gdCons (gdName 5) (gdCons (gdName 6) gdNil))) zEH (its.map fun q=>.t [iT (q.2:Int),iT (q.1:Int)]) [b0,some (.v (iT (n:Int))),b2,some (.r (tvT row)),some (.l (tvT f)),o5,o6] =
   some (.nx [b0,some (.v (iT (n:Int))),b2,some (.r (tvT row)),some (.l (tvT (ringF row n its f))),o5',o6']):=by
 intro its
 induction its with
 | nil=>intro f o5 o6 _; exact⟨o5,o6,by rw[List.map_nil,zGR]; rfl⟩
 | cons q r ih =>
  intro f o5 o6 h
  obtain⟨p,k⟩:=q
  have h1:=h (p,k) List.mem_cons_self
  have hm:(k+1) % n < n:=Nat.mod_lt _ hn
  have h2:atI (tvT row) (((k:Int)+1) % (n:Int))=some (iT ((row.getD ((k+1) % n) 0:Nat):Int)):=by
   have e:((k:Int)+1) % (n:Int)=(((k+1) % n:Nat):Int):=by simp
   rw[e]
   refine zFk ?_
   rw[List.getD_eq_getElem?_getD,List.getElem?_eq_getElem (by omega)]; rfl
  have hn':(0:Int) < (n:Int):=by omega
  have h3:ixN f.length (p:Int)=some p:=zHP h1.1
  obtain⟨o5',o6',e⟩:=ih (f.set p (row.getD ((k+1) % n) 0)) (some (.v (iT (k:Int)))) (some (.v (iT (p:Int)))) (fun q hq=>by have:=h q (List.mem_cons_of_mem _ hq); simpa using this)
  refine⟨o5',o6',?_⟩
  rw[List.map_cons,zCu]
  have hs:(tvT f).set p (iT ((row.getD ((k+1) % n) 0:Nat):Int))=tvT (f.set p (row.getD ((k+1) % n) 0)):=by simp[tvT,List.map_set]
  have h3':ixN (tvT f).length (p:Int)=some p:=by simpa using h3
  simp only[ringF]
  rw[← e,← hs]
  generalize row.getD ((k+1) % n) 0=z at *
  generalize tvT row=RR at *
  generalize tvT f=FF at *
  simp only[iT]at h2 ⊢
  simp[zEH,hn',hn,h2,h3']
theorem zMi(a b:Int)(n:Nat)(h3:3<=n)(hn:n<=5):∃ row a' b',IsT n (ringOf n row)/\row.Perm (List.range n)/\row.getD 0 0=0/\F_56 [.l [iT a,iT b],.v (iT (n:Int))]=some (.v (tuT (ringOf n row)),[iT a',iT b']):=by
 obtain⟨row,a',b',⟨hp,hh⟩,e⟩:=zJf (n - 1) ((List.range' 1 (n - 1))) [0] a b n none none none fuelX (by simp) (by rw[zCd]; omega) (by simp; omega)
 have hpr:row.Perm (List.range n):=by
  have e0:[0]++List.range' 1 (n - 1)=List.range n:=by
   obtain⟨m,rfl⟩:∃ m,n=m+1:=⟨n - 1,by omega⟩
   rw[List.range_eq_range',List.range'_succ]
   simp
  rw[← e0]; exact hp
 have hrt:=zDO hpr
 have h0:=hh (by simp)
 have hT:IsT n (ringOf n row):=by
  have:=List.all_eq_true.mp zKr n (by simp; omega)
  have:=List.all_eq_true.mp this row (zC5 hrt)
  simp only[Bool.or_eq_true,bne_iff_ne,ne_eq]at this
  rcases this with z | z
  ·exact zHB z
  ·exact absurd h0 z
 refine⟨row,a',b',hT,hpr,h0,?_⟩
 obtain⟨o5,o6,e2⟩:=zLW n row (by omega) hrt.len (some (.l [iT a',iT b'])) (some (.l [])) row.zipIdx (List.replicate n 0) none none (fun q hq=>by
  have h:=List.mem_zipIdx hq
  have hl:=hrt.len
  refine⟨?_,by omega⟩
  have:q.1∈row:=by rw[h.2.2]; exact List.getElem_mem _
  simpa using hrt.lt _ this)
 have r1:rngS [.v (.a (.int 1)),.v (.a (.int (n:Int)))]=some (rngT 1 (n - 1)):=zJo 1 n (by omega) (by omega)
 have r2:rngT 1 (n - 1)=tvT (List.range' 1 (n - 1)):=by
  simp[rngT,List.range'_eq_map_range,Function.comp_def]
 have m1:∀ Γ,mulS Γ (.l [.a (.int 0)]) (.v (.a (.int (n:Int))))=some (.l (tvT (List.replicate n 0))):=fun Γ=>by
  rw[zLJ [.a (.int 0)] n (by simp; omega) (by omega)]
  congr 2
  simp[tvT]
 have g1:(1:Nat)<=sizeLine:=by decide
 have gl:(tvT row).length<=sizeLine:=zAZ (by simp[hrt.len]; omega)
 have en:dEnum (jW (jV 3) qQ) [some (.l [iT a',iT b']),some (.v (iT (n:Int))),some (.l []),some (.l (tvT row)),some (.l (tvT (List.replicate n 0))),none,none]=some (((row.zipIdx 0).map fun q=>.t [iT (q.2:Int),iT (q.1:Int)],[3]),[some (.l [iT a',iT b']),some (.v (iT (n:Int))),some (.l []),some (.l (tvT row)),some (.l (tvT (List.replicate n 0))),none,none]):=by
  rw[← zK4]
  generalize tvT row=RR at *
  simp[dEnum,gd,gl]
 unfold ringOf
 simp only[tvT,List.map_cons,List.map_nil,iT,Int.ofNat_zero]at e
 have e':dWhile zCY zDE fuelX [some (.l [iT a,iT b]),some (.v (iT (n:Int))),some (.l (tvT (List.range' 1 (n - 1)))),some (.l [.a (.int 0)]),none,none,none]=some (.nx [some (.l [iT a',iT b']),some (.v (iT (n:Int))),some (.l []),some (.l (tvT row)),none,none,none]):=e
 rw[← r2]at e'
 generalize (row.zipIdx 0).map (fun q=>T.t [iT (q.2:Int),iT (q.1:Int)])=EE at *
 simp only[tuT]
 generalize tvT (ringF row n row.zipIdx (List.replicate n 0))=Z at *
 generalize tvT (List.replicate n 0)=R0 at *
 generalize tvT row=RR at *
 simp only[iT]at *
 simp[F_56,fnD,d_56,r1,gd,g1,e',m1,en,frz1,e2]
def rings5:List (List Nat):=[[1,2,3,4,0],[1,2,4,0,3],[1,3,4,2,0],[1,3,0,4,2],[1,4,3,0,2],[1,4,0,2,3],[2,3,1,4,0],[2,4,1,0,3],[2,4,3,1,0],[2,0,3,4,1],[2,3,4,0,1],[2,0,4,1,3],[3,2,4,1,0],[3,4,0,1,2],[3,4,1,2,0],[3,0,4,2,1],[3,2,0,4,1],[3,0,1,4,2],[4,2,3,0,1],[4,3,0,2,1],[4,3,1,0,2],[4,0,3,1,2],[4,2,0,1,3],[4,0,1,2,3]]
def invs:List Nat->Nat
 | []=>0
 | k::r=>(r.filter fun x=>decide (x < k)).length+invs r
def evB(t:List Nat):Bool:=invs t % 2 == 0
def natsT':List T->Option (List Nat)
 | []=>some []
 | .a (.int n)::r=>if 0<=n then (natsT' r).map fun ks=>n.toNat::ks else none
 | _=>none
theorem natsT'_eq:∀ {ts:List T} {ks:List Nat},natsT' ts=some ks->ts=tvT ks
 | [],ks,e=>by cases e; rfl
 | t::r,ks,e=>by
  unfold natsT' at e
  split at e
  ·rename_i h; cases h
  ·rename_i n r' h
   cases h
   split at e
   ·rename_i h0
    obtain⟨ms,e1,e⟩:=zAH e
    subst e
    rw[natsT'_eq e1]
    simp[tvT]; omega
   ·cases e
  ·cases e
noncomputable def apO (r:List Nat):Option (List Nat×List Nat):=match F_20 [.v (tuT r)] with
 | some (.v (.t [.t as,.t bs]),[])=>(natsT' as).bind fun a=>(natsT' bs).map fun b=>(a,b)
 | _=>none
noncomputable def apL (r:List Nat):List Nat×List Nat:=(apO r).getD ([],[])
theorem zNh{r:List Nat}{p:List Nat×List Nat}(h:apO r=some p):F_20 [.v (tuT r)]=some (.v (.t [tuT p.1,tuT p.2]),[]):=by
 unfold apO at h
 split at h
 ·rename_i as bs e
  obtain⟨a,e1,h⟩:=bind_some h
  obtain⟨b,e2,h⟩:=zAH h
  subst h
  rw[e,natsT'_eq e1,natsT'_eq e2]
 ·cases h
noncomputable def chkA (r:List Nat):Bool:=match apO r with
 | some (a,b)=>rings5.contains a && rings5.contains b && (thenL (thenL a b) (thenL (backL a) (backL b)) == r)
 | none=>false
theorem allA5:rings5.all chkA=true:=by decide +kernel
theorem allB5:(rings5.all fun r=>rings5.contains (backL r) && isTb 5 r && evB r && isTr (F_13 [.v (tuT r)]))=true:=by decide +kernel
theorem allR5:((turns 5).all fun row=>row.getD 0 0 != 0 || rings5.contains (ringOf 5 row))=true:=by decide +kernel
theorem allC5:((turns 5).all fun t=>!evB t || rings5.all fun r=>evB (thenL t r))=true:=by decide +kernel
structure Rg(r:List Nat):Prop where
 mem:r∈rings5
theorem Rg.facts{r:List Nat}(h:Rg r):Rg (backL r)/\IsT 5 r/\evB r=true/\F_13 [.v (tuT r)]=some (.v (.a (.bl true)),[]):=by
 have:=List.all_eq_true.mp allB5 r h.mem
 simp only[Bool.and_eq_true]at this
 exact⟨⟨by simpa using this.1.1.1⟩,zHB this.1.1.2,this.1.2,zEW this.2⟩
theorem Rg.isT{r:List Nat}(h:Rg r):IsT 5 r:=h.facts.2.1
theorem Rg.back{r:List Nat}(h:Rg r):Rg (backL r):=h.facts.1
theorem Rg.ap{r:List Nat}(h:Rg r):F_20 [.v (tuT r)]=some (.v (.t [tuT (apL r).1,tuT (apL r).2]),[])/\Rg (apL r).1/\Rg (apL r).2/\thenL (thenL (apL r).1 (apL r).2) (thenL (backL (apL r).1) (backL (apL r).2))=r:=by
 have:=List.all_eq_true.mp allA5 r h.mem
 unfold chkA at this
 unfold apL
 split at this
 ·rename_i a b e
  simp only[Bool.and_eq_true]at this
  rw[e,Option.getD_some]
  exact⟨zNh e,⟨by simpa using this.1.1⟩,⟨by simpa using this.1.2⟩,by simpa using this.2⟩
 ·cases this
structure Ev(t:List Nat):Prop where
 isT:IsT 5 t
 ev:evB t=true
theorem Rg.even{r:List Nat}(h:Rg r):Ev r:=⟨h.isT,h.facts.2.2.1⟩
theorem zDX:Ev (List.range 5):=⟨zJh 5,by decide⟩
theorem Ev.then{t r:List Nat}(h:Ev t)(hr:Rg r):Ev (thenL t r):=by
 refine⟨zBH h.isT hr.isT,?_⟩
 have:=List.all_eq_true.mp allC5 t (zC5 h.isT)
 rw[h.ev]at this
 exact List.all_eq_true.mp (by simpa using this) r hr.mem
theorem zHg{α:Type}{a b:List α}(hl:a.length=b.length)(h:∀ i,i < a.length->a[i]?=b[i]?):a=b:=by
 apply List.ext_getElem?
 intro i
 by_cases hi:i < a.length
 ·exact h i hi
 ·rw[List.getElem?_eq_none (by omega),List.getElem?_eq_none (by omega)]
theorem zBK(a b:List Nat):(thenL a b).length=a.length:=by simp[thenL]
theorem zDN{n:Nat}{a b c:List Nat}(ha:IsT n a)(hb:IsT n b)(hc:IsT n c):thenL (thenL a b) c=thenL a (thenL b c):=by
 refine zHg (by simp[zBK]) fun i hi=>?_
 have hi':i < n:=by rw[zBK,zBK,ha.len]at hi; exact hi
 obtain⟨k,e1,k1⟩:=ha.get hi'
 obtain⟨m,e2,m1⟩:=hb.get k1
 obtain⟨z,e3,z1⟩:=hc.get m1
 rw[zBo (zBo e1 e2) e3,zBo e1 (zBo e2 e3)]
theorem zGE{n i:Nat}(h:i < n):(List.range n)[i]?=some i:=by simp[h]
theorem zDS{n:Nat}{a:List Nat}(ha:IsT n a):thenL a (List.range n)=a:=by
 refine zHg (by simp[zBK]) fun i hi=>?_
 have hi':i < n:=by rw[zBK,ha.len]at hi; exact hi
 obtain⟨k,e1,k1⟩:=ha.get hi'
 rw[zBo e1 (zGE k1),e1]
theorem zHe{n:Nat}{a:List Nat}(ha:IsT n a):thenL a (backL a)=List.range n:=by
 refine zHg (by simp[zBK,ha.len]) fun i hi=>?_
 have hi':i < n:=by rw[zBK,ha.len]at hi; exact hi
 obtain⟨k,e1,k1⟩:=ha.get hi'
 rw[zBo e1 (zKm (by rw[ha.len]; exact k1)),zCx ha e1,zGE hi']
def lastF(st:List Stp)(t:List Nat):List Stp:=match st.getLast? with
 | some s=>st.dropLast++[(s.1,thenL s.2.1 t,thenL s.2.2 t)]
 | none=>[]
noncomputable def Sy.steps:Sy->List Nat->List Stp
 | .yes,r=>[(0,r,r)]
 | .no,_=>[(0,List.range 5,List.range 5)]
 | .ask q,r=>[(q,r,List.range 5)]
 | .nt a,r=>lastF (a.steps (backL r)) r
 | .an a b,r=>a.steps (apL r).1++b.steps (apL r).2++a.steps (backL (apL r).1)++b.steps (backL (apL r).2)
 | _,_=>[]
def Sy.plain:Sy->Prop
 | .yes=>True
 | .no=>True
 | .ask _=>True
 | .nt a=>a.plain
 | .an a b=>a.plain/\b.plain
 | _=>False
theorem zAX:∀ s:Sy,s.spell.plain
 | .yes=>trivial
 | .no=>trivial
 | .ask _=>trivial
 | .nt a=>zAX a
 | .an a b=>⟨zAX a,zAX b⟩
 | .or a b=>⟨zAX a,zAX b⟩
 | .ei a b=>⟨⟨zAX a,zAX b⟩,⟨zAX a,zAX b⟩⟩
 | .mo a b c=>⟨⟨zAX a,zAX b⟩,⟨zAX c,⟨zAX a,zAX b⟩⟩⟩
theorem zAr:∀ s:Sy,s.spell.wt=s.wt
 | .yes=>rfl
 | .no=>rfl
 | .ask _=>rfl
 | .nt a=>by have:=zAr a; simp only[Sy.spell,Sy.wt]; try omega
 | .an a b=>by have:=zAr a; have:=zAr b; simp only[Sy.spell,Sy.wt]; try omega
 | .or a b=>by have:=zAr a; have:=zAr b; simp only[Sy.spell,orS,Sy.wt]; try omega
 | .ei a b=>by have:=zAr a; have:=zAr b; simp only[Sy.spell,orS,Sy.wt]; try omega
 | .mo a b c=>by have:=zAr a; have:=zAr b; have:=zAr c; simp only[Sy.spell,orS,Sy.wt]; try omega
theorem zAj{q:Nat}:∀ s:Sy,s.qs q->s.spell.qs q
 | .yes,_=>trivial
 | .no,_=>trivial
 | .ask _,h=>h
 | .nt a,h=>zAj a h
 | .an a b,h=>⟨zAj a h.1,zAj b h.2⟩
 | .or a b,h=>⟨zAj a h.1,zAj b h.2⟩
 | .ei a b,h=>⟨⟨zAj a h.1,zAj b h.2⟩,⟨zAj a h.1,zAj b h.2⟩⟩
 | .mo a b c,h=>⟨⟨zAj a h.1,zAj b h.2.1⟩,⟨zAj c h.2.2,⟨zAj a h.1,zAj b h.2.1⟩⟩⟩
theorem zBv{st:List Stp}{t:List Nat}:(lastF st t).length=st.length:=by
 unfold lastF
 cases h:st.getLast? with
 | none=>rw[List.getLast?_eq_none_iff.mp h]; try rfl
 | some s =>
  have:st≠[]:=fun z=>by rw[z]at h; cases h
  have:=List.length_pos_iff.mpr this
  simp only[List.length_append,List.length_dropLast,List.length_singleton]
  omega
theorem zAs:∀ (s:Sy) (r:List Nat),s.plain->(s.steps r).length=s.wt
 | .yes,_,_=>rfl
 | .no,_,_=>rfl
 | .ask _,_,_=>rfl
 | .nt a,r,h=>by simp only[Sy.steps,zBv,Sy.wt]; exact zAs a _ h
 | .an a b,r,h=>by
  have h1:=fun r=>zAs a r h.1
  have h2:=fun r=>zAs b r h.2
  simp only[Sy.steps,List.length_append,h1,h2,Sy.wt]
  omega
theorem zBN:∀ s:Sy,1<=s.wt
 | .yes=>Nat.le_refl _
 | .no=>Nat.le_refl _
 | .ask _=>Nat.le_refl _
 | .nt a=>by simp only[Sy.wt]; exact zBN a
 | .an a b=>by have:=zBN a; simp only[Sy.wt]; omega
 | .or a b=>by have:=zBN a; simp only[Sy.wt]; omega
 | .ei a b=>by have:=zBN a; simp only[Sy.wt]; omega
 | .mo a b c=>by have:=zBN a; simp only[Sy.wt]; omega
def StE(q:Nat)(st:List Stp):Prop:=∀ s∈st,s.1 < q/\Ev s.2.1/\Ev s.2.2
theorem StE.ok{q:Nat}{st:List Stp}(h:StE q st):StOk 5 q st:=fun s hs=>⟨(h s hs).1,(h s hs).2.1.isT,(h s hs).2.2.isT⟩
theorem StE.app{q:Nat}{a b:List Stp}(h:StE q a)(h':StE q b):StE q (a++b):=fun s hs=>(List.mem_append.mp hs).elim (h s) (h' s)
theorem zNF{q:Nat}{st:List Stp}{t:List Nat}(h:StE q st)(ht:Rg t):StE q (lastF st t):=by
 unfold lastF
 cases e:st.getLast? with
 | none=>exact fun s hs=>nomatch hs
 | some s =>
  have hs:=h s (List.mem_of_getLast? e)
  refine StE.app (fun x hx=>h x (List.dropLast_subset _ hx)) fun x hx=>?_
  rw[List.mem_singleton.mp hx]
  exact⟨hs.1,hs.2.1.then ht,hs.2.2.then ht⟩
theorem zBW{q:Nat}(hq:0 < q):∀ (s:Sy) (r:List Nat),s.plain->s.qs q->Rg r->StE q (s.steps r)
 | .yes,r,_,_,hr=>fun x hx=>by rw[List.mem_singleton.mp hx]; exact⟨hq,hr.even,hr.even⟩
 | .no,r,_,_,hr=>fun x hx=>by rw[List.mem_singleton.mp hx]; exact⟨hq,zDX,zDX⟩
 | .ask k,r,_,h,hr=>fun x hx=>by rw[List.mem_singleton.mp hx]; exact⟨h,hr.even,zDX⟩
 | .nt a,r,hp,h,hr=>zNF (zBW hq a _ hp h hr.back) hr
 | .an a b,r,hp,h,hr=>by
  obtain⟨_,h1,h2,_⟩:=hr.ap
  exact (((zBW hq a _ hp.1 h.1 h1).app (zBW hq b _ hp.2 h.2 h2)).app (zBW hq a _ hp.1 h.1 h1.back)).app (zBW hq b _ hp.2 h.2 h2.back)
abbrev danT(n qs:Nat)(st:List Stp):T:=.t [iT (n:Int),iT (qs:Int),.t (st.map stT)]
theorem zBt(n:Nat)(a b:List Nat)(ha:IsT n a)(hb:IsT n b)(hn:n<=5):F_16 [.v (tuT a),.v (tuT b)]=some (.v (tuT (thenL a b)),[]):=by
 have hl:=ha.len
 obtain⟨o',e⟩:=zCE (fun (k:Nat)=>iT (k:Int)) (fun (k:Nat)=>iT (b.getD k 0:Nat)) (de:=zEL) (R:=[some (.v (tuT b))]) a (fun k hk=>by
  obtain⟨m,hm,_⟩:=hb.get (ha.lt k hk)
  have:=zFk hm
  simp only[tvT,iT]at this
  simp[zEL,this,hm]) none
 have g:a.length<=sizeLine:=zAZ (by omega)
 simp only[tuT,tvT,iT]at e
 simp[F_16,fnD,d_16,gd,g,e,thenL]
theorem zBC(n:Nat)(t:List Nat)(h:IsT n t)(hn:n<=5):F_17 [.v (tuT t)]=some (.v (tuT (backL t)),[]):=by
 have hl:=h.len
 obtain⟨o',e⟩:=zCE (fun (i:Nat)=>iT (i:Int)) (fun (i:Nat)=>iT (t.idxOf i:Nat)) (de:=zEh) (R:=[some (.v (tuT t))]) (List.range n) (fun i hi=>by
  have f1:=zGG (h.mem (show i < n by simpa using hi))
  simp[zEh,zDb t,zGz t,f1,flatV]) none
 have e2:=zEJ n
 simp only[tuT,tvT,iT]at e e2
 simp[F_17,fnD,d_17,hl,zCa n (by omega),e2,e,backL]
theorem zD3(n:Nat)(hn:n<=5):F_27 [.v (iT (n:Int))]=some (.v (tuT (List.range n)),[]):=by
 simp[F_27,fnD,d_27,zCa n (by omega),zEJ]
abbrev pcT(s:Sy)(r:List Nat):T:=.t [s.t,tuT r]
abbrev spT(st:List Stp):T:=.t (st.map stT)
noncomputable def Sy.prs:Sy->List Nat->Rs
 | .yes,r=>.mk (pcT .yes r) (spT (Sy.steps .yes r)) []
 | .no,r=>.mk (pcT .no r) (spT (Sy.steps .no r)) []
 | .ask q,r=>.mk (pcT (.ask q) r) (spT (Sy.steps (.ask q) r)) []
 | .nt a,r=>.mk (pcT (.nt a) r) (spT (Sy.steps (.nt a) r)) [a.prs (backL r)]
 | .an a b,r=>.mk (pcT (.an a b) r) (spT (Sy.steps (.an a b) r)) [a.prs (apL r).1,b.prs (apL r).2,a.prs (backL (apL r).1),b.prs (backL (apL r).2)]
 | s,r=>.mk (pcT s r) (spT []) []
theorem zIX(s:Sy)(r:List Nat):(s.prs r).e=pcT s r:=by cases s <;> rfl
theorem zFT(s:Sy)(r:List Nat)(h:s.plain):(s.prs r).v=spT (s.steps r):=by
 cases s with
 | or a b=>exact h.elim
 | ei a b=>exact h.elim
 | mo a b c=>exact h.elim
 | _=>rfl
theorem zBm:∀ (s:Sy) (r:List Nat),s.plain->(s.prs r).pre.length<=s.wt * s.down
 | .yes,r,_=>by simp[Sy.prs,zAe,zAa,Sy.wt,Sy.down]
 | .no,r,_=>by simp[Sy.prs,zAe,zAa,Sy.wt,Sy.down]
 | .ask _,r,_=>by simp[Sy.prs,zAe,zAa,Sy.wt,Sy.down]
 | .nt a,r,h=>by
  have h1:=zBm a (backL r) h
  have h2:=zBN a
  have e:a.wt * (1+a.down)=a.wt+a.wt * a.down:=by rw[Nat.mul_add,Nat.mul_one]
  simp only[Sy.prs,zAe,zAb,zAa,List.append_nil,List.length_cons,Sy.wt,Sy.down]
  omega
 | .an a b,r,h=>by
  have a1:=zBm a (apL r).1 h.1
  have a2:=zBm a (backL (apL r).1) h.1
  have b1:=zBm b (apL r).2 h.2
  have b2:=zBm b (backL (apL r).2) h.2
  have pa:=zBN a
  have ma:a.wt * a.down<=a.wt * max a.down b.down:=Nat.mul_le_mul_left _ (Nat.le_max_left _ _)
  have mb:b.wt * b.down<=b.wt * max a.down b.down:=Nat.mul_le_mul_left _ (Nat.le_max_right _ _)
  have e:2 * (a.wt+b.wt) * (1+max a.down b.down)=2 * (a.wt+b.wt)+2 * (a.wt * max a.down b.down)+2 * (b.wt * max a.down b.down):=by
   rw[Nat.mul_add,Nat.mul_one,Nat.mul_assoc,Nat.add_mul,Nat.mul_add,Nat.add_assoc]
   omega
  simp only[Sy.prs,zAe,zAb,zAa,List.append_nil,List.length_cons,List.length_append,Sy.wt,Sy.down]
  omega
theorem zBG(s:Sy)(r:List Nat)(h:s.kids=[]):F_21 [.v (pcT s r)]=some (.l [],[]):=by
 have g1:(0:Nat)<=sizeLine:=by decide
 cases s with
 | yes=>simp[F_21,fnD,d_21,gd,Sy.t]
 | no=>simp[F_21,fnD,d_21,gd,Sy.t]
 | ask q=>simp[F_21,fnD,d_21,gd,Sy.t]
 | _=>cases h
theorem zD0(a:Sy)(r:List Nat)(hr:Rg r):F_21 [.v (pcT (.nt a) r)]=some (.l [pcT a (backL r)],[]):=by
 have e:=zBC 5 r hr.isT (by decide)
 have g1:(1:Nat)<=sizeLine:=by decide
 have g2:(2:Nat)<=sizeLine:=by decide
 unfold pcT
 simp only[Sy.t]
 generalize tuT r=R at *
 generalize tuT (backL r)=BR at *
 generalize a.t=A
 simp[F_21,fnD,d_21,gd,g1,g2,e]
theorem zDu(a b:Sy)(r:List Nat)(hr:Rg r):F_21 [.v (pcT (.an a b) r)]=some (.l [pcT a (apL r).1,pcT b (apL r).2,pcT a (backL (apL r).1),pcT b (backL (apL r).2)],[]):=by
 obtain⟨e0,r1,r2,_⟩:=hr.ap
 have e1:=zBC 5 _ r1.isT (by decide)
 have e2:=zBC 5 _ r2.isT (by decide)
 have g2:(2:Nat)<=sizeLine:=by decide
 have g4:(4:Nat)<=sizeLine:=by decide
 unfold pcT
 simp only[Sy.t]
 generalize tuT r=R at *
 generalize tuT (backL (apL r).1)=B1 at *
 generalize tuT (backL (apL r).2)=B2 at *
 generalize tuT (apL r).1=A1 at *
 generalize tuT (apL r).2=A2 at *
 generalize a.t=A
 generalize b.t=B
 simp[F_21,fnD,d_21,gd,g2,g4,e0,e1,e2]
theorem zCM:∀ (s:Sy) (r:List Nat),s.plain->Rg r->(s.prs r).In F_21
 | .yes,r,_,_=>zAw.mpr ⟨.inr (zBG .yes r rfl),zAl⟩
 | .no,r,_,_=>zAw.mpr ⟨.inr (zBG .no r rfl),zAl⟩
 | .ask q,r,_,_=>zAw.mpr ⟨.inr (zBG (.ask q) r rfl),zAl⟩
 | .nt a,r,h,hr=>zAw.mpr ⟨.inr (by rw[List.map_cons,List.map_nil,zIX]; exact zD0 a r hr),zAT.mpr ⟨zCM a _ h hr.back,zAl⟩⟩
 | .an a b,r,h,hr=>by
  obtain⟨_,r1,r2,_⟩:=hr.ap
  exact zAw.mpr ⟨.inr (by simp only[List.map_cons,List.map_nil,zIX]; exact zDu a b r hr),zAT.mpr ⟨zCM a _ h.1 r1,zAT.mpr ⟨zCM b _ h.2 r2,zAT.mpr ⟨zCM a _ h.1 r1.back,zAT.mpr ⟨zCM b _ h.2 r2.back,zAl⟩⟩⟩⟩⟩
theorem zNE(s:Sy)(r:List Nat)(h:s.kids=[]):F_28 [.v s.t,.v (tuT r)]=some (.v (.t [iT ((match s with | .ask q=>q | _=>0:Nat):Int),(match s with | .no=>tuT (List.range 5) | _=>tuT r),(match s with | .yes=>tuT r | _=>tuT (List.range 5))]),[]):=by
 have e:=zD3 5 (by decide)
 have e':F_27 [.v (.a (.int 5))]=some (.v (tuT (List.range 5)),[]):=e
 have g3:(3:Nat)<=sizeLine:=by decide
 generalize tuT r=R
 generalize tuT (List.range 5)=S5 at *
 cases s with
 | yes=>simp[F_28,fnD,d_28,Sy.t,gd,g3]
 | no=>simp[F_28,fnD,d_28,Sy.t,gd,g3,e']
 | ask q=>simp[F_28,fnD,d_28,Sy.t,gd,g3,e']
 | _=>cases h
theorem zDa(s:Sy)(r:List Nat)(h:s.kids=[]):F_29 [.v (pcT s r),.r []]=some (.v (spT (s.steps r)),[]):=by
 have e:=zNE s r h
 have g1:(1:Nat)<=sizeLine:=by decide
 unfold pcT spT
 cases s with
 | yes =>
  simp only[Sy.steps,List.map_cons,List.map_nil,stT]
  simp only[Sy.t]at e ⊢
  generalize tuT r=R at *
  generalize tuT (List.range 5)=S5 at *
  simp only[iT]at e ⊢
  simp[F_29,fnD,d_29,gd,g1,e]
 | no =>
  simp only[Sy.steps,List.map_cons,List.map_nil,stT]
  simp only[Sy.t]at e ⊢
  generalize tuT r=R at *
  generalize tuT (List.range 5)=S5 at *
  simp only[iT]at e ⊢
  simp[F_29,fnD,d_29,gd,g1,e]
 | ask q =>
  simp only[Sy.steps,List.map_cons,List.map_nil,stT]
  simp only[Sy.t]at e ⊢
  generalize tuT r=R at *
  generalize tuT (List.range 5)=S5 at *
  simp only[iT]at e ⊢
  simp[F_29,fnD,d_29,gd,g1,e]
 | _=>cases h
theorem zF8(xs:List T)(h:xs≠[]):cutT xs none (some (-1))=xs.dropLast:=by
 have hl:=List.length_pos_iff.mpr h
 have:HT.sIx xs.length xs.length (some (-1))=xs.length - 1:=by
  show (if (-1:Int) < 0 then ((-1:Int)+(xs.length:Int)).toNat else min (-1:Int).toNat xs.length)=_
  rw[if_pos (by decide)]
  omega
 unfold cutT
 rw[this,HT.sIx_none]
 simp[List.dropLast_eq_take]
theorem zG5{q:Nat}(st:List Stp)(t:List Nat)(h:StOk 5 q st)(hn:st≠[])(ht:IsT 5 t)(hl:st.length<=5000):F_26 [.v (spT st),.v (tuT t)]=some (.v (spT (lastF st t)),[]):=by
 unfold lastF
 cases e:st.getLast? with
 | none=>exact absurd (List.getLast?_eq_none_iff.mp e) hn
 | some s =>
  have hs:=h s (List.mem_of_getLast? e)
  have e1:=zBt 5 s.2.1 t hs.2.1 ht (by decide)
  have e2:=zBt 5 s.2.2 t hs.2.2 ht (by decide)
  have e3:atI (st.map stT) (-1)=some (stT s):=by
   rw[zJ6 (by simpa using hn),List.getElem?_map,List.length_map,← List.getLast?_eq_getElem?,e]
   rfl
  have e4:cutT (st.map stT) none (some (-1))=st.dropLast.map stT:=by rw[zF8 _ (by simpa using hn),List.map_dropLast]
  have g1:(1:Nat)<=sizeLine:=by decide
  have g3:(3:Nat)<=sizeLine:=by decide
  have gl:(st.dropLast.map stT).length+1<=sizeLine:=zAZ (by simp; omega)
  unfold spT
  rw[List.map_append,List.map_cons,List.map_nil]
  simp only[stT]at e3 ⊢
  generalize st.dropLast.map (fun s=>T.t [iT (s.1:Int),tuT s.2.1,tuT s.2.2])=DL at *
  generalize st.map (fun s=>T.t [iT (s.1:Int),tuT s.2.1,tuT s.2.2])=SL at *
  generalize tuT t=TT at *
  generalize tuT (thenL s.2.1 t)=Y1 at *
  generalize tuT (thenL s.2.2 t)=Z1 at *
  generalize tuT s.2.1=Y0 at *
  generalize tuT s.2.2=Z0 at *
  simp only[iT]at e3 ⊢
  simp[F_26,fnD,d_26,gd,g1,g3,gl,e1,e2,e3,e4]
theorem zMQ{q:Nat}(hq:0 < q)(a:Sy)(r:List Nat)(hp:a.plain)(h:a.qs q)(hw:a.wt<=1000)(hr:Rg r):F_29 [.v (pcT (.nt a) r),.r [spT (a.steps (backL r))]]=some (.v (spT (Sy.steps (.nt a) r)),[]):=by
 have hl:=zAs a (backL r) hp
 have hn:a.steps (backL r)≠[]:=fun z=>by
  rw[z]at hl
  have:=zBN a
  simp at hl
  omega
 have e:=zG5 (a.steps (backL r)) r (zBW hq a _ hp h hr.back).ok hn hr.isT (by omega)
 simp only[Sy.steps]
 unfold pcT
 simp only[Sy.t]
 generalize spT (a.steps (backL r))=S1 at *
 generalize spT (lastF (a.steps (backL r)) r)=S2 at *
 generalize tuT r=R at *
 generalize a.t=A
 simp[F_29,fnD,d_29,e]
theorem zMn(a b:Sy)(r:List Nat)(hp:a.plain/\b.plain)(hw:a.wt+b.wt<=1000):F_29 [.v (pcT (.an a b) r),.r [spT (a.steps (apL r).1),spT (b.steps (apL r).2),spT (a.steps (backL (apL r).1)),spT (b.steps (backL (apL r).2))]]=some (.v (spT (Sy.steps (.an a b) r)),[]):=by
 have l1:=zAs a (apL r).1 hp.1
 have l2:=zAs b (apL r).2 hp.2
 have l3:=zAs a (backL (apL r).1) hp.1
 have l4:=zAs b (backL (apL r).2) hp.2
 simp only[Sy.steps]
 unfold pcT spT
 simp only[Sy.t,List.map_append]
 have k1:((a.steps (apL r).1).map stT).length=a.wt:=by rw[List.length_map,l1]
 have k2:((b.steps (apL r).2).map stT).length=b.wt:=by rw[List.length_map,l2]
 have k3:((a.steps (backL (apL r).1)).map stT).length=a.wt:=by rw[List.length_map,l3]
 have k4:((b.steps (backL (apL r).2)).map stT).length=b.wt:=by rw[List.length_map,l4]
 generalize (a.steps (apL r).1).map stT=S1 at *
 generalize (b.steps (apL r).2).map stT=S2 at *
 generalize (a.steps (backL (apL r).1)).map stT=S3 at *
 generalize (b.steps (backL (apL r).2)).map stT=S4 at *
 generalize tuT r=R
 generalize a.t=A
 generalize b.t=B
 have g1:S1.length+S2.length<=sizeLine:=zAZ (by omega)
 have g2:S1.length+S2.length+S3.length<=sizeLine:=zAZ (by omega)
 have g3:S1.length+S2.length+S3.length+S4.length<=sizeLine:=zAZ (by omega)
 have g2':S1.length+(S2.length+S3.length)<=sizeLine:=zAZ (by omega)
 have g3':S1.length+(S2.length+(S3.length+S4.length))<=sizeLine:=zAZ (by omega)
 have g3'':S1.length+(S2.length+S3.length)+S4.length<=sizeLine:=zAZ (by omega)
 simp[F_29,fnD,d_29,gd,g1,g2,g3,g2',g3',g3'']
theorem zN3{a b:Sy}:a.wt<=(Sy.an a b).wt/\b.wt<=(Sy.an a b).wt/\a.wt+b.wt<=(Sy.an a b).wt:=by simp only[Sy.wt]; omega
theorem zCA{q:Nat}(hq:0 < q):∀ (s:Sy) (r:List Nat),s.plain->s.qs q->s.wt<=1000->Rg r->(s.prs r).Put F_29
 | .yes,r,_,_,_,_=>zAp.mpr ⟨zDa .yes r rfl,zAh⟩
 | .no,r,_,_,_,_=>zAp.mpr ⟨zDa .no r rfl,zAh⟩
 | .ask q,r,_,_,_,_=>zAp.mpr ⟨zDa (.ask q) r rfl,zAh⟩
 | .nt a,r,hp,h,hw,hr=>zAp.mpr ⟨by rw[List.map_cons,List.map_nil,zFT _ _ (show a.plain from hp)]; exact zMQ hq a r hp h hw hr,zAY.mpr ⟨zCA hq a _ hp h hw hr.back,zAh⟩⟩
 | .an a b,r,hp,h,hw,hr=>by
  obtain⟨_,r1,r2,_⟩:=hr.ap
  have w:=zN3 (a:=a) (b:=b)
  exact zAp.mpr ⟨by simp only[List.map_cons,List.map_nil,zFT _ _ hp.1,zFT _ _ hp.2]; exact zMn a b r hp (by omega),zAY.mpr ⟨zCA hq a _ hp.1 h.1 (by omega) r1,zAY.mpr ⟨zCA hq b _ hp.2 h.2 (by omega) r2,zAY.mpr ⟨zCA hq a _ hp.1 h.1 (by omega) r1.back,zAY.mpr ⟨zCA hq b _ hp.2 h.2 (by omega) r2.back,zAh⟩⟩⟩⟩⟩
theorem zDR:tb_1.find? (fun q=>decide (q.1=("pieces_in":Str)))=some (("pieces_in":Str),1,F_21):=by rfl
theorem zFM:tb_2.find? (fun q=>decide (q.1=("steps_of":Str)))=some (("steps_of":Str),2,F_29):=by rfl
theorem zEO:tb_2.find? (fun q=>decide (q.1=("weight_of":Str)))=some (("weight_of":Str),2,F_23):=by rfl
theorem zGQ(s:Sy):F_23 [.v s.t,.r (s.kids.map fun k=>iT (k.wt:Int))]=some (.v (iT (s.wt:Int)),[]):=by
 have g2:(2:Nat)<=sizeLine:=by decide
 have c2:∀ x:Int,CMul 2 x:=fun x=>.inl ⟨by decide,by decide⟩
 have c8:∀ x:Int,CMul 8 x:=fun x=>.inl ⟨by decide,by decide⟩
 have c12:∀ x:Int,CMul 12 x:=fun x=>.inl ⟨by decide,by decide⟩
 have c4:∀ x:Int,CMul 4 x:=fun x=>.inl ⟨by decide,by decide⟩
 cases s <;> simp[F_23,fnD,d_23,Sy.t,Sy.kids,Sy.wt,gd,g2,inS,atomsOf,flatV,inV,eqV,c2,c4,c8,c12]
theorem zGk(s:Sy)(h:s.parts<=80000):F_33 [.v s.t]=some (.v (iT (s.wt:Int)),[]):=by
 have:=zBL zDx zEO (s.rs fun k=>iT (k.wt:Int)) (s.rs_in _) (s.rs_put _ zGQ) (by rw[Sy.rs_pre]; exact h)
 rw[← zFQ,Sy.rs_e,Sy.rs_v]at this
 simp only[iT]at this ⊢
 simp[F_33,fnD,d_33,F_32,d_32,this]
theorem zG4(s:Sy)(q most:Nat)(r:List Nat)(hq:0 < q)(h:s.qs q)(hr:Rg r)(hw:s.wt<=most)(hm:most<=128)(hd:s.down<=12)(hp:s.parts<=1000) :
  F_36 [.v s.t,.v (iT (q:Int)),.v (tuT r),.v (iT (most:Int))]=some (.v (danT 5 q (s.spell.steps r)),[]):=by
 have e1:=zGk s (by omega)
 have e2:=zCl s (by omega)
 have pl:=zAX s
 have hb:(s.spell.prs r).pre.length<=80000:=by
  have h1:=zBm s.spell r pl
  rw[zAr]at h1
  have h2:=zAn s
  have h3:s.wt * s.spell.down<=128 * 84:=Nat.mul_le_mul (by omega) (by omega)
  omega
 have e3:=zBL zDR zFM (s.spell.prs r) (zCM _ r pl hr) (zCA hq _ r pl (zAj s h) (by rw[zAr]; omega) hr) hb
 rw[← zFQ,zIX,zFT _ _ pl]at e3
 have e4:=hr.facts.2.2.2
 have c:¬ (most:Int) < (s.wt:Int):=by omega
 have g2:(2:Nat)<=sizeLine:=by decide
 have g3:(3:Nat)<=sizeLine:=by decide
 unfold pcT at e3
 have e5:F_34 [.v s.t,.v (tuT r),.v (iT (most:Int))]=some (.v (.a .non),[]):=by
  simp only[iT]at e1 ⊢
  generalize tuT r=R at *
  generalize s.t=ST at *
  simp[F_34,fnD,d_34,e4,e1,c]
 unfold danT
 show _=some (G.v (.t [iT ((5:Nat):Int),iT (q:Int),spT (s.spell.steps r)]),([]:List T))
 generalize spT (s.spell.steps r)=SP at *
 generalize tuT r=R at *
 generalize s.t=ST at *
 generalize s.spell.t=SS at *
 simp only[iT]at e5 ⊢
 simp[F_36,fnD,d_36,e5,e2,e3,gd,g2,g3]
theorem ls_q(rec:DF)(s:Sy):zC6 rec [some (.v s.t)]=some (true,[some (.v s.t)]):=by
 cases s <;> simp[zC6,Sy.t,isiS,tyN,subTy]
theorem ls_i(rec:DF)(i:Int):zC6 rec [some (.v (iT i))]=some (false,[some (.v (iT i))]):=by
 simp[zC6,isiS,tyN,subTy]
theorem zGI:∀ (n:Nat) (s:Sy),s.down<=n->F_3 n [.v s.t]=some (.v s.spell.t,[]):=by
 intro n
 induction n with
 | zero=>intro s h; have:=s.down_pos; omega
 | succ n ih =>
  intro s h
  have g0:(0:Nat)<=sizeLine:=by decide
  have g1:(1:Nat)<=sizeLine:=by decide
  have g2:(2:Nat)<=sizeLine:=by decide
  have g3:(3:Nat)<=sizeLine:=by decide
  have ea:∀ k:Sy,k.down<=n->zGa (F_3 n) [some (.v k.t)]=some (.v k.spell.t,[some (.v k.t)]):=fun k hk=>by
   have:=ih k hk
   simp[zGa,this]
  have ct:∀ (x:T) (r:List T),cutT (x::r) none (some 1)=[x]:=fun x r=>zCZ (x::r) 1
  have ls:=ls_q (F_3 n)
  have li:=ls_i (F_3 n)
  simp only[iT]at li
  cases s with
  | yes=>simp[F_3,fnD,d_3,Sy.t,Sy.spell,cut1,ct,zAN,gd,g0,g1,g2,g3]
  | no=>simp[F_3,fnD,d_3,Sy.t,Sy.spell,cut1,ct,zAN,gd,g0,g1,g2,g3]
  | ask q=>simp[F_3,fnD,d_3,Sy.t,Sy.spell,cut1,ct,zAQ,zAN,gd,g0,g1,g2,g3,li]
  | nt a =>
   have h1:=ea a (by simp only[Sy.down]at h; omega)
   have q1:=ls a
   simp only[Sy.t,Sy.spell]
   generalize a.t=A at *
   generalize a.spell.t=A' at *
   simp[F_3,fnD,d_3,cut1,ct,zAQ,zAN,gd,g0,g1,g2,g3,h1,q1]
  | an a b =>
   have h1:=ea a (by simp only[Sy.down]at h; omega)
   have h2:=ea b (by simp only[Sy.down]at h; omega)
   have q1:=ls a
   have q2:=ls b
   simp only[Sy.t,Sy.spell]
   generalize a.t=A at *
   generalize a.spell.t=A' at *
   generalize b.t=B at *
   generalize b.spell.t=B' at *
   simp[F_3,fnD,d_3,cut1,ct,zAQ,zAN,gd,g0,g1,g2,g3,h1,h2,q1,q2]
  | or a b =>
   have h1:=ea a (by simp only[Sy.down]at h; omega)
   have h2:=ea b (by simp only[Sy.down]at h; omega)
   have q1:=ls a
   have q2:=ls b
   simp only[Sy.t,Sy.spell,orS]
   generalize a.t=A at *
   generalize a.spell.t=A' at *
   generalize b.t=B at *
   generalize b.spell.t=B' at *
   simp[F_3,fnD,d_3,cut1,ct,zAQ,zAN,gd,g0,g1,g2,g3,h1,h2,q1,q2]
  | ei a b =>
   have h1:=ea a (by simp only[Sy.down]at h; omega)
   have h2:=ea b (by simp only[Sy.down]at h; omega)
   have q1:=ls a
   have q2:=ls b
   simp only[Sy.t,Sy.spell,orS]
   generalize a.t=A at *
   generalize a.spell.t=A' at *
   generalize b.t=B at *
   generalize b.spell.t=B' at *
   simp[F_3,fnD,d_3,cut1,ct,zAQ,zAN,gd,g0,g1,g2,g3,h1,h2,q1,q2]
  | mo a b c =>
   have h1:=ea a (by simp only[Sy.down]at h; omega)
   have h2:=ea b (by simp only[Sy.down]at h; omega)
   have h3:=ea c (by simp only[Sy.down]at h; omega)
   have q1:=ls a
   have q2:=ls b
   have q3:=ls c
   simp only[Sy.t,Sy.spell,orS]
   generalize a.t=A at *
   generalize a.spell.t=A' at *
   generalize b.t=B at *
   generalize b.spell.t=B' at *
   generalize c.t=C at *
   generalize c.spell.t=C' at *
   simp[F_3,fnD,d_3,cut1,ct,zAQ,zAN,gd,g0,g1,g2,g3,h1,h2,h3,q1,q2,q3]
theorem zAm:∀ s:Sy,s.spell.down+6<=7 * s.down
 | .yes=>by simp[Sy.spell,Sy.down]
 | .no=>by simp[Sy.spell,Sy.down]
 | .ask _=>by simp[Sy.spell,Sy.down]
 | .nt a=>by have:=zAm a; simp only[Sy.spell,Sy.down]; omega
 | .an a b=>by have:=zAm a; have:=zAm b; simp only[Sy.spell,Sy.down]; omega
 | .or a b=>by have:=zAm a; have:=zAm b; simp only[Sy.spell,orS,Sy.down]; omega
 | .ei a b=>by have:=zAm a; have:=zAm b; simp only[Sy.spell,orS,Sy.down]; omega
 | .mo a b c=>by have:=zAm a; have:=zAm b; have:=zAm c; simp only[Sy.spell,orS,Sy.down]; omega
inductive PP where
 | step | nt (p:PP) | an (i j k:Nat) (a b:List Nat) (p1 p2 p3 p4:PP)
def PP.t:PP->T
 | .step=>.t [sT "step"]
 | .nt p=>.t [sT "not",p.t]
 | .an i j k a b p1 p2 p3 p4=>.t [sT "and",iT (i:Int),iT (j:Int),iT (k:Int),tuT a,tuT b,p1.t,p2.t,p3.t,p4.t]
def PP.size:PP->Nat
 | .step=>1
 | .nt p=>1+p.size
 | .an _ _ _ _ _ p1 p2 p3 p4=>1+p1.size+p2.size+p3.size+p4.size
def stepOk(s:Sy)(r:List Nat)(st:List Stp):Bool:=match s,st with
 | .ask q,[x]=>decide (x=(q,r,List.range 5))
 | .yes,[x]=>decide (x.2=(r,r))
 | .no,[x]=>decide (x.2=(List.range 5,List.range 5))
 | _,_=>false
def chk:PP->Sy->List Nat->List Stp->Bool
 | .step,s,r,st=>stepOk s r st
 | .nt p,.nt s,r,st=>chk p s (backL r) (lastF st (backL r))
 | .an i j k a b p1 p2 p3 p4,.an s t,_,st=>chk p1 s a (st.take i) && (chk p2 t b ((st.take j).drop i) && (chk p3 s (backL a) ((st.take k).drop j) && chk p4 t (backL b) (st.drop k)))
 | _,_,_,_=>false
def tbL(a b:List Nat):List Nat:=thenL (thenL a b) (thenL (backL a) (backL b))
inductive Pf:Sy->List Nat->PP->Nat->Prop where
 | ask (q r):Pf (.ask q) r .step 1
 | yes (r):Pf .yes r .step 1
 | no (r):Pf .no r .step 1
 | nt {s r p n}:Pf s (backL r) p n->Pf (.nt s) r (.nt p) n
 | an {s t r a b p1 p2 p3 p4 n1 n2 n3 n4}:Rg a->Rg b->tbL a b=r->Pf s a p1 n1->Pf t b p2 n2->Pf s (backL a) p3 n3->Pf t (backL b) p4 n4 ->
   Pf (.an s t) r (.an n1 (n1+n2) (n1+n2+n3) a b p1 p2 p3 p4) (n1+n2+n3+n4)
theorem Pf.pos{s r p n}(h:Pf s r p n):1<=n:=by
 induction h with
 | ask=>exact Nat.le_refl _
 | yes=>exact Nat.le_refl _
 | no=>exact Nat.le_refl _
 | nt _ ih=>exact ih
 | an _ _ _ _ _ _ _ h1 _ _ _=>omega
theorem Pf.size{s r p n}(h:Pf s r p n):p.size<=n * s.down:=by
 induction h with
 | ask=>simp[PP.size,Sy.down]
 | yes=>simp[PP.size,Sy.down]
 | no=>simp[PP.size,Sy.down]
 | @nt s r p n h ih =>
  have:=h.pos
  simp only[PP.size,Sy.down,Nat.mul_add,Nat.mul_one]
  omega
 | @an s t r a b p1 p2 p3 p4 n1 n2 n3 n4 _ _ _ h1 h2 h3 h4 i1 i2 i3 i4 =>
  have:=h1.pos
  obtain⟨m,hm⟩:∃ m,m=max s.down t.down:=⟨_,rfl⟩
  have a1:n1 * s.down<=n1 * m:=Nat.mul_le_mul_left _ (by omega)
  have a2:n2 * t.down<=n2 * m:=Nat.mul_le_mul_left _ (by omega)
  have a3:n3 * s.down<=n3 * m:=Nat.mul_le_mul_left _ (by omega)
  have a4:n4 * t.down<=n4 * m:=Nat.mul_le_mul_left _ (by omega)
  simp only[PP.size,Sy.down,← hm,Nat.mul_add,Nat.mul_one,Nat.add_mul]
  omega
theorem zFm{q:Nat}{st:List Stp}{t:List Nat}(h:StOk 5 q st)(ht:IsT 5 t):StOk 5 q (lastF st t):=by
 unfold lastF
 cases e:st.getLast? with
 | none=>exact fun s hs=>nomatch hs
 | some s =>
  have hs:=h s (List.mem_of_getLast? e)
  intro x hx
  rcases List.mem_append.mp hx with z | z
  ·exact h x (List.dropLast_subset _ z)
  ·rw[List.mem_singleton.mp z]
   exact⟨hs.1,zBH hs.2.1 ht,zBH hs.2.2 ht⟩
theorem zHt{q:Nat}{st:List Stp}{t:List Nat}(h:StOk 5 q st)(ht:IsT 5 t):lastF (lastF st t) (backL t)=st:=by
 unfold lastF
 cases e:st.getLast? with
 | none=>rw[List.getLast?_eq_none_iff.mp e]; rfl
 | some s =>
  have hs:=h s (List.mem_of_getLast? e)
  have hn:st≠[]:=fun z=>by rw[z]at e; cases e
  have hb:=zJn ht
  have es:st=st.dropLast++[s]:=by
   have:=List.dropLast_concat_getLast hn
   rw[List.getLast?_eq_some_getLast hn]at e
   rw[← Option.some.inj e]; exact this.symm
  simp only[List.getLast?_append,List.getLast?_singleton,Option.some_or,List.dropLast_concat]
  rw[zDN hs.2.1 ht hb,zDN hs.2.2 ht hb,zHe ht,zDS hs.2.1,zDS hs.2.2]
  exact es.symm
theorem sokT{n q:Nat}{st:List Stp}(h:StOk n q st)(k:Nat):StOk n q (st.take k):=fun s hs=>h s (List.mem_of_mem_take hs)
theorem sokD{n q:Nat}{st:List Stp}(h:StOk n q st)(k:Nat):StOk n q (st.drop k):=fun s hs=>h s (List.mem_of_mem_drop hs)
noncomputable def Sy.paper:Sy->List Nat->PP
 | .nt a,r=>.nt (a.paper (backL r))
 | .an a b,r=>.an a.wt (a.wt+b.wt) (a.wt+b.wt+a.wt) (apL r).1 (apL r).2 (a.paper (apL r).1) (b.paper (apL r).2) (a.paper (backL (apL r).1)) (b.paper (backL (apL r).2))
 | _,_=>.step
theorem zBk:∀ (s:Sy) (r:List Nat),s.plain->Rg r->Pf s r (s.paper r) s.wt
 | .yes,r,_,_=>.yes r
 | .no,r,_,_=>.no r
 | .ask q,r,_,_=>.ask q r
 | .nt a,r,h,hr=>.nt (zBk a _ h hr.back)
 | .an a b,r,h,hr=>by
  obtain⟨_,r1,r2,er⟩:=hr.ap
  have:=Pf.an (r:=r) r1 r2 er (zBk a _ h.1 r1) (zBk b _ h.2 r2) (zBk a _ h.1 r1.back) (zBk b _ h.2 r2.back)
  have e:a.wt+b.wt+a.wt+b.wt=(Sy.an a b).wt:=by simp only[Sy.wt]; omega
  rw[e]at this
  exact this
theorem zBY{q:Nat}(hq:0 < q):∀ (s:Sy) (r:List Nat),s.plain->s.qs q->Rg r->chk (s.paper r) s r (s.steps r)=true
 | .yes,r,_,_,_=>by simp[Sy.paper,Sy.steps,chk,stepOk]
 | .no,r,_,_,_=>by simp[Sy.paper,Sy.steps,chk,stepOk]
 | .ask k,r,_,_,_=>by simp[Sy.paper,Sy.steps,chk,stepOk]
 | .nt a,r,h,hs,hr=>by
  have e:=zBY hq a (backL r) h hs hr.back
  simp only[Sy.paper,Sy.steps,chk]
  rw[zHt (zBW hq a _ h hs hr.back).ok hr.isT]
  exact e
 | .an a b,r,h,hs,hr=>by
  obtain⟨_,r1,r2,er⟩:=hr.ap
  have c1:=zBY hq a _ h.1 hs.1 r1
  have c2:=zBY hq b _ h.2 hs.2 r2
  have c3:=zBY hq a _ h.1 hs.1 r1.back
  have c4:=zBY hq b _ h.2 hs.2 r2.back
  have l1:=zAs a (apL r).1 h.1
  have l2:=zAs b (apL r).2 h.2
  have l3:=zAs a (backL (apL r).1) h.1
  simp only[Sy.paper,Sy.steps,chk]
  generalize a.steps (apL r).1=st1 at *
  generalize b.steps (apL r).2=st2 at *
  generalize a.steps (backL (apL r).1)=st3 at *
  generalize b.steps (backL (apL r).2)=st4 at *
  rw[show a.wt+b.wt+a.wt=st1.length+st2.length+st3.length by omega,show a.wt+b.wt=st1.length+st2.length by omega,← l1]
  have t1:(st1++st2++st3++st4).take st1.length=st1:=by simp[List.append_assoc]
  have t2:((st1++st2++st3++st4).take (st1.length+st2.length)).drop st1.length=st2:=by
   have:(st1++st2++st3++st4).take (st1.length+st2.length)=st1++st2:=by
    rw[List.append_assoc (st1++st2),show st1.length+st2.length=(st1++st2).length by simp]
    exact List.take_left
   rw[this]; exact List.drop_left
  have t3:((st1++st2++st3++st4).take (st1.length+st2.length+st3.length)).drop (st1.length+st2.length)=st3:=by
   have:(st1++st2++st3++st4).take (st1.length+st2.length+st3.length)=st1++st2++st3:=by
    rw[show st1.length+st2.length+st3.length=(st1++st2++st3).length by simp only[List.length_append]]
    exact List.take_left
   rw[this,show st1.length+st2.length=(st1++st2).length by simp]; exact List.drop_left
  have t4:(st1++st2++st3++st4).drop (st1.length+st2.length+st3.length)=st4:=by
   rw[show st1.length+st2.length+st3.length=(st1++st2++st3).length by simp only[List.length_append]]
   exact List.drop_left
  rw[t1,t2,t3,t4,c1,c2,c3,c4]
  rfl
noncomputable abbrev pvT (s:Sy) (r:List Nat):T:=.t [(s.paper r).t,iT (s.wt:Int)]
noncomputable def Sy.pps:Sy->List Nat->Rs
 | .yes,r=>.mk (pcT .yes r) (pvT .yes r) []
 | .no,r=>.mk (pcT .no r) (pvT .no r) []
 | .ask q,r=>.mk (pcT (.ask q) r) (pvT (.ask q) r) []
 | .nt a,r=>.mk (pcT (.nt a) r) (pvT (.nt a) r) [a.pps (backL r)]
 | .an a b,r=>.mk (pcT (.an a b) r) (pvT (.an a b) r) [a.pps (apL r).1,b.pps (apL r).2,a.pps (backL (apL r).1),b.pps (backL (apL r).2)]
 | s,r=>.mk (pcT s r) (pvT s r) []
theorem zIp(s:Sy)(r:List Nat):(s.pps r).e=pcT s r:=by cases s <;> rfl
theorem zIb(s:Sy)(r:List Nat):(s.pps r).v=pvT s r:=by cases s <;> rfl
theorem zCC:∀ (s:Sy) (r:List Nat),s.plain->(s.pps r).pre.length=(s.prs r).pre.length
 | .yes,r,_=>by simp[Sy.prs,Sy.pps,zAe,zAa]
 | .no,r,_=>by simp[Sy.prs,Sy.pps,zAe,zAa]
 | .ask _,r,_=>by simp[Sy.prs,Sy.pps,zAe,zAa]
 | .nt a,r,h=>by
  have h1:=zCC a (backL r) h
  simp only[Sy.prs,Sy.pps,zAe,zAb,zAa,List.append_nil,List.length_cons,h1]
 | .an a b,r,h=>by
  have a1:=zCC a (apL r).1 h.1
  have a2:=zCC a (backL (apL r).1) h.1
  have b1:=zCC b (apL r).2 h.2
  have b2:=zCC b (backL (apL r).2) h.2
  simp only[Sy.prs,Sy.pps,zAe,zAb,zAa,List.append_nil,List.length_cons,List.length_append,a1,a2,b1,b2]
theorem zCL:∀ (s:Sy) (r:List Nat),s.plain->Rg r->(s.pps r).In F_21
 | .yes,r,_,_=>zAw.mpr ⟨.inr (zBG .yes r rfl),zAl⟩
 | .no,r,_,_=>zAw.mpr ⟨.inr (zBG .no r rfl),zAl⟩
 | .ask q,r,_,_=>zAw.mpr ⟨.inr (zBG (.ask q) r rfl),zAl⟩
 | .nt a,r,h,hr=>zAw.mpr ⟨.inr (by rw[List.map_cons,List.map_nil,zIp]; exact zD0 a r hr),zAT.mpr ⟨zCL a _ h hr.back,zAl⟩⟩
 | .an a b,r,h,hr=>by
  obtain⟨_,r1,r2,_⟩:=hr.ap
  exact zAw.mpr ⟨.inr (by simp only[List.map_cons,List.map_nil,zIp]; exact zDu a b r hr),zAT.mpr ⟨zCL a _ h.1 r1,zAT.mpr ⟨zCL b _ h.2 r2,zAT.mpr ⟨zCL a _ h.1 r1.back,zAT.mpr ⟨zCL b _ h.2 r2.back,zAl⟩⟩⟩⟩⟩
theorem zC4(s:Sy)(r:List Nat)(h:s.kids=[]):F_30 [.v (pcT s r),.r []]=some (.v (.t [PP.step.t,iT 1]),[]):=by
 have g1:(1:Nat)<=sizeLine:=by decide
 have g2:(2:Nat)<=sizeLine:=by decide
 unfold pcT
 generalize tuT r=R
 cases s with
 | yes=>simp[F_30,fnD,d_30,gd,g1,g2,Sy.t,PP.t]
 | no=>simp[F_30,fnD,d_30,gd,g1,g2,Sy.t,PP.t]
 | ask q=>simp[F_30,fnD,d_30,gd,g1,g2,Sy.t,PP.t]
 | _=>cases h
theorem zKZ(a:Sy)(r:List Nat):F_30 [.v (pcT (.nt a) r),.r [pvT a (backL r)]]=some (.v (pvT (.nt a) r),[]):=by
 have g2:(2:Nat)<=sizeLine:=by decide
 unfold pcT pvT
 simp only[Sy.t,Sy.paper,PP.t,Sy.wt,iT]
 generalize tuT r=R
 generalize (a.paper (backL r)).t=P
 generalize a.t=A
 generalize (a.wt:Int)=W
 simp[F_30,fnD,d_30,gd,g2]
theorem zKp(a b:Sy)(r:List Nat)(hr:Rg r):F_30 [.v (pcT (.an a b) r),.r [pvT a (apL r).1,pvT b (apL r).2,pvT a (backL (apL r).1),pvT b (backL (apL r).2)]]=some (.v (pvT (.an a b) r),[]):=by
 obtain⟨e0,_,_,_⟩:=hr.ap
 have g2:(2:Nat)<=sizeLine:=by decide
 have g4:(4:Nat)<=sizeLine:=by decide
 have g6:(6:Nat)<=sizeLine:=by decide
 have g10:(10:Nat)<=sizeLine:=by decide
 unfold pcT pvT
 simp only[Sy.t,Sy.paper,PP.t,iT]
 have w1:((a.wt+b.wt:Nat):Int)=(a.wt:Int)+(b.wt:Int):=by omega
 have w2:((a.wt+b.wt+a.wt:Nat):Int)=(a.wt:Int)+(b.wt:Int)+(a.wt:Int):=by omega
 have w3:((Sy.an a b).wt:Int)=(a.wt:Int)+(b.wt:Int)+(a.wt:Int)+(b.wt:Int):=by simp only[Sy.wt]; omega
 rw[w1,w2,w3]
 generalize tuT r=R at *
 generalize (a.paper (apL r).1).t=P1
 generalize (b.paper (apL r).2).t=P2
 generalize (a.paper (backL (apL r).1)).t=P3
 generalize (b.paper (backL (apL r).2)).t=P4
 generalize tuT (apL r).1=X at *
 generalize tuT (apL r).2=Y at *
 generalize a.t=A
 generalize b.t=B
 generalize (a.wt:Int)=W1
 generalize (b.wt:Int)=W2
 have i4:∀ (A B C D:T),atI [A,B,C,D] 0=some A/\atI [A,B,C,D] 1=some B/\atI [A,B,C,D] 2=some C/\atI [A,B,C,D] 3=some D:=fun _ _ _ _=>⟨rfl,rfl,rfl,rfl⟩
 have j1:=fun A B C D=>(i4 A B C D).1
 have j2:=fun A B C D=>(i4 A B C D).2.1
 have j3:=fun A B C D=>(i4 A B C D).2.2.1
 have j4:=fun A B C D=>(i4 A B C D).2.2.2
 simp[F_30,fnD,d_30,zHH,zAQ,zAN,e0,j1,j2,j3,j4,gd,g2,g4,g6,g10]
theorem zB8:∀ (s:Sy) (r:List Nat),s.plain->Rg r->(s.pps r).Put F_30
 | .yes,r,_,_=>zAp.mpr ⟨zC4 .yes r rfl,zAh⟩
 | .no,r,_,_=>zAp.mpr ⟨zC4 .no r rfl,zAh⟩
 | .ask q,r,_,_=>zAp.mpr ⟨zC4 (.ask q) r rfl,zAh⟩
 | .nt a,r,h,hr=>zAp.mpr ⟨by rw[List.map_cons,List.map_nil,zIb]; exact zKZ a r,zAY.mpr ⟨zB8 a _ h hr.back,zAh⟩⟩
 | .an a b,r,h,hr=>by
  obtain⟨_,r1,r2,_⟩:=hr.ap
  exact zAp.mpr ⟨by simp only[List.map_cons,List.map_nil,zIb]; exact zKp a b r hr,zAY.mpr ⟨zB8 a _ h.1 r1,zAY.mpr ⟨zB8 b _ h.2 r2,zAY.mpr ⟨zB8 a _ h.1 r1.back,zAY.mpr ⟨zB8 b _ h.2 r2.back,zAh⟩⟩⟩⟩⟩
theorem zE9:tb_2.find? (fun q=>decide (q.1=("paper_of":Str)))=some (("paper_of":Str),2,F_30):=by rfl
theorem zE7(s:Sy)(q:Nat)(r:List Nat)(hq:0 < q)(h:s.qs q)(hr:Rg r)(hw:s.wt<=128)(hd:s.down<=12)(hp:s.parts<=1000) :
  F_37 [.v s.t,.v (iT (q:Int)),.v (tuT r),.v (iT 128)]=some (.v (.t [danT 5 q (s.spell.steps r),(s.spell.paper r).t]),[]):=by
 have e1:=zG4 s q 128 r hq h hr hw (by decide) hd hp
 have e2:=zCl s (by omega)
 have pl:=zAX s
 have hb:(s.spell.pps r).pre.length<=80000:=by
  rw[zCC _ _ pl]
  have h1:=zBm s.spell r pl
  rw[zAr]at h1
  have h2:=zAn s
  have h3:s.wt * s.spell.down<=128 * 84:=Nat.mul_le_mul (by omega) (by omega)
  omega
 have e3:=zBL zDR zE9 (s.spell.pps r) (zCL _ r pl hr) (zB8 _ r pl hr) hb
 rw[← zFQ,zIp,zIb]at e3
 have g2:(2:Nat)<=sizeLine:=by decide
 unfold pcT pvT at e3
 have e1':F_36 [.v s.t,.v (iT (q:Int)),.v (tuT r),.v (iT 128)]=some (.v (danT 5 q (s.spell.steps r)),[]):=e1
 generalize danT 5 q (s.spell.steps r)=DN at *
 generalize (s.spell.paper r).t=PT at *
 generalize tuT r=R at *
 generalize s.t=ST at *
 generalize s.spell.t=SS at *
 simp only[iT]at *
 simp[F_37,fnD,d_37,e1',e2,e3,gd,g2]
theorem zBf:∀ a c:List Nat,PyData.eqvAll (intsD a) (intsD c)=decide (a=c)
 | [],[]=>by simp[intsD,PyData.eqvAll]
 | [],y::s=>by simp[intsD,PyData.eqvAll]
 | x::r,[]=>by simp[intsD,PyData.eqvAll]
 | x::r,y::s=>by
  have:=zBf r s
  simp only[intsD,List.map_cons]at this ⊢
  rw[PyData.eqvAll,this]
  have e:PyData.eqv (.int (x:Int)) (.int (y:Int))=decide (x=y):=by
   by_cases h:x=y
   ·subst h; simp[PyData.eqv]
   ·have h':¬ (x:Int)=(y:Int):=by omega
    simp[PyData.eqv,h,h']
  rw[e]
  by_cases h:x=y <;> by_cases h2:r=s <;> simp[h,h2]
theorem zEb(Γ:En)(t:List Nat):datS Γ (.v (tuT t))=some (.tuple (intsD t)):=by
 have:=zDG t
 simp only[tvT,iT]at this
 simp[datS,toD,this]
theorem zLK(Γ:En)(a c:List Nat):neS Γ (.v (tuT a)) (.v (tuT c))=some (.v (.a (.bl (!decide (a=c))))):=by
 have e1:cmpD (fun a b=>!PyData.eqv a b) Γ (.v (tuT a)) (.v (tuT c))=some (.v (.a (.bl (!decide (a=c))))):=by
  unfold cmpD
  rw[zEb,zEb]
  simp only[Option.bind_some,PyData.canLay0,zBF,PyData.depth,zBe,PyData.eqv,zBf]
  rfl
 show ((none:Option S).or (cmpD (fun a b=>!PyData.eqv a b) Γ (.v (tuT a)) (.v (tuT c))))=_
 rw[Option.none_or,e1]
theorem zMc(x y:Nat):PyData.eqv (.int (x:Int)) (.int (y:Int))=decide (x=y):=by
 by_cases h:x=y
 ·subst h; simp[PyData.eqv]
 ·have h':¬ (x:Int)=(y:Int):=by omega
  simp[PyData.eqv,h,h']
theorem zB0(t:List Nat):toD (tuT t)=some (.tuple (intsD t)):=zEb [] t
theorem zKa(Γ:En)(x y:Stp):eqS Γ (.v (stT x)) (.v (stT y))=some (.v (bT (decide (x=y)))):=by
 have dt:∀ x:Stp,datS Γ (.v (stT x))=some (.tuple [.int (x.1:Int),.tuple (intsD x.2.1),.tuple (intsD x.2.2)]):=fun x=>by
  have h1:=zB0 x.2.1
  have h2:=zB0 x.2.2
  show toD (.t [iT (x.1:Int),tuT x.2.1,tuT x.2.2])=_
  generalize tuT x.2.1=A at *
  generalize tuT x.2.2=B at *
  simp[toD,toDs,toDa,h1,h2]
 have e1:cmpD PyData.eqv Γ (.v (stT x)) (.v (stT y))=some (.v (bT (decide (x=y)))):=by
  unfold cmpD
  rw[dt,dt]
  obtain⟨x1,x2,x3⟩:=x
  obtain⟨y1,y2,y3⟩:=y
  simp only[Option.bind_some,PyData.canLay0,PyData.canLayAll0,zBF,PyData.depth,PyData.depthAll,zBe,PyData.eqv,PyData.eqvAll,zBf,zMc]
  by_cases h1:x1=y1 <;> by_cases h2:x2=y2 <;> by_cases h3:x3=y3 <;> simp[h1,h2,h3] <;> first | rfl | omega
 show ((none:Option S).or (cmpD PyData.eqv Γ (.v (stT x)) (.v (stT y))))=_
 rw[Option.none_or,e1]
theorem zHI(Γ:En)(a b c d:List Nat):eqS Γ (.v (.t [tuT a,tuT b])) (.v (.t [tuT c,tuT d]))=some (.v (bT (decide ((a,b)=(c,d))))):=by
 have dt:∀ a b:List Nat,datS Γ (.v (.t [tuT a,tuT b]))=some (.tuple [.tuple (intsD a),.tuple (intsD b)]):=fun a b=>by
  have h1:=zB0 a
  have h2:=zB0 b
  show toD (.t [tuT a,tuT b])=_
  generalize tuT a=A at *
  generalize tuT b=B at *
  simp[toD,toDs,h1,h2]
 have e1:cmpD PyData.eqv Γ (.v (.t [tuT a,tuT b])) (.v (.t [tuT c,tuT d]))=some (.v (bT (decide ((a,b)=(c,d))))):=by
  unfold cmpD
  rw[dt,dt]
  simp only[Option.bind_some,PyData.canLay0,PyData.canLayAll0,zBF,PyData.depth,PyData.depthAll,zBe,PyData.eqv,PyData.eqvAll,zBf]
  by_cases h2:a=c <;> by_cases h3:b=d <;> simp[h2,h3] <;> first | rfl | omega
 show ((none:Option S).or (cmpD PyData.eqv Γ (.v (.t [tuT a,tuT b])) (.v (.t [tuT c,tuT d]))))=_
 rw[Option.none_or,e1]
theorem zIY{s:Sy}(hs:s.kids=[])(r:List Nat)(x:Stp):F_44 [.v s.t,.v (tuT r),.v (spT [x])]=some (.v (bT (stepOk s r [x])),[]):=by
 have e':F_27 [.v (.a (.int 5))]=some (.v (tuT (List.range 5)),[]):=zD3 5 (by decide)
 have g2:(2:Nat)<=sizeLine:=by decide
 have g3:(3:Nat)<=sizeLine:=by decide
 cases s with
 | ask q =>
  have h:=fun Γ=>zKa Γ x (q,r,List.range 5)
  have hx:stT (q,r,List.range 5)=.t [iT (q:Int),tuT r,tuT (List.range 5)]:=rfl
  rw[hx]at h
  simp only[spT,List.map_cons,List.map_nil,stepOk,Sy.t,iT]at h ⊢
  generalize tuT (List.range 5)=S5 at *
  generalize tuT r=R at *
  generalize stT x=X at *
  simp[F_44,fnD,d_44,gd,g3,e',h]
 | yes =>
  have h:=fun Γ=>zHI Γ x.2.1 x.2.2 r r
  have hx:stT x=.t [iT (x.1:Int),tuT x.2.1,tuT x.2.2]:=rfl
  have hc:stepOk .yes r [x]=decide ((x.2.1,x.2.2)=(r,r)):=rfl
  rw[hc]
  simp only[spT,List.map_cons,List.map_nil,Sy.t,hx]
  generalize tuT r=R at *
  generalize tuT x.2.1=X1 at *
  generalize tuT x.2.2=X2 at *
  simp only[iT]
  simp[F_44,fnD,d_44,gd,g2,cut1]
  simp[h]
 | no =>
  have h:=fun Γ=>zHI Γ x.2.1 x.2.2 (List.range 5) (List.range 5)
  have hx:stT x=.t [iT (x.1:Int),tuT x.2.1,tuT x.2.2]:=rfl
  have hc:stepOk .no r [x]=decide ((x.2.1,x.2.2)=(List.range 5,List.range 5)):=rfl
  rw[hc]
  simp only[spT,List.map_cons,List.map_nil,Sy.t,hx]
  generalize tuT (List.range 5)=S5 at *
  generalize tuT r=R at *
  generalize tuT x.2.1=X1 at *
  generalize tuT x.2.2=X2 at *
  simp only[iT]
  simp[F_44,fnD,d_44,gd,g2,cut1,e']
  simp[h]
 | _=>cases hs
abbrev clT(s:Sy)(r:List Nat)(st:List Stp)(p:PP):T:=.t [s.t,tuT r,spT st,p.t]
theorem zN9:F_38 [.v (.t [sT "step"]),.v (sT "step"),.v (iT 1)]=some (.v (bT true),[]):=by
 simp[F_38,fnD,d_38,isiS,tyN,subTy]
theorem zOJ(P:T):F_38 [.v (.t [sT "not",P]),.v (sT "step"),.v (iT 1)]=some (.v (bT false),[]):=by
 simp[F_38,fnD,d_38,isiS,tyN,subTy]
theorem zOO(P:T):F_38 [.v (.t [sT "not",P]),.v (sT "not"),.v (iT 2)]=some (.v (bT true),[]):=by
 simp[F_38,fnD,d_38,isiS,tyN,subTy]
theorem zOE(a b c d e f g h i:T):F_38 [.v (.t [sT "and",a,b,c,d,e,f,g,h,i]),.v (sT "step"),.v (iT 1)]=some (.v (bT false),[]):=by
 simp[F_38,fnD,d_38,isiS,tyN,subTy]
theorem zNs(a b c d e f g h i:T):F_38 [.v (.t [sT "and",a,b,c,d,e,f,g,h,i]),.v (sT "not"),.v (iT 2)]=some (.v (bT false),[]):=by
 simp[F_38,fnD,d_38,isiS,tyN,subTy]
theorem zOh(a b c d e f g h i:T):F_38 [.v (.t [sT "and",a,b,c,d,e,f,g,h,i]),.v (sT "and"),.v (iT 10)]=some (.v (bT true),[]):=by
 simp[F_38,fnD,d_38,isiS,tyN,subTy]
theorem zGj{s:Sy}(hs:s.kids=[])(r:List Nat)(x:Stp):F_45 [.v s.t,.v (tuT r),.v (spT [x]),.v PP.step.t]=some (if stepOk s r [x]=true then .l [] else .v (.a .non),[]):=by
 have e:=zIY hs r x
 have f:=zN9
 have g0:(0:Nat)<=sizeLine:=by decide
 generalize spT [x]=X at *
 generalize s.t=S at *
 generalize tuT r=R at *
 simp only[PP.t,bT,iT,sT]at *
 cases h:stepOk s r [x] with
 | true=>rw[h]at e; simp[F_45,fnD,d_45,e,f,gd]
 | false=>rw[h]at e; simp[F_45,fnD,d_45,e,f]
theorem zFB{q:Nat}(S P:T)(r:List Nat)(hr:Rg r)(st:List Stp)(h:StOk 5 q st)(hn:st≠[])(hl:st.length<=5000):F_39 [.v (.t [sT "not",S]),.v (tuT r),.v (spT st),.v (.t [sT "not",P])]=some (.l [.t [S,tuT (backL r),spT (lastF st (backL r)),P]],[]):=by
 have e1:=zBC 5 r hr.isT (by decide)
 have e2:=zG5 st (backL r) h hn hr.back.isT hl
 have g1:(1:Nat)<=sizeLine:=by decide
 have g4:(4:Nat)<=sizeLine:=by decide
 unfold spT at *
 have hL:st.map stT≠[]:=by simpa using hn
 generalize st.map stT=L at *
 generalize (lastF st (backL r)).map stT=L' at *
 generalize tuT (backL r)=B at *
 generalize tuT r=R at *
 have hz:¬ (L.length:Int)=0:=by have:=List.length_pos_iff.mpr hL; omega
 simp[F_39,fnD,d_39,e1,e2,hL,hz,gd,g1,g4]
theorem zIJ{q:Nat}(s:Sy)(p:PP)(r:List Nat)(hr:Rg r)(st:List Stp)(h:StOk 5 q st)(hn:st≠[])(hl:st.length<=5000):F_45 [.v (Sy.nt s).t,.v (tuT r),.v (spT st),.v (PP.nt p).t]=some (.l [clT s (backL r) (lastF st (backL r)) p],[]):=by
 have e:=zFB s.t p.t r hr st h hn hl
 have f1:=zOJ p.t
 have f2:=zOO p.t
 simp only[PP.t,Sy.t,clT]at *
 generalize spT (lastF st (backL r))=L' at *
 generalize spT st=L at *
 generalize tuT (backL r)=B at *
 generalize tuT r=R at *
 generalize s.t=S at *
 generalize p.t=P at *
 simp only[bT,iT,sT]at *
 simp[F_45,fnD,d_45,e,f1,f2]
theorem zLM(i:Int):F_40 [.v (iT i)]=some (.v (bT true),[]):=by
 simp[F_40,fnD,d_40,isiS,tyN,subTy]
theorem zM0(i j k m:Nat)(h1:0 < i)(h2:i < j)(h3:j < k)(h4:k < m):F_41 [.v (.t [iT (i:Int),iT (j:Int),iT (k:Int)]),.v (iT (m:Int))]=some (.v (bT true),[]):=by
 have w:=fun i:Int=>zLM i
 have a1:(0:Int) < (i:Int):=by omega
 have a2:(i:Int) < (j:Int):=by omega
 have a3:(j:Int) < (k:Int):=by omega
 have a4:(k:Int) < (m:Int):=by omega
 have g3:(3:Nat)<=sizeLine:=by decide
 generalize (i:Int)=I at *
 generalize (j:Int)=J at *
 generalize (k:Int)=KK at *
 generalize (m:Int)=MM at *
 simp only[iT,bT]at *
 simp[F_41,fnD,d_41,zG0,zAQ,zAN,gd,g3,w,dChainN,dLink,dLast,boolsOf,a1,a2,a3,a4]
theorem zPm{a b:List Nat}(ha:Rg a)(hb:Rg b):F_18 [.v (tuT a),.v (tuT b)]=some (.v (tuT (tbL a b)),[]):=by
 have e1:=zBC 5 a ha.isT (by decide)
 have e2:=zBC 5 b hb.isT (by decide)
 have e3:=zBt 5 a b ha.isT hb.isT (by decide)
 have e4:=zBt 5 _ _ ha.back.isT hb.back.isT (by decide)
 have e5:=zBt 5 _ _ (zBH ha.isT hb.isT) (zBH ha.back.isT hb.back.isT) (by decide)
 unfold tbL
 generalize tuT (thenL (thenL a b) (thenL (backL a) (backL b)))=X1 at *
 generalize tuT (thenL a b)=X2 at *
 generalize tuT (thenL (backL a) (backL b))=X3 at *
 generalize tuT (backL a)=X4 at *
 generalize tuT (backL b)=X5 at *
 generalize tuT a=X6 at *
 generalize tuT b=X7 at *
 simp[F_18,fnD,d_18,e1,e2,e3,e4,e5]
theorem allAny:(rings5.all fun r=>isTr (F_42 [.v (tuT r)]) && isTr (F_52 [.v (tuT r)]))=true:=by decide +kernel
theorem zFx{r:List Nat}(h:Rg r):F_42 [.v (tuT r)]=some (.v (.a (.bl true)),[]):=by
 have:=List.all_eq_true.mp allAny r h.mem
 simp only[Bool.and_eq_true]at this
 exact zEW this.1
theorem zLh{r:List Nat}(h:Rg r):F_52 [.v (tuT r)]=some (.v (.a (.bl true)),[]):=by
 have:=List.all_eq_true.mp allAny r h.mem
 simp only[Bool.and_eq_true]at this
 exact zEW this.2
theorem zNv(w i j k a b c d e f:T):atI [w,i,j,k,a,b,c,d,e,f] 1=some i:=by rfl
theorem zNb(w i j k a b c d e f:T):atI [w,i,j,k,a,b,c,d,e,f] 2=some j:=by rfl
theorem zNo(w i j k a b c d e f:T):atI [w,i,j,k,a,b,c,d,e,f] 3=some k:=by rfl
theorem zNm(w i j k a b c d e f:T):atI [w,i,j,k,a,b,c,d,e,f] 4=some a:=by rfl
theorem zOP(w i j k a b c d e f:T):atI [w,i,j,k,a,b,c,d,e,f] 5=some b:=by rfl
theorem zN6(w i j k a b c d e f:T):atI [w,i,j,k,a,b,c,d,e,f] 6=some c:=by rfl
theorem zOd(w i j k a b c d e f:T):atI [w,i,j,k,a,b,c,d,e,f] 7=some d:=by rfl
theorem zNp(w i j k a b c d e f:T):atI [w,i,j,k,a,b,c,d,e,f] 8=some e:=by rfl
theorem zOb(w i j k a b c d e f:T):atI [w,i,j,k,a,b,c,d,e,f] 9=some f:=by rfl
theorem cut14(w i j k a b c d e f:T):cutT [w,i,j,k,a,b,c,d,e,f] (some 1) (some 4)=[i,j,k]:=by
 have:=zBi [w,i,j,k,a,b,c,d,e,f] 1 4
 exact this
theorem zGT(Γ:En)(x:List Nat):neS Γ (.v (tuT x)) (.v (tuT x))=some (.v (.a (.bl false))):=by rw[zLK]; simp
theorem zIC{q:Nat}(s t:Sy)(p1 p2 p3 p4:PP){a b:List Nat}(ha:Rg a)(hb:Rg b)(st:List Stp)(i j k:Nat)(h1:0 < i)(h2:i < j)(h3:j < k)(h4:k < st.length)(hl:st.length<=5000) :
  F_45 [.v (Sy.an s t).t,.v (tuT (tbL a b)),.v (spT st),.v (PP.an i j k a b p1 p2 p3 p4).t] =
   some (.l [clT s a (st.take i) p1,clT t b ((st.take j).drop i) p2,clT s (backL a) ((st.take k).drop j) p3,clT t (backL b) (st.drop k) p4],[]):=by
 have c1:cutT (st.map stT) none (some (i:Int))=(st.take i).map stT:=by rw[zCZ,List.map_take]
 have c2:cutT (st.map stT) (some (i:Int)) (some (j:Int))=((st.take j).drop i).map stT:=by rw[zBi,List.drop_take,List.map_take,List.map_drop]
 have c3:cutT (st.map stT) (some (j:Int)) (some (k:Int))=((st.take k).drop j).map stT:=by rw[zBi,List.drop_take,List.map_take,List.map_drop]
 have c4:cutT (st.map stT) (some (k:Int)) none=(st.drop k).map stT:=by rw[zCe,List.map_drop]
 have l1:((st.take i).map stT).length<=sizeLine:=zAZ (by simp; omega)
 have l2:(((st.take j).drop i).map stT).length<=sizeLine:=zAZ (by simp; omega)
 have l3:(((st.take k).drop j).map stT).length<=sizeLine:=zAZ (by simp; omega)
 have l4:((st.drop k).map stT).length<=sizeLine:=zAZ (by simp; omega)
 have ec:=zM0 i j k st.length h1 h2 h3 h4
 have hm:(st.map stT).length=st.length:=by simp
 rw[← hm]at ec
 have eb1:=zBC 5 a ha.isT (by decide)
 have eb2:=zBC 5 b hb.isT (by decide)
 have er1:=zFx ha
 have er2:=zFx hb
 have et:=zPm ha hb
 have ne:=fun Γ=>zGT Γ (tbL a b)
 have f1:=zOE (iT (i:Int)) (iT (j:Int)) (iT (k:Int)) (tuT a) (tuT b) p1.t p2.t p3.t p4.t
 have f2:=zNs (iT (i:Int)) (iT (j:Int)) (iT (k:Int)) (tuT a) (tuT b) p1.t p2.t p3.t p4.t
 have f3:=zOh (iT (i:Int)) (iT (j:Int)) (iT (k:Int)) (tuT a) (tuT b) p1.t p2.t p3.t p4.t
 have g2:(2:Nat)<=sizeLine:=by decide
 have g3:(3:Nat)<=sizeLine:=by decide
 have g4:(4:Nat)<=sizeLine:=by decide
 clear hm hl h1 h2 h3 h4 ha hb
 simp only[clT,PP.t,Sy.t,spT]at *
 generalize (st.take i).map stT=L1 at *
 generalize ((st.take j).drop i).map stT=L2 at *
 generalize ((st.take k).drop j).map stT=L3 at *
 generalize (st.drop k).map stT=L4 at *
 generalize st.map stT=L at *
 generalize tuT (tbL a b)=TB at *
 generalize tuT (backL a)=BA at *
 generalize tuT (backL b)=BB at *
 generalize tuT a=A at *
 generalize tuT b=B at *
 generalize s.t=S at *
 generalize t.t=SS at *
 generalize p1.t=Q1 at *
 generalize p2.t=Q2 at *
 generalize p3.t=Q3 at *
 generalize p4.t=Q4 at *
 generalize (i:Int)=I at *
 generalize (j:Int)=J at *
 generalize (k:Int)=KK at *
 have hA:F_43 [.v (.t [sT "and",S,SS]),.v TB,.v (.t L),.v (.t [sT "and",iT I,iT J,iT KK,A,B,Q1,Q2,Q3,Q4])]=some (.l [.t [S,A,.t L1,Q1],.t [SS,B,.t L2,Q2],.t [S,BA,.t L3,Q3],.t [SS,BB,.t L4,Q4]],[]):=by
  simp only[iT,bT,sT]at *
  simp[F_43,fnD,d_43,cut14,zNv,zNb,zNo,zNm,zOP,zN6,zOd,zNp,zOb,ec,er1,er2,et,ne,eb1,eb2,c1,c2,c3,c4,l1,l2,l3,l4,gd,g2,g3,g4]
 simp only[iT,bT,sT]at *
 simp[F_45,fnD,d_45,f1,f2,f3,hA]
structure Cl where
 s:Sy
 r:List Nat
 st:List Stp
 p:PP
def Cl.t(c:Cl):T:=clT c.s c.r c.st c.p
def Cl.ok(c:Cl):Bool:=chk c.p c.s c.r c.st
structure Cl.Good(q:Nat)(c:Cl):Prop where
 pf:Pf c.s c.r c.p c.st.length
 rg:Rg c.r
 sk:StOk 5 q c.st
 le:c.st.length<=5000
def szs:List Cl->Nat
 | []=>0
 | c::r=>c.p.size+szs r
theorem zDF:∀ (a b:List Cl),szs (a++b)=szs a+szs b
 | [],b=>by simp[szs]
 | c::r,b=>by simp only[List.cons_append,szs,zDF r b]; omega
theorem PP.size_pos:∀ p:PP,1<=p.size
 | .step=>Nat.le_refl _
 | .nt _=>by simp only[PP.size]; omega
 | .an ..=>by simp only[PP.size]; omega
theorem zEi:∀ cs:List Cl,cs.length<=szs cs
 | []=>Nat.le_refl _
 | c::r=>by have:=zEi r; have:=c.p.size_pos; simp only[List.length_cons,szs]; omega
theorem zLT{q:Nat}(c:Cl)(h:c.Good q):(∃ ks:List Cl,F_45 [.v c.s.t,.v (tuT c.r),.v (spT c.st),.v c.p.t]=some (.l (ks.map Cl.t),[])/\(∀ k∈ks,k.Good q)/\szs ks < c.p.size/\ks.all Cl.ok=c.ok) \/
  (F_45 [.v c.s.t,.v (tuT c.r),.v (spT c.st),.v c.p.t]=some (.v (.a .non),[])/\c.ok=false):=by
 obtain⟨s,r,st,p⟩:=c
 obtain⟨pf,rg,sk,le⟩:=h
 dsimp only at *
 have leaf:∀ s:Sy,s.kids=[]->st.length=1->(∃ ks:List Cl,F_45 [.v s.t,.v (tuT r),.v (spT st),.v PP.step.t]=some (.l (ks.map Cl.t),[])/\(∀ k∈ks,k.Good q)/\szs ks < PP.step.size/\ks.all Cl.ok=Cl.ok ⟨s,r,st,.step⟩) \/
  (F_45 [.v s.t,.v (tuT r),.v (spT st),.v PP.step.t]=some (.v (.a .non),[])/\Cl.ok ⟨s,r,st,.step⟩=false):=fun s hs hl=>by
  match st,hl with
  | [x],_ =>
   have e:=zGj hs r x
   have ho:Cl.ok ⟨s,r,[x],.step⟩=stepOk s r [x]:=rfl
   rw[ho]
   cases hc:stepOk s r [x] with
   | true=>rw[hc,if_pos rfl]at e; exact .inl ⟨[],e,by simp,by decide,rfl⟩
   | false=>rw[hc,if_neg Bool.false_ne_true]at e; exact .inr ⟨e,rfl⟩
 generalize hn:st.length=n at pf
 cases pf with
 | ask q' r=>exact leaf (.ask q') rfl hn
 | yes r=>exact leaf .yes rfl hn
 | no r=>exact leaf .no rfl hn
 | @nt s r p n h =>
  subst hn
  have hne:st≠[]:=fun z=>by have:=h.pos; rw[z]at this; simp at this
  refine .inl ⟨[⟨s,backL r,lastF st (backL r),p⟩],zIJ s p r rg st sk hne le,fun k hk=>?_,?_,?_⟩
  ·rw[List.mem_singleton.mp hk]
   exact⟨by rw[zBv]; exact h,rg.back,zFm sk rg.back.isT,by rw[zBv]; exact le⟩
  ·simp only[szs,PP.size]; omega
  ·simp[Cl.ok,chk]
 | @an s t r a b p1 p2 p3 p4 n1 n2 n3 n4 ra rb er h1 h2 h3 h4 =>
  have:=h1.pos
  have:=h2.pos
  have:=h3.pos
  have:=h4.pos
  subst er
  have e:=zIC (q:=q) s t p1 p2 p3 p4 ra rb st n1 (n1+n2) (n1+n2+n3) (by omega) (by omega) (by omega) (by omega) le
  refine .inl ⟨[⟨s,a,st.take n1,p1⟩,⟨t,b,(st.take (n1+n2)).drop n1,p2⟩,⟨s,backL a,(st.take (n1+n2+n3)).drop (n1+n2),p3⟩,⟨t,backL b,st.drop (n1+n2+n3),p4⟩],e,fun k hk=>?_,?_,?_⟩
  ·simp only[List.mem_cons,List.not_mem_nil,or_false]at hk
   have l1:(st.take n1).length=n1:=by rw[List.length_take]; omega
   have l2:((st.take (n1+n2)).drop n1).length=n2:=by rw[List.length_drop,List.length_take]; omega
   have l3:((st.take (n1+n2+n3)).drop (n1+n2)).length=n3:=by rw[List.length_drop,List.length_take]; omega
   have l4:(st.drop (n1+n2+n3)).length=n4:=by rw[List.length_drop]; omega
   rcases hk with rfl | rfl | rfl | rfl
   ·exact⟨by dsimp only; rw[l1]; exact h1,ra,sokT sk _,by dsimp only; omega⟩
   ·exact⟨by dsimp only; rw[l2]; exact h2,rb,sokD (sokT sk _) _,by dsimp only; omega⟩
   ·exact⟨by dsimp only; rw[l3]; exact h3,ra.back,sokD (sokT sk _) _,by dsimp only; omega⟩
   ·exact⟨by dsimp only; rw[l4]; exact h4,rb.back,sokD sk _,by dsimp only; omega⟩
  ·simp only[szs,PP.size]; omega
  ·simp[Cl.ok,chk]
theorem zJK{q:Nat}(x0 x1 x2 x3:Option G):∀ (fuel:Nat) (cs:List Cl),szs cs < fuel->szs cs<=90000->(∀ c∈cs,c.Good q)->∀ (o5 o6:Option G),
  (cs.all Cl.ok=true->∃ o5' o6',dWhile zB6 zBj fuel [x0,x1,x2,x3,some (.l (cs.map Cl.t)),o5,o6]=some (.nx [x0,x1,x2,x3,some (.l []),o5',o6'])) /\
  (cs.all Cl.ok=false->∃ Γ',dWhile zB6 zBj fuel [x0,x1,x2,x3,some (.l (cs.map Cl.t)),o5,o6]=some (.rt (.v (.a (.bl false))) Γ')):=by
 intro fuel
 induction fuel with
 | zero=>intro cs h; omega
 | succ f ih =>
  intro cs hf hb hg o5 o6
  rcases List.eq_nil_or_concat cs with rfl | ⟨cs',c,rfl⟩
  ·refine⟨fun _=>⟨o5,o6,?_⟩,fun h=>by simp at h⟩
   rw[zAy]
   simp[zB6]
  ·rw[List.concat_eq_append]at *
   have hc:=hg c (by simp)
   have hg':∀ c∈cs',c.Good q:=fun k hk=>hg k (by simp[hk])
   rw[zDF]at hf hb
   simp only[szs]at hf hb
   have hl:=zEi cs'
   have e0:(cs'++[c]).map Cl.t=cs'.map Cl.t++[c.t]:=by simp
   have tr:∀ L:List T,zB6 [x0,x1,x2,x3,some (.l (L++[c.t])),o5,o6]=some (true,[x0,x1,x2,x3,some (.l (L++[c.t])),o5,o6]):=fun L=>by simp[zB6]
   have hq:(cs'.map Cl.t).length+1<=sizeLine:=zAZ (by simp; omega)
   rw[e0,zAy,tr,Option.bind_some,if_pos rfl]
   have ha:(cs'++[c]).all Cl.ok=(cs'.all Cl.ok && c.ok):=by simp
   rw[ha]
   rcases zLT c hc with ⟨ks,e,hk,hs,hok⟩ | ⟨e,hok⟩
   ·have hkl:=zEi ks
    have body:zBj [x0,x1,x2,x3,some (.l (cs'.map Cl.t++[c.t])),o5,o6]=some (.nx [x0,x1,x2,x3,some (.l ((cs'++ks).map Cl.t)),some (.v c.t),some (.l (ks.map Cl.t))]):=by
     have ex:(cs'.map Cl.t).length+(ks.map Cl.t).length<=sizeLine:=zAZ (by simp; omega)
     rw[List.map_append]
     unfold Cl.t clT at *
     generalize (cs'.map fun c=>T.t [c.s.t,tuT c.r,spT c.st,c.p.t])=L at *
     generalize (ks.map fun c=>T.t [c.s.t,tuT c.r,spT c.st,c.p.t])=K at *
     generalize spT c.st=X at *
     generalize c.s.t=S at *
     generalize tuT c.r=R at *
     generalize c.p.t=P at *
     have hq':L.length<=sizeLine:=by omega
     simp[zBj,e,hExtend,lsOf,isNoneS,rfS,sqlOf,mkB,gd,ex,hq,hq']
    rw[body,Option.bind_some]
    dsimp only
    have:=ih (cs'++ks) (by rw[zDF]; omega) (by rw[zDF]; omega) (fun k hk'=>(List.mem_append.mp hk').elim (hg' k) (hk k)) (some (.v c.t)) (some (.l (ks.map Cl.t)))
    rw[List.all_append,hok]at this
    exact this
   ·refine⟨fun h=>by rw[hok]at h; simp at h,fun _=>?_⟩
    have body:∃ Γ',zBj [x0,x1,x2,x3,some (.l (cs'.map Cl.t++[c.t])),o5,o6]=some (.rt (.v (.a (.bl false))) Γ'):=by
     refine⟨[x0,x1,x2,x3,some (.l (cs'.map Cl.t)),some (.v c.t),some (.v (.a .non))],?_⟩
     unfold Cl.t clT at *
     generalize (cs'.map fun c=>T.t [c.s.t,tuT c.r,spT c.st,c.p.t])=L at *
     generalize spT c.st=X at *
     generalize c.s.t=S at *
     generalize tuT c.r=R at *
     generalize c.p.t=P at *
     have hq':L.length<=sizeLine:=by omega
     simp[zBj,e,isNoneS,mkB,gd,hq,hq']
    obtain⟨Γ',eb⟩:=body
    exact⟨Γ',by rw[eb]; rfl⟩
theorem zGH{q:Nat}(s:Sy)(r:List Nat)(st:List Stp)(p:PP)(d0 d1:T)(hp:s.parts<=80000)(h:(Cl.mk s.spell r st p).Good q)(hz:p.size<=90000):F_46 [.v s.t,.v (tuT r),.v (.t [d0,d1,spT st]),.v p.t]=some (.v (bT (chk p s.spell r st)),[]):=by
 have e:=zCl s hp
 obtain⟨h1,h2⟩:=zJK (some (.v s.t)) (some (.v (tuT r))) (some (.v (.t [d0,d1,spT st]))) (some (.v p.t)) fuelX [⟨s.spell,r,st,p⟩] (by simp only[szs]; exact Nat.lt_of_le_of_lt (show p.size+0<=90000 by omega) (by decide)) (by simp only[szs]; omega) (fun c hc=>by rw[List.mem_singleton.mp hc]; exact h) none none
 have g1:(1:Nat)<=sizeLine:=by decide
 have g4:(4:Nat)<=sizeLine:=by decide
 have ho:[Cl.mk s.spell r st p].all Cl.ok=chk p s.spell r st:=by simp[Cl.ok]
 rw[ho]at h1 h2
 have el:[Cl.mk s.spell r st p].map Cl.t=[.t [s.spell.t,tuT r,spT st,p.t]]:=rfl
 rw[el]at h1 h2
 clear ho el h hz hp
 generalize chk p s.spell r st=b at *
 generalize spT st=X at *
 generalize s.spell.t=SS at *
 generalize s.t=S at *
 generalize tuT r=R at *
 generalize p.t=P at *
 cases b with
 | true =>
  obtain⟨o5,o6,ew⟩:=h1 rfl
  simp[F_46,fnD,d_46,e,gd,g1,g4,ew]
 | false =>
  obtain⟨Γ',ew⟩:=h2 rfl
  simp[F_46,fnD,d_46,e,gd,g1,g4,ew,resG]
theorem zCV(n:Nat)(t:List Nat)(h:IsT n t)(hn:n<=5):F_47 [.v (tuT t)]=some (.v (tuT (backL t)),[]):=by
 have hl:=h.len
 obtain⟨o',e⟩:=zCE (fun (i:Nat)=>iT (i:Int)) (fun (i:Nat)=>iT (t.idxOf i:Nat)) (de:=zEZ) (R:=[some (.v (tuT t))]) (List.range n) (fun i hi=>by
  have f1:=zGG (h.mem (show i < n by simpa using hi))
  simp[zEZ,zDb t,zGz t,f1,flatV]) none
 have e2:=zEJ n
 simp only[tuT,tvT,iT]at e e2
 simp[F_47,fnD,d_47,hl,zCa n (by omega),e2,e,backL]
theorem zBx(n:Nat)(a b:List Nat)(ha:IsT n a)(hb:IsT n b)(hn:n<=5):F_49 [.v (tuT a),.v (tuT b)]=some (.v (tuT (thenL a b)),[]):=by
 have hl:=ha.len
 obtain⟨o',e⟩:=zCE (fun (k:Nat)=>iT (k:Int)) (fun (k:Nat)=>iT (b.getD k 0:Nat)) (de:=zEg) (R:=[some (.v (tuT b))]) a (fun k hk=>by
  obtain⟨m,hm,_⟩:=hb.get (ha.lt k hk)
  have:=zFk hm
  simp only[tvT,iT]at this
  simp[zEg,this,hm]) none
 have g:a.length<=sizeLine:=zAZ (by omega)
 simp only[tuT,tvT,iT]at e
 simp[F_49,fnD,d_49,gd,g,e,thenL]
theorem zGp{q:Nat}(st:List Stp)(t:List Nat)(h:StOk 5 q st)(hn:st≠[])(ht:IsT 5 t)(hl:st.length<=5000):F_50 [.v (spT st),.v (tuT t)]=some (.v (spT (lastF st t)),[]):=by
 unfold lastF
 cases e:st.getLast? with
 | none=>exact absurd (List.getLast?_eq_none_iff.mp e) hn
 | some s =>
  have hs:=h s (List.mem_of_getLast? e)
  have e1:=zBx 5 s.2.1 t hs.2.1 ht (by decide)
  have e2:=zBx 5 s.2.2 t hs.2.2 ht (by decide)
  have e3:atI (st.map stT) (-1)=some (stT s):=by
   rw[zJ6 (by simpa using hn),List.getElem?_map,List.length_map,← List.getLast?_eq_getElem?,e]
   rfl
  have e4:cutT (st.map stT) none (some (-1))=st.dropLast.map stT:=by rw[zF8 _ (by simpa using hn),List.map_dropLast]
  have g1:(1:Nat)<=sizeLine:=by decide
  have g3:(3:Nat)<=sizeLine:=by decide
  have gl:(st.dropLast.map stT).length+1<=sizeLine:=zAZ (by simp; omega)
  unfold spT
  rw[List.map_append,List.map_cons,List.map_nil]
  simp only[stT]at e3 ⊢
  generalize st.dropLast.map (fun s=>T.t [iT (s.1:Int),tuT s.2.1,tuT s.2.2])=DL at *
  generalize st.map (fun s=>T.t [iT (s.1:Int),tuT s.2.1,tuT s.2.2])=SL at *
  generalize tuT t=TT at *
  generalize tuT (thenL s.2.1 t)=Y1 at *
  generalize tuT (thenL s.2.2 t)=Z1 at *
  generalize tuT s.2.1=Y0 at *
  generalize tuT s.2.2=Z0 at *
  simp only[iT]at e3 ⊢
  simp[F_50,fnD,d_50,gd,g1,g3,gl,e1,e2,e3,e4]
def stD(s:Stp):PyData:=.tuple [.int (s.1:Int),.tuple (intsD s.2.1),.tuple (intsD s.2.2)]
theorem zMe(s:Stp):toD (stT s)=some (stD s):=by
 have h1:=zDG s.2.1
 have h2:=zDG s.2.2
 simp only[tvT,iT]at h1 h2
 simp[toD,toDs,toDa,stT,stD,h1,h2]
theorem zDY:∀ st:List Stp,toDs (st.map stT)=some (st.map stD)
 | []=>rfl
 | s::r=>by
  rw[List.map_cons,toDs,zMe,zDY r]
  rfl
theorem ShD.nat10{k dp:Nat}(h:k < 11):ShD (.int (k:Int)) 6 dp:=by
 by_cases c:k=10
 ·subst c
  exact⟨by decide +kernel,rfl,by simp[PyData.depth],by decide +kernel,by decide +kernel⟩
 ·exact ShD.nat (by omega)
theorem ShDs.nats{dp:Nat}:∀ t:List Nat,(∀ k∈t,k < 10)->ShDs (intsD t) (7 * t.length) dp
 | [],_=>ShDs.nil
 | k::r,h=>(ShDs.cons (ShD.nat (h k List.mem_cons_self)) (ShDs.nats r fun x hx=>h x (List.mem_cons_of_mem _ hx))).mono (by simp; omega) (Nat.le_refl _)
theorem ShD.turn{n:Nat}{t:List Nat}(h:IsT n t)(hn:n<=5):ShD (.tuple (intsD t)) 35 1:=(ShD.tup (dp:=0) (ShDs.nats t fun k hk=>by have:=h.lt k hk; omega)).mono (by have:=h.len; omega) (by decide)
theorem ShDs.steps{n q:Nat}(hn:n<=5)(hq:q<=10):∀ st:List Stp,StOk n q st->ShDs (st.map stD) (80 * st.length) 2
 | [],_=>ShDs.nil
 | s::r,h=>by
  obtain⟨h1,h2,h3⟩:=h s List.mem_cons_self
  have e:ShD (stD s) 79 2:=(ShD.tup (ShDs.cons (ShD.nat (by omega)) (ShDs.cons (ShD.turn h2 hn) (ShDs.cons (ShD.turn h3 hn) ShDs.nil (w':=0))))).mono (by decide) (by decide)
  exact (ShDs.cons e (ShDs.steps hn hq r fun x hx=>h x (List.mem_cons_of_mem _ hx))).mono (by simp; omega) (Nat.le_refl _)
theorem zKU{n q:Nat}(hn:n<=5)(hq:q<=10)(st:List Stp)(h:StOk n q st)(hl:st.length<=10000):∃ x:Str,∀ Γ:En,reprS Γ [.v (danT n q st)]=some (.v (.a (.str x))):=by
 have e:toD (danT n q st)=some (.tuple [.int (n:Int),.int (q:Int),.tuple (st.map stD)]):=by
  have:=zDY st
  simp[danT,toD,toDs,toDa,this]
 have s:ShD (.tuple [.int (n:Int),.int (q:Int),.tuple (st.map stD)]) (80 * st.length+20) 4 :=
  (ShD.tup (ShDs.cons (ShD.nat10 (by omega)) (ShDs.cons (ShD.nat10 (by omega)) (ShDs.cons (ShD.tup (ShDs.steps hn hq st h)) ShDs.nil (w':=0))))).mono (by omega) (by decide)
 exact⟨_,fun Γ=>zHQ e s (by decide) (by omega) Γ⟩
def PP.d:PP->PyData
 | .step=>.tuple [.str "step"]
 | .nt p=>.tuple [.str "not",p.d]
 | .an i j k a b p1 p2 p3 p4=>.tuple [.str "and",.int (i:Int),.int (j:Int),.int (k:Int),.tuple (intsD a),.tuple (intsD b),p1.d,p2.d,p3.d,p4.d]
theorem PP.toD:∀ p:PP,D.toD p.t=some p.d
 | .step=>by simp[PP.t,PP.d,D.toD,toDs,toDa]
 | .nt p=>by simp[PP.t,PP.d,D.toD,toDs,toDa,p.toD]
 | .an i j k a b p1 p2 p3 p4=>by
  have h1:D.toD (tuT a)=some (.tuple (intsD a)):=zB0 a
  have h2:D.toD (tuT b)=some (.tuple (intsD b)):=zB0 b
  have e1:=p1.toD
  have e2:=p2.toD
  have e3:=p3.toD
  have e4:=p4.toD
  simp only[PP.t,PP.d]
  generalize tuT a=A at *
  generalize tuT b=B at *
  generalize p1.t=P1 at *
  generalize p2.t=P2 at *
  generalize p3.t=P3 at *
  generalize p4.t=P4 at *
  simp[D.toD,toDs,toDa,h1,h2,e1,e2,e3,e4]
theorem PP.lay:∀ p:PP,p.d.canLay0=true
 | .step=>by simp[PP.d,PyData.canLay0,PyData.canLayAll0]; decide +kernel
 | .nt p=>by simp[PP.d,PyData.canLay0,PyData.canLayAll0,p.lay]; decide +kernel
 | .an i j k a b p1 p2 p3 p4=>by
  simp only[PP.d,PyData.canLay0,PyData.canLayAll0,zBF,p1.lay,p2.lay,p3.lay,p4.lay]
  decide +kernel
def PP.isStep:PP->Bool
 | .step=>true
 | _=>false
theorem qw_t(a b:List PyData):PyData.eqv (.tuple a) (.tuple b)=PyData.eqvAll a b:=by rw[PyData.eqv]
theorem qw_c(x y:PyData)(r s:List PyData):PyData.eqvAll (x::r) (y::s)=(PyData.eqv x y && PyData.eqvAll r s):=by rw[PyData.eqvAll]
theorem qw_n:PyData.eqvAll [] []=true:=by rw[PyData.eqvAll]
theorem qw_s(x y:Str):PyData.eqv (.str x) (.str y)=decide (x=y):=by rw[PyData.eqv]; by_cases h:x=y <;> simp[h]
theorem zLC:∀ p:PP,PyData.eqv p.d (.tuple [.str "step"])=p.isStep
 | .step=>by simp[PP.d,PP.isStep,qw_t,qw_c,qw_n,qw_s]
 | .nt p=>by simp[PP.d,PP.isStep,qw_t,qw_c,qw_s]
 | .an ..=>by simp[PP.d,PP.isStep,qw_t,qw_c,qw_s]
theorem zEX(Γ:En)(p:PP):eqS Γ (.v p.t) (.v (.t [sT "step"]))=some (.v (bT p.isStep)):=by
 have d1:datS Γ (.v p.t)=some p.d:=p.toD
 have d2:datS Γ (.v (.t [sT "step"]))=some (.tuple [.str "step"]):=rfl
 have l2:PyData.canLay0 (.tuple [.str "step"])=true:=by decide +kernel
 have dp:PyData.depth (.tuple [.str "step"])<=1:=by decide +kernel
 have e1:cmpD PyData.eqv Γ (.v p.t) (.v (.t [sT "step"]))=some (.v (bT p.isStep)):=by
  unfold cmpD
  rw[d1,d2,Option.bind_some,Option.bind_some,if_pos ⟨p.lay,l2,by omega⟩,zLC]
  rfl
 have e0:eqS Γ (.v p.t) (.v (.t [sT "step"]))=((none:Option S).or (cmpD PyData.eqv Γ (.v p.t) (.v (.t [sT "step"])))):=by
  unfold eqS
  obtain⟨xs,ex⟩:∃ xs,p.t=.t xs:=by cases p <;> exact⟨_,rfl⟩
  rw[ex]
  rfl
 rw[e0,Option.none_or,e1]
theorem shows200:((List.range 601).all fun k=>(PyData.int (k:Int)).showable && (PyData.int (k:Int)).leavesShort 8 && decide ((PyData.int (k:Int)).weight<=20))=true:=by decide +kernel
theorem ShD.nat200{k dp:Nat}(h:k<=600):ShD (.int (k:Int)) 20 dp:=by
 have:=List.all_eq_true.mp shows200 k (List.mem_range.mpr (by omega))
 simp only[Bool.and_eq_true,decide_eq_true_eq]at this
 exact⟨this.1.1,rfl,by simp[PyData.depth],this.1.2,this.2⟩
theorem Pf.shd{s r p n}(h:Pf s r p n):n<=600->ShD p.d (160 * p.size) (s.down+1):=by
 have hw:ShD (.tuple [.str "step"]) 7 1:=(ShD.tup (ShDs.cons (ShD.word (dp:=0) (by decide +kernel) (by decide +kernel)) ShDs.nil (w':=0))).mono (by decide) (by decide)
 induction h with
 | ask=>exact fun _=>hw.mono (by decide) (by omega)
 | yes=>exact fun _=>hw.mono (by decide) (by omega)
 | no=>exact fun _=>hw.mono (by decide) (by omega)
 | @nt s r p n h ih =>
  intro hn
  exact (ShD.tup (ShDs.cons (ShD.word (dp:=s.down+1) (by decide +kernel) (by decide +kernel)) (ShDs.cons (ih hn) ShDs.nil (w':=0)))).mono (by simp only[PP.size]; omega) (by simp only[Sy.down]; omega)
 | @an s t r a b p1 p2 p3 p4 n1 n2 n3 n4 ra rb er h1 h2 h3 h4 i1 i2 i3 i4 =>
  intro hn
  obtain⟨m,hm⟩:∃ m,m=max s.down t.down+1:=⟨_,rfl⟩
  have j1:=(i1 (by omega)).mono (Nat.le_refl _) (show s.down+1<=m by omega)
  have j2:=(i2 (by omega)).mono (Nat.le_refl _) (show t.down+1<=m by omega)
  have j3:=(i3 (by omega)).mono (Nat.le_refl _) (show s.down+1<=m by omega)
  have j4:=(i4 (by omega)).mono (Nat.le_refl _) (show t.down+1<=m by omega)
  have ta:=(ShD.turn ra.isT (by decide)).mono (Nat.le_refl _) (show 1<=m by omega)
  have tb:=(ShD.turn rb.isT (by decide)).mono (Nat.le_refl _) (show 1<=m by omega)
  exact (ShD.tup (ShDs.cons (ShD.word (dp:=m) (by decide +kernel) (by decide +kernel)) (ShDs.cons (ShD.nat200 (by omega)) (ShDs.cons (ShD.nat200 (by omega)) (ShDs.cons (ShD.nat200 (by omega)) (ShDs.cons ta (ShDs.cons tb (ShDs.cons j1 (ShDs.cons j2 (ShDs.cons j3 (ShDs.cons j4 ShDs.nil (w':=0)))))))))))).mono (by simp only[PP.size]; omega) (by simp only[Sy.down]; omega)
theorem zIk{q:Nat}(hq:q<=10)(st:List Stp)(h:StOk 5 q st)(hl:st.length<=600){s:Sy}{r:List Nat}{p:PP}(pf:Pf s r p st.length)(hz:p.size<=5000)(hd:s.down<=90):∃ x:Str,∀ Γ:En,reprS Γ [.v (.t [danT 5 q st,p.t])]=some (.v (.a (.str x))):=by
 have e:D.toD (.t [danT 5 q st,p.t])=some (.tuple [.tuple [.int ((5:Nat):Int),.int (q:Int),.tuple (st.map stD)],p.d]):=by
  have h1:=zDY st
  have h2:=p.toD
  generalize p.t=P at *
  generalize p.d=PD at *
  simp[danT,D.toD,toDs,toDa,h1,h2]
 have s1:ShD (.tuple [.int ((5:Nat):Int),.int (q:Int),.tuple (st.map stD)]) (80 * st.length+20) 4 :=
  (ShD.tup (ShDs.cons (ShD.nat10 (by omega)) (ShDs.cons (ShD.nat10 (by omega)) (ShDs.cons (ShD.tup (ShDs.steps (by decide) hq st h)) ShDs.nil (w':=0))))).mono (by omega) (by decide)
 have s2:=pf.shd hl
 have s3:=ShD.tup (ShDs.cons (s1.mono (Nat.le_refl _) (show 4<=s.down+4 by omega)) (ShDs.cons (s2.mono (Nat.le_refl _) (show s.down+1<=s.down+4 by omega)) (ShDs.nil (w:=0))))
 exact⟨_,fun Γ=>zHQ e s3 (by omega) (by omega) Γ⟩
theorem zEK(Γ:En)(a b:List Nat):neS Γ (.v (.t [tuT a,tuT b])) (.v (.t [tuT a,tuT b]))=some (.v (bT false)):=by
 have dt:∀ a b:List Nat,datS Γ (.v (.t [tuT a,tuT b]))=some (.tuple [.tuple (intsD a),.tuple (intsD b)]):=fun a b=>by
  have h1:=zB0 a
  have h2:=zB0 b
  show toD (.t [tuT a,tuT b])=_
  generalize tuT a=A at *
  generalize tuT b=B at *
  simp[toD,toDs,h1,h2]
 have e1:cmpD (fun a b=>!PyData.eqv a b) Γ (.v (.t [tuT a,tuT b])) (.v (.t [tuT a,tuT b]))=some (.v (bT false)):=by
  unfold cmpD
  rw[dt]
  simp only[Option.bind_some,PyData.canLay0,PyData.canLayAll0,zBF,PyData.depth,PyData.depthAll,zBe,PyData.eqv,PyData.eqvAll,zBf]
  simp <;> rfl
 show ((none:Option S).or (cmpD (fun a b=>!PyData.eqv a b) Γ (.v (.t [tuT a,tuT b])) (.v (.t [tuT a,tuT b]))))=_
 rw[Option.none_or,e1]
theorem zE6{s:Sy}(hs:s.kids=[])(r:List Nat)(x:Stp)(h:stepOk s r [x]=true):F_48 [.v s.t,.v (tuT r),.v (spT [x])]=some (.v (bT true),[]):=by
 have g2:(2:Nat)<=sizeLine:=by decide
 have g5:(5:Nat)<=sizeLine:=by decide
 have nd:([.inr "yes",.inr "no",.inr "ask"]:List Key).Nodup:=by decide +kernel
 have n1:=fun Γ=>zEK Γ r r
 have n2:=fun Γ=>zEK Γ r (List.range 5)
 have n3:=fun Γ=>zEK Γ (List.range 5) (List.range 5)
 have r5:tuT (List.range 5)=.t [.a (.int 0),.a (.int 1),.a (.int 2),.a (.int 3),.a (.int 4)]:=rfl
 have n3':∀ Γ,neS Γ (.v (.t [.t [.a (.int 0),.a (.int 1),.a (.int 2),.a (.int 3),.a (.int 4)],.t [.a (.int 0),.a (.int 1),.a (.int 2),.a (.int 3),.a (.int 4)]])) (.v (.t [.t [.a (.int 0),.a (.int 1),.a (.int 2),.a (.int 3),.a (.int 4)],.t [.a (.int 0),.a (.int 1),.a (.int 2),.a (.int 3),.a (.int 4)]]))=some (.v (.a (.bl false))):=n3
 obtain⟨x1,x2,x3⟩:=x
 have hx:spT [(x1,x2,x3)]=.t [.t [iT (x1:Int),tuT x2,tuT x3]]:=rfl
 rw[hx]
 cases s with
 | ask q =>
  simp[stepOk]at h
  obtain⟨rfl,rfl,rfl⟩:=h
  rw[r5]at *
  generalize tuT x2=R at *
  simp only[Sy.t,iT,bT]at *
  simp[F_48,fnD,d_48,dDGetT,dDispK,dictOf,getX,valT,keyT,nd,gd,g2,g5,cut1,n2]
 | yes =>
  simp[stepOk]at h
  obtain⟨rfl,rfl⟩:=h
  rw[r5]at *
  generalize tuT x3=R at *
  simp only[Sy.t,iT,bT]at *
  simp[F_48,fnD,d_48,dDGetT,dDispK,dictOf,getX,valT,keyT,nd,gd,g2,g5,cut1,n1]
 | no =>
  simp[stepOk]at h
  obtain⟨rfl,rfl⟩:=h
  rw[r5]at *
  generalize tuT r=R at *
  simp only[Sy.t,iT,bT]at *
  simp[F_48,fnD,d_48,dDGetT,dDispK,dictOf,getX,valT,keyT,nd,gd,g2,g5,cut1,n3']
 | _=>cases hs
theorem zOH{a b:List Nat}(ha:Rg a)(hb:Rg b):F_53 [.v (tuT a),.v (tuT b)]=some (.v (tuT (tbL a b)),[]):=by
 have e1:=zCV 5 a ha.isT (by decide)
 have e2:=zCV 5 b hb.isT (by decide)
 have e3:=zBx 5 a b ha.isT hb.isT (by decide)
 have e4:=zBx 5 _ _ ha.back.isT hb.back.isT (by decide)
 have e5:=zBx 5 _ _ (zBH ha.isT hb.isT) (zBH ha.back.isT hb.back.isT) (by decide)
 unfold tbL
 generalize tuT (thenL (thenL a b) (thenL (backL a) (backL b)))=X1 at *
 generalize tuT (thenL a b)=X2 at *
 generalize tuT (thenL (backL a) (backL b))=X3 at *
 generalize tuT (backL a)=X4 at *
 generalize tuT (backL b)=X5 at *
 generalize tuT a=X6 at *
 generalize tuT b=X7 at *
 simp[F_53,fnD,d_53,e1,e2,e3,e4,e5]
theorem cut16(w i j k a b c d e f:T):cutT [w,i,j,k,a,b,c,d,e,f] (some 1) (some 6)=[i,j,k,a,b]:=by
 have:=zBi [w,i,j,k,a,b,c,d,e,f] 1 6
 exact this
theorem zOs(w i j k a b c d e f:T):cutT [w,i,j,k,a,b,c,d,e,f] (some 6) none=[c,d,e,f]:=zCe [w,i,j,k,a,b,c,d,e,f] 6
theorem zFp(rec:DF)(S SS Q1 Q2 Q3 Q4:T){a b:List Nat}(ha:Rg a)(hb:Rg b)(st:List Stp)(i j k:Nat)(h1:0 < i)(h2:i < j)(h3:j < k)(h4:k < st.length)(hl:st.length<=5000)
  (r1:rec [.v S,.v (tuT a),.v (spT (st.take i)),.v Q1]=some (.v (bT true),[]))
  (r2:rec [.v SS,.v (tuT b),.v (spT ((st.take j).drop i)),.v Q2]=some (.v (bT true),[]))
  (r3:rec [.v S,.v (tuT (backL a)),.v (spT ((st.take k).drop j)),.v Q3]=some (.v (bT true),[]))
  (r4:rec [.v SS,.v (tuT (backL b)),.v (spT (st.drop k)),.v Q4]=some (.v (bT true),[])) :
  F_54 rec [.v (.t [sT "and",S,SS]),.v (tuT (tbL a b)),.v (spT st),.v (.t [sT "and",iT (i:Int),iT (j:Int),iT (k:Int),tuT a,tuT b,Q1,Q2,Q3,Q4])]=some (.v (bT true),[]):=by
 have c1:cutT (st.map stT) none (some (i:Int))=(st.take i).map stT:=by rw[zCZ,List.map_take]
 have c2:cutT (st.map stT) (some (i:Int)) (some (j:Int))=((st.take j).drop i).map stT:=by rw[zBi,List.drop_take,List.map_take,List.map_drop]
 have c3:cutT (st.map stT) (some (j:Int)) (some (k:Int))=((st.take k).drop j).map stT:=by rw[zBi,List.drop_take,List.map_take,List.map_drop]
 have c4:cutT (st.map stT) (some (k:Int)) none=(st.drop k).map stT:=by rw[zCe,List.map_drop]
 have l1:((st.take i).map stT).length<=sizeLine:=zAZ (by simp; omega)
 have l2:(((st.take j).drop i).map stT).length<=sizeLine:=zAZ (by simp; omega)
 have l3:(((st.take k).drop j).map stT).length<=sizeLine:=zAZ (by simp; omega)
 have l4:((st.drop k).map stT).length<=sizeLine:=zAZ (by simp; omega)
 have hm:(st.map stT).length=st.length:=by simp
 have x1:(0:Int) < (i:Int):=by omega
 have x2:(i:Int) < (j:Int):=by omega
 have x3:(j:Int) < (k:Int):=by omega
 have x4:(k:Int) < ((st.map stT).length:Int):=by rw[hm]; omega
 have eb1:=zCV 5 a ha.isT (by decide)
 have eb2:=zCV 5 b hb.isT (by decide)
 have er1:=zLh ha
 have er2:=zLh hb
 have et:=zOH ha hb
 have ne:=fun Γ=>zGT Γ (tbL a b)
 have g3:(3:Nat)<=sizeLine:=by decide
 have g4:(4:Nat)<=sizeLine:=by decide
 have g5:(5:Nat)<=sizeLine:=by decide
 have g6:(6:Nat)<=sizeLine:=by decide
 clear hm hl h1 h2 h3 h4 ha hb
 simp only[spT]at *
 generalize (st.take i).map stT=L1 at *
 generalize ((st.take j).drop i).map stT=L2 at *
 generalize ((st.take k).drop j).map stT=L3 at *
 generalize (st.drop k).map stT=L4 at *
 generalize st.map stT=L at *
 generalize tuT (tbL a b)=TB at *
 generalize tuT (backL a)=BA at *
 generalize tuT (backL b)=BB at *
 generalize tuT a=A at *
 generalize tuT b=B at *
 generalize (i:Int)=I at *
 generalize (j:Int)=J at *
 generalize (k:Int)=KK at *
 simp only[iT,bT,sT]at *
 have i3:∀ (X Y Z:T),atI [X,Y,Z] 1=some Y/\atI [X,Y,Z] 2=some Z:=fun _ _ _=>⟨rfl,rfl⟩
 have i31:=fun X Y Z=>(i3 X Y Z).1
 have i32:=fun X Y Z=>(i3 X Y Z).2
 simp[F_54,fnD,d_54,cut16,zHE,zAQ,zAN,isiS,tyN,subTy,boolsOf,dChainN,dLink,dLast,x1,x2,x3,x4,er1,er2,et,ne,c1,c2,c3,c4,l1,l2,l3,l4,eb1,eb2,gd,g3,g4,g5,zOs,zipT,zGw,i31,i32,r1,r2,r3,r4,inS,atomsOf,flatV,inV,eqV]
theorem zH2{q:Nat}:∀ (n:Nat) {s:Sy} {r:List Nat} {p:PP} {m:Nat},Pf s r p m->s.down<=n->Rg r->∀ (st:List Stp),StOk 5 q st->st.length=m->st.length<=5000->chk p s r st=true->F_0 n [.v s.t,.v (tuT r),.v (spT st),.v p.t]=some (.v (bT true),[]):=by
 intro n
 induction n with
 | zero=>intro s r p m _ h; have:=s.down_pos; omega
 | succ n ih =>
  intro s r p m h hd hr st ok hl hL hc
  have g1:(1:Nat)<=sizeLine:=by decide
  have g2:(2:Nat)<=sizeLine:=by decide
  have leaf:∀ s:Sy,s.kids=[]->st.length=1->chk .step s r st=true->F_0 (n+1) [.v s.t,.v (tuT r),.v (spT st),.v PP.step.t]=some (.v (bT true),[]):=fun s hs hl hc=>by
   match st,hl with
   | [x],_ =>
    have e:=zE6 hs r x hc
    have q:=fun Γ=>zEX Γ .step
    simp only[PP.isStep]at q
    generalize spT [x]=X at *
    generalize s.t=S at *
    generalize tuT r=R at *
    simp only[PP.t,bT,sT]at *
    simp[F_0,fnD,d_0,q,e,gd,g1]
  cases h with
  | ask k r=>exact leaf _ rfl hl hc
  | yes r=>exact leaf _ rfl hl hc
  | no r=>exact leaf _ rfl hl hc
  | @nt s r p m h =>
   simp only[Sy.down]at hd
   have hb:=hr.back
   have hne:st≠[]:=fun z=>by have:=h.pos; rw[z]at hl; simp at hl; omega
   have e:=ih h (by omega) hb (lastF st (backL r)) (zFm ok hb.isT) (by rw[zBv]; exact hl) (by rw[zBv]; exact hL) hc
   have eb:=zCV 5 r hr.isT (by decide)
   have ef:=zGp st (backL r) ok hne hb.isT hL
   have q:=fun Γ=>zEX Γ (.nt p)
   simp only[PP.isStep,PP.t]at q
   simp only[PP.t,Sy.t]
   unfold spT at *
   have hz:st.map stT≠[]:=by simpa using hne
   generalize (lastF st (backL r)).map stT=L' at *
   generalize st.map stT=L at *
   generalize tuT (backL r)=B at *
   generalize tuT r=R at *
   generalize s.t=S at *
   generalize p.t=P at *
   have hz':¬ (L.length:Int)=0:=by have:=List.length_pos_iff.mpr hz; omega
   simp only[bT,sT]at *
   simp[F_0,fnD,d_0,q,e,eb,ef,gd,g1,g2,isiS,tyN,subTy,inS,atomsOf,flatV,inV,eqV,hz,hz']
  | @an s t r a b p1 p2 p3 p4 n1 n2 n3 n4 ra rb er h1 h2 h3 h4 =>
   simp only[Sy.down]at hd
   simp only[chk,Bool.and_eq_true]at hc
   have:=h1.pos
   have:=h2.pos
   have:=h3.pos
   have:=h4.pos
   have e1:=ih h1 (by omega) ra _ (sokT ok _) (by rw[List.length_take]; omega) (by rw[List.length_take]; omega) hc.1
   have e2:=ih h2 (by omega) rb _ (sokD (sokT ok _) _) (by rw[List.length_drop,List.length_take]; omega) (by rw[List.length_drop,List.length_take]; omega) hc.2.1
   have e3:=ih h3 (by omega) ra.back _ (sokD (sokT ok _) _) (by rw[List.length_drop,List.length_take]; omega) (by rw[List.length_drop,List.length_take]; omega) hc.2.2.1
   have e4:=ih h4 (by omega) rb.back _ (sokD ok _) (by rw[List.length_drop]; omega) (by rw[List.length_drop]; omega) hc.2.2.2
   have ea:=zFp (F_0 n) s.t t.t p1.t p2.t p3.t p4.t ra rb st n1 (n1+n2) (n1+n2+n3) (by omega) (by omega) (by omega) (by omega) hL e1 e2 e3 e4
   rw[er]at ea
   have q:=fun Γ=>zEX Γ (.an n1 (n1+n2) (n1+n2+n3) a b p1 p2 p3 p4)
   simp only[PP.isStep,PP.t]at q
   simp only[PP.t,Sy.t]
   generalize spT st=L at *
   generalize tuT r=R at *
   generalize tuT a=A at *
   generalize tuT b=B at *
   generalize s.t=S at *
   generalize t.t=SS at *
   generalize p1.t=Q1 at *
   generalize p2.t=Q2 at *
   generalize p3.t=Q3 at *
   generalize p4.t=Q4 at *
   generalize ((n1:Nat):Int)=I at *
   generalize ((n1+n2:Nat):Int)=J at *
   generalize ((n1+n2+n3:Nat):Int)=KK at *
   simp only[bT,sT,iT]at *
   simp[F_0,fnD,d_0,q,ea,gd,g1,g2,isiS,tyN,subTy,inS,atomsOf,flatV,inV,eqV]
theorem zBr:∀ s:Sy,s.plain->s.parts<=s.wt * s.down
 | .yes,_=>by simp[Sy.parts,Sy.wt,Sy.down]
 | .no,_=>by simp[Sy.parts,Sy.wt,Sy.down]
 | .ask _,_=>by simp[Sy.parts,Sy.wt,Sy.down]
 | .nt a,h=>by
  have h1:=zBr a h
  have h2:=zBN a
  have e:a.wt * (1+a.down)=a.wt+a.wt * a.down:=by rw[Nat.mul_add,Nat.mul_one]
  simp only[Sy.parts,Sy.wt,Sy.down]
  omega
 | .an a b,h=>by
  have a1:=zBr a h.1
  have b1:=zBr b h.2
  have pa:=zBN a
  have ma:a.wt * a.down<=a.wt * max a.down b.down:=Nat.mul_le_mul_left _ (Nat.le_max_left _ _)
  have mb:b.wt * b.down<=b.wt * max a.down b.down:=Nat.mul_le_mul_left _ (Nat.le_max_right _ _)
  have e:2 * (a.wt+b.wt) * (1+max a.down b.down)=2 * (a.wt+b.wt)+2 * (a.wt * max a.down b.down)+2 * (b.wt * max a.down b.down):=by
   rw[Nat.mul_add,Nat.mul_one,Nat.mul_assoc,Nat.add_mul,Nat.mul_add,Nat.add_assoc]
   omega
  simp only[Sy.parts,Sy.wt,Sy.down]
  omega
theorem zJF{ip:Option Nat}{F:DF}{v:V}{da:DA}{Γ:En}:dCall ip F [v] da Γ=(da Γ).bind fun p=>if onceS ip p.1=true then (argsG ip p.2 0 (p.1++[.v (.a v)])).bind fun gs=>(F gs).map fun q=>(toS q.1,backS ip p.2 p.1 q.2) else none:=rfl
theorem zLR(s:Sy)(q:Nat)(hq:0 < q)(hq':q<=10)(hs:s.qs q)(hw:s.wt<=128)(hd:s.down<=6)(hp:s.parts<=24)(r:List Nat)(hr:Rg r):F_55 [.v s.t,.v (iT (q:Int)),.v (tuT r)]=some (.v (.a (.bl true)),[]):=by
 have pl:=zAX s
 have e1:=zE7 s q r hq hs hr hw (by omega) (by omega)
 have e2:=zG4 s q 128 r hq hs hr hw (by decide) (by omega) (by omega)
 have e2':F_36 [.v s.t,.v (iT (q:Int)),.v (tuT r),.v (iT 128)]=some (.v (danT 5 q (s.spell.steps r)),[]):=e2
 have e3:=zGI zEA s (Nat.le_trans hd (by decide))
 have hsd:=zAm s
 have hsw:=zAr s
 have hlen:=zAs s.spell r pl
 have ok:=(zBW hq s.spell r pl (zAj s hs) hr).ok
 have pf:=zBk s.spell r pl hr
 rw[← hlen]at pf
 have hck:=zBY hq s.spell r pl (zAj s hs) hr
 have hz:(s.spell.paper r).size<=5000:=by
  have h1:=pf.size
  have h2:(s.spell.steps r).length * s.spell.down<=128 * 36:=Nat.mul_le_mul (by omega) (by omega)
  omega
 have hpp:s.spell.parts<=80000:=by
  have h1:=zBr s.spell pl
  have h2:s.spell.wt * s.spell.down<=128 * 36:=Nat.mul_le_mul (by omega) (by omega)
  omega
 have h1:=zGH (q:=q) s r (s.spell.steps r) (s.spell.paper r) (iT 5) (iT (q:Int)) (by omega) ⟨pf,hr,ok,by dsimp only; omega⟩ (by omega)
 have h2:=zGH (q:=q) s.spell r (s.spell.steps r) (s.spell.paper r) (iT 5) (iT (q:Int)) hpp ⟨by rw[zAk]; exact pf,hr,ok,by dsimp only; omega⟩ (by omega)
 rw[zAk]at h2
 rw[hck]at h1 h2
 have h3:=zH2 zDs pf (show s.spell.down<=40 by omega) hr (s.spell.steps r) ok rfl (by omega) hck
 obtain⟨x,rx⟩:=zKU (by decide) hq' (s.spell.steps r) ok (by omega)
 obtain⟨y,ry⟩:=zIk hq' (s.spell.steps r) ok (by omega) pf hz (by omega)
 have f1:F_37 [.v s.t,.v (iT (q:Int)),.v (tuT r),.v (iT 128)]=some (.v (.t [.t [iT 5,iT (q:Int),spT (s.spell.steps r)],(s.spell.paper r).t]),[]):=e1
 have f2:F_36 [.v s.t,.v (iT (q:Int)),.v (tuT r),.v (iT 128)]=some (.v (.t [iT 5,iT (q:Int),spT (s.spell.steps r)]),[]):=e2
 have fx:∀ Γ:En,reprS Γ [.v (.t [iT 5,iT (q:Int),spT (s.spell.steps r)])]=some (.v (.a (.str x))):=rx
 have fy:∀ Γ:En,reprS Γ [.v (.t [.t [iT 5,iT (q:Int),spT (s.spell.steps r)],(s.spell.paper r).t])]=some (.v (.a (.str y))):=ry
 clear hck hz hpp pf ok hlen hsd hsw pl hd hp hw hs hq hq' e1 e2 e2' rx ry
 generalize spT (s.spell.steps r)=ST at *
 generalize (s.spell.paper r).t=P at *
 generalize s.spell.t=SS at *
 generalize s.t=S at *
 generalize tuT r=R at *
 simp only[iT,bT]at *
 generalize (q:Int)=Q at *
 have g2:(2:Nat)<=sizeLine:=by decide
 simp[F_55,fnD,d_55,zJF,f1,f2,e3,h1,h2,h3,fx,fy,isBS,isiS,tyN,subTy,gd,g2,-zG2]
theorem zLP(ns:List Int)(k:Nat)(hk:k < 1000)(o2 o3 o4:Option G):∃ (p2 p3 p4:Option G),zCm [some (.k (intsT ns)),some (.v (iT (k:Int))),o2,o3,o4]=some (.nx [some (.k (intsT ns)),some (.v (iT (k:Int))),p2,p3,p4]):=by
 obtain⟨a,b,e1⟩:=zOn ns k (by omega) (by omega)
 obtain⟨c,a1,b1,hc,e2⟩:=zAu a b 4 (by decide) (by decide)
 obtain⟨q,hq⟩:∃ q:Nat,q=1+c:=⟨1+c,rfl⟩
 obtain⟨d,a2,b2,hd,e3⟩:=zAu a1 b1 3 (by decide) (by decide)
 obtain⟨m,hm,hm1,em⟩:∃ m:Nat,m<=128/\1<=m/\atI [iT 16,iT 40,iT 128] (d:Int)=some (iT (m:Int)):=by
  match d,hd with
  | 0,_=>exact⟨16,by decide,by decide,rfl⟩
  | 1,_=>exact⟨40,by decide,by decide,rfl⟩
  | 2,_=>exact⟨128,by decide,by decide,rfl⟩
 obtain⟨s,a3,b3,u1,u2,u3,u4,e4⟩:=zLZ q 24 m (by omega) (by omega) (by decide) (by decide) hm1 (by omega) a2 b2
 obtain⟨row,a4,b4,_,hp,hr0,e5⟩:=zMi a3 b3 5 (by decide) (by decide)
 have hr:Rg (ringOf 5 row):=by
  have:=List.all_eq_true.mp allR5 row (zC5 (zDO hp))
  simp only[Bool.or_eq_true,bne_iff_ne,ne_eq]at this
  rcases this with z | z
  ·exact absurd hr0 z
  ·exact⟨by simpa using z⟩
 have e6:=zLR s q (by omega) (by omega) u2 (by omega) u1 u4 (ringOf 5 row) hr
 refine⟨some (.l [iT a4,iT b4]),some (.v (iT (q:Int))),some (.v s.t),?_⟩
 have cx:(1:Int)+(c:Int)=(q:Int):=by omega
 have g3:(3:Nat)<=sizeLine:=by decide
 have e2':F_7 [.l [iT a,iT b],.v (iT 4)]=some (.v (iT (c:Int)),[iT a1,iT b1]):=e2
 have e3':F_7 [.l [iT a1,iT b1],.v (iT 3)]=some (.v (iT (d:Int)),[iT a2,iT b2]):=e3
 have e4':F_8 [.l [iT a2,iT b2],.v (iT (q:Int)),.v (iT 24),.v (iT (m:Int))]=some (.v s.t,[iT a3,iT b3]):=e4
 have e5':F_56 [.l [iT a3,iT b3],.v (iT 5)]=some (.v (tuT (ringOf 5 row)),[iT a4,iT b4]):=e5
 clear e2 e3 e4 e5 u1 u2 u3 u4 hr hp hr0 hq hc hd hm hm1
 generalize intsT ns=NS at *
 generalize tuT (ringOf 5 row)=R at *
 generalize s.t=S at *
 simp only[iT,bT]at *
 generalize (q:Int)=Q at *
 generalize (c:Int)=C at *
 generalize (d:Int)=DD at *
 generalize (m:Int)=MM at *
 generalize (k:Int)=KK at *
 unfold zCm
 refine zEf (Γ':=[some (.k NS),some (.v (.a (.int KK))),some (.l [.a (.int a),.a (.int b)]),o3,o4]) (by simp[e1]) ?_
 refine zEf (Γ':=[some (.k NS),some (.v (.a (.int KK))),some (.l [.a (.int a1),.a (.int b1)]),some (.v (.a (.int Q))),o4]) (by simp[e2',cx]) ?_
 refine zEf (Γ':=[some (.k NS),some (.v (.a (.int KK))),some (.l [.a (.int a3),.a (.int b3)]),some (.v (.a (.int Q))),some (.v S)]) (by simp[e3',em,e4',gd,g3]) ?_
 simp[e5',e6]
theorem zFt(ns:List Int):∀ (is:List Nat),(∀ k∈is,k < 1000)->∀ (o1 o2 o3 o4:Option G),∃ (p1 p2 p3 p4:Option G),
  forD (gdName 1) zCm (is.map fun (k:Nat)=>iT (k:Int)) [some (.k (intsT ns)),o1,o2,o3,o4]=some (.nx [some (.k (intsT ns)),p1,p2,p3,p4])
 | [],_,o1,o2,o3,o4=>⟨o1,o2,o3,o4,rfl⟩
 | k::r,hk,o1,o2,o3,o4=>by
  obtain⟨p2,p3,p4,e⟩:=zLP ns k (hk k List.mem_cons_self) o2 o3 o4
  obtain⟨r1,r2,r3,r4,e'⟩:=zFt ns r (fun j hj=>hk j (List.mem_cons_of_mem _ hj)) (some (.v (iT (k:Int)))) p2 p3 p4
  refine⟨r1,r2,r3,r4,?_⟩
  rw[List.map_cons,← e']
  exact zJq (by simp) e
theorem law_true(ns:List Int)(hn:ns.length<=63):zCh [.k (intsT ns)]=some (.v (.a (.bl true)),[]):=by
 have hl:(cutT (intsT ns) none (some 1)).length=min 1 ns.length:=by
  have:=zCZ (intsT ns) 1
  rw[show ((1:Nat):Int)=1 from rfl]at this
  rw[this]
  simp[intsT]
 obtain⟨m,hm⟩:∃ m:Nat,m=1+min 1 ns.length:=⟨_,rfl⟩
 obtain⟨p1,p2,p3,p4,e⟩:=zFt ns (List.range m) (fun k hk=>by have:=List.mem_range.mp hk; omega) none none none none
 have ec:(1:Int)+((cutT (intsT ns) none (some 1)).length:Int)=(m:Int):=by rw[hl]; omega
 have er:=zCa m (by omega)
 have et:rngT 0 m=(List.range m).map fun (k:Nat)=>iT (k:Int):=by simp[rngT]
 rw[et]at er
 generalize (List.range m).map (fun (k:Nat)=>iT (k:Int))=RR at e er
 simp[zCh,fnD,zLm,ec,er,e]
structure Wr(K:PySem.W.Frag)(x:Str)(st:Stmt)(f:Addr):Prop where
 a:nsIn K mainGlobals x=some (some (.ref f))
 F:∃ fd,Fun K x x st f fd
theorem wr_mk{K:PySem.W.Frag}{x:Str}{st:Stmt}{f:Addr}{oc:Value}{od an:Option Addr}{osl:Array (Option Value)}{kV doc pm cdv ct:Value}(a:nsIn K mainGlobals x=some (some (.ref f)))(l:K.lookup f=some ⟨oc,od,.func (fnOf x x (defArgs st) (defBody st) (defScope st) .none kV doc pm an cdv ct),osl⟩)
  (c:PySem.W.codeIn K cdv x=true) (k:PySem.W.keepIn K (.ref f)=true):Wr K x st f:=⟨a,_,zKP l c k⟩
local macro_rules | `(tactic| walk_at "b") => `(tactic| (intro _ _ _ _ _ _ us hl; first|(obtain⟨_,h⟩:=len1 hl; subst h; exact rfl)|(obtain⟨_,_,h⟩:=len2 hl; subst h; exact rfl)|(obtain⟨_,_,_,h⟩:=len3 hl; subst h; exact rfl)|(obtain⟨_,_,_,_,h⟩:=len4 hl; subst h; exact rfl)))
theorem all_mk{l:PySem.W.OpenLaw}{w:World}{K:PySem.W.Frag}{h:Heap}{mg:Str->Option Value}{fa:Addr}(X:K.In h)(G:h.Ns mainGlobals mg)(hfa:mg "law"=some (.ref fa))
  {f1:Addr} (w1:Wr K "_law_box" st_6 f1)
  {f2:Addr} (w2:Wr K "_law_take" st_7 f2)
  {f3:Addr} (w3:Wr K "_law_saying" st_2 f3)
  {f4:Addr} (w4:Wr K "_law_weighed" st_4 f4)
  {f5:Addr} (w5:Wr K "_law_weight" st_5 f5)
  {f6:Addr} (w6:Wr K "_law_many_parts" st_1 f6)
  {f7:Addr} (w7:Wr K "_law_light" st_8 f7)
  {f8:Addr} (w8:Wr K "is_turning" st_9 f8)
  {f9:Addr} (w9:Wr K "row_from" zIo f9)
  {f10:Addr} (w10:Wr K "rings_of" zIU f10)
  {f11:Addr} (w11:Wr K "is_ring" zH8 f11)
  {f12:Addr} (w12:Wr K "is_ring_of_five" zIi f12)
  {f13:Addr} (w13:Wr K "inner" zIq f13)
  {f14:Addr} (w14:Wr K "leading" zID f14)
  {f15:Addr} (w15:Wr K "then" zHU f15)
  {f16:Addr} (w16:Wr K "back" zHT f16)
  {f17:Addr} (w17:Wr K "there_back" zHy f17)
  {f18:Addr} (w18:Wr K "about" zHj f18)
  {f19:Addr} (w19:Wr K "apart" zIM f19)
  {f20:Addr} (w20:Wr K "pieces_in" zIE f20)
  {f21:Addr} (w21:Wr K "all_within" zIK f21)
  {f22:Addr} (w22:Wr K "weight_of" zHa f22)
  {f23:Addr} (w23:Wr K "either_or_both" zHS f23)
  {f24:Addr} (w24:Wr K "spelled_of" zIW f24)
  {f25:Addr} (w25:Wr K "last_followed" zIZ f25)
  {f26:Addr} (w26:Wr K "still" zIH f26)
  {f27:Addr} (w27:Wr K "bare_step" zHr f27)
  {f28:Addr} (w28:Wr K "steps_of" zIa f28)
  {f29:Addr} (w29:Wr K "paper_of" zH7 f29)
  {f30:Addr} (w30:Wr K "fold_within" zIg f30)
  {f31:Addr} (w31:Wr K "folded" zHq f31)
  {f32:Addr} (w32:Wr K "weight" zIN f32)
  {f33:Addr} (w33:Wr K "look_at_making" zIv f33)
  {f34:Addr} (w34:Wr K "spelled" zHV f34)
  {f35:Addr} {od35 an35:Option Addr} {sl35:Array (Option Value)} {oc35 kV35 dc35 pm35 cd35 ct35:Value}
  {pdf35:Addr} {ndf35:Nat} {sdf35:Array (Option Value)} {tdf35:Tok} (dfl35:K.lookup pdf35=some ⟨.type "tuple",none,.seq [Value.int 128 tdf35].toArray ndf35,sdf35⟩)
  (a35:nsIn K mainGlobals "made"=some (some (.ref f35))) (l35:K.lookup f35=some ⟨oc35,od35,.func (fnOf "made" "made" (defArgs zDK) (defBody zDK) (defScope zDK) (.ref pdf35) kV35 dc35 pm35 an35 cd35 ct35),sl35⟩) (c35:PySem.W.codeIn K cd35 "made"=true) (k35:PySem.W.keepIn K (.ref f35)=true)
  {f36:Addr} {od36 an36:Option Addr} {sl36:Array (Option Value)} {oc36 kV36 dc36 pm36 cd36 ct36:Value}
  {pdf36:Addr} {ndf36:Nat} {sdf36:Array (Option Value)} {tdf36:Tok} (dfl36:K.lookup pdf36=some ⟨.type "tuple",none,.seq [Value.int 128 tdf36].toArray ndf36,sdf36⟩)
  (a36:nsIn K mainGlobals "made_with_paper"=some (some (.ref f36))) (l36:K.lookup f36=some ⟨oc36,od36,.func (fnOf "made_with_paper" "made_with_paper" (defArgs zDD) (defBody zDD) (defScope zDD) (.ref pdf36) kV36 dc36 pm36 an36 cd36 ct36),sl36⟩) (c36:PySem.W.codeIn K cd36 "made_with_paper"=true) (k36:PySem.W.keepIn K (.ref f36)=true)
  {f37:Addr} (w37:Wr K "_law_spelled" st_3 f37)
  {f38:Addr} (w38:Wr K "is_form" zHp f38)
  {f39:Addr} (w39:Wr K "not_claims" zIf f39)
  {f40:Addr} (w40:Wr K "is_whole" zH3 f40)
  {f41:Addr} (w41:Wr K "are_cuts" zHi f41)
  {f42:Addr} (w42:Wr K "is_any_ring_of_five" zHc f42)
  {f43:Addr} (w43:Wr K "and_claims" zH4 f43)
  {f44:Addr} (w44:Wr K "is_step_for" zIS f44)
  {f45:Addr} (w45:Wr K "claims_in" zIA f45)
  {f46:Addr} (w46:Wr K "paper_holds" zIt f46)
  {f47:Addr} (w47:Wr K "_law_back" zIF f47)
  {f48:Addr} (w48:Wr K "_law_step_holds" zHd f48)
  {f49:Addr} (w49:Wr K "_law_then" zH0 f49)
  {f50:Addr} (w50:Wr K "_law_followed" zH5 f50)
  {f51:Addr} (w51:Wr K "_law_is_ring" zH6 f51)
  {f52:Addr} (w52:Wr K "_law_is_aim" zIQ f52)
  {f53:Addr} (w53:Wr K "_law_there_back" zHs f53)
  {f54:Addr} (w54:Wr K "_law_and_holds" zH1 f54)
  {f55:Addr} (w55:Wr K "_law_holds" st_0 f55)
  {f56:Addr} (w56:Wr K "_law_right" zHm f56)
  {f57:Addr} (w57:Wr K "_law_ring" zIO f57)
  {f58:Addr} {od58 an58:Option Addr} {sl58:Array (Option Value)} {oc58 kV58 dc58 pm58 cd58 ct58:Value}
  (a58:nsIn K mainGlobals "law"=some (some (.ref f58))) (l58:K.lookup f58=some ⟨oc58,od58,.func (fnOf "law" "law" (defArgs zBd) (defBody zBd) (defScope zBd) .none kV58 dc58 pm58 an58 cd58 ct58),sl58⟩) (c58:PySem.W.codeIn K cd58 "law"=true) (k58:PySem.W.keepIn K (.ref f58)=true)
  (z1:nsIn K mainGlobals "all"=some none)
  (z2:nsIn K mainGlobals "bool"=some none)
  (z3:nsIn K mainGlobals "dict"=some none)
  (z4:nsIn K mainGlobals "enumerate"=some none)
  (z5:nsIn K mainGlobals "int"=some none)
  (z6:nsIn K mainGlobals "isinstance"=some none)
  (z7:nsIn K mainGlobals "len"=some none)
  (z8:nsIn K mainGlobals "list"=some none)
  (z9:nsIn K mainGlobals "max"=some none)
  (z10:nsIn K mainGlobals "min"=some none)
  (z11:nsIn K mainGlobals "range"=some none)
  (z12:nsIn K mainGlobals "repr"=some none)
  (z13:nsIn K mainGlobals "reversed"=some none)
  (z14:nsIn K mainGlobals "sorted"=some none)
  (z15:nsIn K mainGlobals "sum"=some none)
  (z16:nsIn K mainGlobals "tuple"=some none)
  (z17:nsIn K mainGlobals "zip"=some none)
  {pk1:Addr} {nk1:Nat} {slk1:Array (Option Value)} {t1_0 t1_1 t1_2 t1_3 t1_4:Tok} (ka1:nsIn K mainGlobals "OVER"=some (some (.ref pk1))) (kl1:K.lookup pk1=some ⟨.type "tuple",none,.seq [Value.int 1 t1_0,Value.int 3 t1_1,Value.int 0 t1_2,Value.int 4 t1_3,Value.int 2 t1_4].toArray nk1,slk1⟩)
  {pk2:Addr} {nk2:Nat} {slk2:Array (Option Value)} {t2_0 t2_1 t2_2 t2_3 t2_4:Tok} (ka2:nsIn K mainGlobals "THERE"=some (some (.ref pk2))) (kl2:K.lookup pk2=some ⟨.type "tuple",none,.seq [Value.int 1 t2_0,Value.int 2 t2_1,Value.int 3 t2_2,Value.int 4 t2_3,Value.int 0 t2_4].toArray nk2,slk2⟩) :
  ∃ fd:FuncData,(∀ (s:Shared) (v:Value),BindsTo s fd ⟨[v],[]⟩ [("_law_script",v)])/\∀ base:Heap,K.In base->base.Ns mainGlobals mg->FnOk l.prog w K mg base CX0 84 fa fd ["_law_script"] (spD K none 1 zCh):=by
 have e:=hfa.symm.trans (mg_of X G a58)
 cases e
 have z_all:=mg_none_of X G z1
 have z_bool:=mg_none_of X G z2
 have z_dict:=mg_none_of X G z3
 have z_enumerate:=mg_none_of X G z4
 have z_int:=mg_none_of X G z5
 have z_isinstance:=mg_none_of X G z6
 have z_len:=mg_none_of X G z7
 have z_list:=mg_none_of X G z8
 have z_max:=mg_none_of X G z9
 have z_min:=mg_none_of X G z10
 have z_range:=mg_none_of X G z11
 have z_repr:=mg_none_of X G z12
 have z_reversed:=mg_none_of X G z13
 have z_sorted:=mg_none_of X G z14
 have z_sum:=mg_none_of X G z15
 have z_tuple:=mg_none_of X G z16
 have z_zip:=mg_none_of X G z17
 have k_OVER:KV K mg "OVER" zCU:=zHO [1,3,0,4,2] (mg_of X G ka1) kl1 (.cons ⟨_,rfl⟩ (.cons ⟨_,rfl⟩ (.cons ⟨_,rfl⟩ (.cons ⟨_,rfl⟩ (.cons ⟨_,rfl⟩ (.nil)))))) (by show 5<=sizeLine; decide)
 have k_THERE:KV K mg "THERE" zCD:=zHO [1,2,3,4,0] (mg_of X G ka2) kl2 (.cons ⟨_,rfl⟩ (.cons ⟨_,rfl⟩ (.cons ⟨_,rfl⟩ (.cons ⟨_,rfl⟩ (.cons ⟨_,rfl⟩ (.nil)))))) (by show 5<=sizeLine; decide)
 obtain⟨a1,_,F1⟩:=w1
 have b1:=F1.binds (ps:=["_law_script","_law_k"]) (by walk_at "b")
 have m1:=mg_of X G a1
 obtain⟨a2,_,F2⟩:=w2
 have b2:=F2.binds (ps:=["_law_box_here","_law_wide"]) (by walk_at "b")
 have m2:=mg_of X G a2
 obtain⟨a3,_,F3⟩:=w3
 have b3:=F3.binds (ps:=["_law_box_here","_law_questions","_law_room","_law_down"]) (by walk_at "b")
 have m3:=mg_of X G a3
 obtain⟨a4,_,F4⟩:=w4
 have b4:=F4.binds (ps:=["_law_box_here","_law_questions","_law_most","_law_down"]) (by walk_at "b")
 have m4:=mg_of X G a4
 obtain⟨a5,_,F5⟩:=w5
 have b5:=F5.binds (ps:=["_law_saying_here"]) (by walk_at "b")
 have m5:=mg_of X G a5
 obtain⟨a6,_,F6⟩:=w6
 have b6:=F6.binds (ps:=["_law_saying_here"]) (by walk_at "b")
 have m6:=mg_of X G a6
 obtain⟨a7,_,F7⟩:=w7
 have b7:=F7.binds (ps:=["_law_box_here","_law_questions","_law_room","_law_most"]) (by walk_at "b")
 have m7:=mg_of X G a7
 obtain⟨a8,_,F8⟩:=w8
 have b8:=F8.binds (ps:=["cups","thing"]) (by walk_at "b")
 have m8:=mg_of X G a8
 obtain⟨a9,_,F9⟩:=w9
 have b9:=F9.binds (ps:=["turning","place"]) (by walk_at "b")
 have m9:=mg_of X G a9
 obtain⟨a10,_,F10⟩:=w10
 have b10:=F10.binds (ps:=["turning"]) (by walk_at "b")
 have m10:=mg_of X G a10
 obtain⟨a11,_,F11⟩:=w11
 have b11:=F11.binds (ps:=["turning"]) (by walk_at "b")
 have m11:=mg_of X G a11
 obtain⟨a12,_,F12⟩:=w12
 have b12:=F12.binds (ps:=["thing"]) (by walk_at "b")
 have m12:=mg_of X G a12
 obtain⟨a13,_,F13⟩:=w13
 have b13:=F13.binds (ps:=["saying"]) (by walk_at "b")
 have m13:=mg_of X G a13
 have n_inner:NK K mg "inner":=⟨_,a13,m13⟩
 obtain⟨a14,_,F14⟩:=w14
 have b14:=F14.binds (ps:=["one","other"]) (by walk_at "b")
 have m14:=mg_of X G a14
 obtain⟨a15,_,F15⟩:=w15
 have b15:=F15.binds (ps:=["one","other"]) (by walk_at "b")
 have m15:=mg_of X G a15
 obtain⟨a16,_,F16⟩:=w16
 have b16:=F16.binds (ps:=["turning"]) (by walk_at "b")
 have m16:=mg_of X G a16
 obtain⟨a17,_,F17⟩:=w17
 have b17:=F17.binds (ps:=["a","b"]) (by walk_at "b")
 have m17:=mg_of X G a17
 obtain⟨a18,_,F18⟩:=w18
 have b18:=F18.binds (ps:=["turning","by"]) (by walk_at "b")
 have m18:=mg_of X G a18
 obtain⟨a19,_,F19⟩:=w19
 have b19:=F19.binds (ps:=["ring"]) (by walk_at "b")
 have m19:=mg_of X G a19
 obtain⟨a20,_,F20⟩:=w20
 have b20:=F20.binds (ps:=["piece"]) (by walk_at "b")
 have m20:=mg_of X G a20
 have n_pieces_in:NK K mg "pieces_in":=⟨_,a20,m20⟩
 obtain⟨a21,_,F21⟩:=w21
 have b21:=F21.binds (ps:=["whole","inside_of"]) (by walk_at "b")
 have m21:=mg_of X G a21
 obtain⟨a22,_,F22⟩:=w22
 have b22:=F22.binds (ps:=["part","inside"]) (by walk_at "b")
 have m22:=mg_of X G a22
 have n_weight_of:NK K mg "weight_of":=⟨_,a22,m22⟩
 obtain⟨a23,_,F23⟩:=w23
 have b23:=F23.binds (ps:=["s","t"]) (by walk_at "b")
 have m23:=mg_of X G a23
 obtain⟨a24,_,F24⟩:=w24
 have b24:=F24.binds (ps:=["part","inside"]) (by walk_at "b")
 have m24:=mg_of X G a24
 have n_spelled_of:NK K mg "spelled_of":=⟨_,a24,m24⟩
 obtain⟨a25,_,F25⟩:=w25
 have b25:=F25.binds (ps:=["steps","turning"]) (by walk_at "b")
 have m25:=mg_of X G a25
 obtain⟨a26,_,F26⟩:=w26
 have b26:=F26.binds (ps:=["cups"]) (by walk_at "b")
 have m26:=mg_of X G a26
 obtain⟨a27,_,F27⟩:=w27
 have b27:=F27.binds (ps:=["saying","ring"]) (by walk_at "b")
 have m27:=mg_of X G a27
 obtain⟨a28,_,F28⟩:=w28
 have b28:=F28.binds (ps:=["piece","inside"]) (by walk_at "b")
 have m28:=mg_of X G a28
 have n_steps_of:NK K mg "steps_of":=⟨_,a28,m28⟩
 obtain⟨a29,_,F29⟩:=w29
 have b29:=F29.binds (ps:=["piece","inside"]) (by walk_at "b")
 have m29:=mg_of X G a29
 have n_paper_of:NK K mg "paper_of":=⟨_,a29,m29⟩
 obtain⟨a30,_,F30⟩:=w30
 have b30:=F30.binds (ps:=["whole","inside_of","put"]) (by walk_at "b")
 have m30:=mg_of X G a30
 obtain⟨a31,_,F31⟩:=w31
 have b31:=F31.binds (ps:=["saying","put"]) (by walk_at "b")
 have m31:=mg_of X G a31
 obtain⟨a32,_,F32⟩:=w32
 have b32:=F32.binds (ps:=["saying"]) (by walk_at "b")
 have m32:=mg_of X G a32
 obtain⟨a33,_,F33⟩:=w33
 have b33:=F33.binds (ps:=["saying","ring","most"]) (by walk_at "b")
 have m33:=mg_of X G a33
 obtain⟨a34,_,F34⟩:=w34
 have b34:=F34.binds (ps:=["saying"]) (by walk_at "b")
 have m34:=mg_of X G a34
 have F35:=zGy (st:=zDK) l35 c35 k35
 have b35:=F35.binds (ps:=["saying","questions","ring","most"]) (ds:=[]) dfl35 rfl fun _ _ _ _ _ _ us hl=>by obtain⟨_,_,_,_,rfl⟩:=len4 (show us.length=4 by simpa using hl); exact⟨_,rfl,rfl⟩
 have bd35:=F35.binds (ps:=["saying","questions","ring","most"]) (ds:=[Value.int 128 tdf35]) dfl35 rfl fun _ _ _ _ _ _ us hl=>by obtain⟨_,_,_,rfl⟩:=len3 (show us.length=3 by simpa using hl); exact⟨_,rfl,rfl⟩
 have m35:=mg_of X G a35
 have F36:=zGy (st:=zDD) l36 c36 k36
 have b36:=F36.binds (ps:=["saying","questions","ring","most"]) (ds:=[]) dfl36 rfl fun _ _ _ _ _ _ us hl=>by obtain⟨_,_,_,_,rfl⟩:=len4 (show us.length=4 by simpa using hl); exact⟨_,rfl,rfl⟩
 have bd36:=F36.binds (ps:=["saying","questions","ring","most"]) (ds:=[Value.int 128 tdf36]) dfl36 rfl fun _ _ _ _ _ _ us hl=>by obtain⟨_,_,_,rfl⟩:=len3 (show us.length=3 by simpa using hl); exact⟨_,rfl,rfl⟩
 have m36:=mg_of X G a36
 obtain⟨a37,_,F37⟩:=w37
 have b37:=F37.binds (ps:=["_law_saying_here"]) (by walk_at "b")
 have m37:=mg_of X G a37
 obtain⟨a38,_,F38⟩:=w38
 have b38:=F38.binds (ps:=["paper","word","many"]) (by walk_at "b")
 have m38:=mg_of X G a38
 obtain⟨a39,_,F39⟩:=w39
 have b39:=F39.binds (ps:=["saying","ring","row","paper"]) (by walk_at "b")
 have m39:=mg_of X G a39
 obtain⟨a40,_,F40⟩:=w40
 have b40:=F40.binds (ps:=["thing"]) (by walk_at "b")
 have m40:=mg_of X G a40
 obtain⟨a41,_,F41⟩:=w41
 have b41:=F41.binds (ps:=["cuts","many"]) (by walk_at "b")
 have m41:=mg_of X G a41
 obtain⟨a42,_,F42⟩:=w42
 have b42:=F42.binds (ps:=["thing"]) (by walk_at "b")
 have m42:=mg_of X G a42
 obtain⟨a43,_,F43⟩:=w43
 have b43:=F43.binds (ps:=["saying","ring","row","paper"]) (by walk_at "b")
 have m43:=mg_of X G a43
 obtain⟨a44,_,F44⟩:=w44
 have b44:=F44.binds (ps:=["saying","ring","row"]) (by walk_at "b")
 have m44:=mg_of X G a44
 obtain⟨a45,_,F45⟩:=w45
 have b45:=F45.binds (ps:=["saying","ring","row","paper"]) (by walk_at "b")
 have m45:=mg_of X G a45
 obtain⟨a46,_,F46⟩:=w46
 have b46:=F46.binds (ps:=["saying","ring","dance","paper"]) (by walk_at "b")
 have m46:=mg_of X G a46
 obtain⟨a47,_,F47⟩:=w47
 have b47:=F47.binds (ps:=["_law_turning"]) (by walk_at "b")
 have m47:=mg_of X G a47
 obtain⟨a48,_,F48⟩:=w48
 have b48:=F48.binds (ps:=["_law_saying_here","_law_ring_here","_law_steps"]) (by walk_at "b")
 have m48:=mg_of X G a48
 obtain⟨a49,_,F49⟩:=w49
 have b49:=F49.binds (ps:=["_law_one","_law_other"]) (by walk_at "b")
 have m49:=mg_of X G a49
 obtain⟨a50,_,F50⟩:=w50
 have b50:=F50.binds (ps:=["_law_steps","_law_turning"]) (by walk_at "b")
 have m50:=mg_of X G a50
 obtain⟨a51,_,F51⟩:=w51
 have b51:=F51.binds (ps:=["_law_thing"]) (by walk_at "b")
 have m51:=mg_of X G a51
 obtain⟨a52,_,F52⟩:=w52
 have b52:=F52.binds (ps:=["_law_thing"]) (by walk_at "b")
 have m52:=mg_of X G a52
 obtain⟨a53,_,F53⟩:=w53
 have b53:=F53.binds (ps:=["_law_a","_law_b"]) (by walk_at "b")
 have m53:=mg_of X G a53
 obtain⟨a54,_,F54⟩:=w54
 have b54:=F54.binds (ps:=["_law_saying_here","_law_ring_here","_law_steps","_law_paper"]) (by walk_at "b")
 have m54:=mg_of X G a54
 obtain⟨a55,_,F55⟩:=w55
 have b55:=F55.binds (ps:=["_law_saying_here","_law_ring_here","_law_steps","_law_paper"]) (by walk_at "b")
 have m55:=mg_of X G a55
 obtain⟨a56,_,F56⟩:=w56
 have b56:=F56.binds (ps:=["_law_saying_here","_law_questions","_law_ring_here"]) (by walk_at "b")
 have m56:=mg_of X G a56
 obtain⟨a57,_,F57⟩:=w57
 have b57:=F57.binds (ps:=["_law_box_here","_law_cups"]) (by walk_at "b")
 have m57:=mg_of X G a57
 have F58:=zKP (st:=zBd) l58 c58 k58
 have b58:=F58.binds (ps:=["_law_script"]) (by walk_at "b")
 have m58:=mg_of X G a58
 refine⟨fnOf "law" "law" (defArgs zBd) (defBody zBd) (defScope zBd) .none kV58 dc58 pm58 an58 cd58 ct58,fun s v=>.of_eq rfl,fun base _ _=>?_⟩
 have D_6:=ok_6 (P:=l.prog) (wd:=w) (base:=base) F1 m1 b1 z_int z_len
 have D_7:=ok_7 (P:=l.prog) (wd:=w) (base:=base) F2 m2 b2
 have D_2:=ok_2 F3 m3 b3 z_max D_7 zBa
 have D_4:=ok_4 F4 m4 b4 D_7 D_2 zDB
 have D_5:=ok_5 (P:=l.prog) (wd:=w) (base:=base) F5 m5 b5 z_int z_isinstance z_tuple zD6
 have D_1:=ok_1 (P:=l.prog) (wd:=w) (base:=base) F6 m6 b6 z_isinstance z_sum z_tuple zDp
 have D_8:=ok_8 F7 m7 b7 z_len D_7 D_2 D_4 D_5 D_1
 have D_9:=ok_9 (P:=l.prog) (wd:=w) (base:=base) F8 m8 b8 z_list z_range z_sorted
 have D_10:=zQC (P:=l.prog) (wd:=w) (base:=base) F9 m9 b9 z_tuple
 have D_11:=zQL F10 m10 b10 z_len z_min z_range D_10
 have D_12:=zPF F11 m11 b11 z_len D_11
 have D_13:=zOr F12 m12 b12 D_9 D_12
 have D_14:=zPo (P:=l.prog) (wd:=w) (base:=base) F13 m13 b13
 have D_15:=zQB F14 m14 b14 z_dict z_len z_range z_tuple z_zip D_11
 have D_16:=zPP (P:=l.prog) (wd:=w) (base:=base) F15 m15 b15 z_tuple
 have D_17:=zQR (P:=l.prog) (wd:=w) (base:=base) F16 m16 b16 z_len z_range z_tuple
 have D_18:=zO1 F17 m17 b17 D_16 D_17
 have D_19:=zPc F18 m18 b18 D_16 D_17
 have D_20:=zPj F19 m19 b19 k_OVER k_THERE D_15 D_18 D_19
 have D_21:=zPH F20 m20 b20 D_17 D_20
 have D_22:=zP5 F21 m21 b21 z_list z_reversed D_14 D_21
 have D_23:=zPt (P:=l.prog) (wd:=w) (base:=base) F22 m22 b22
 have D_24:=zPd (P:=l.prog) (wd:=w) (base:=base) F23 m23 b23
 have D_25:=zPa F24 m24 b24 z_tuple D_24
 have D_26:=zPh F25 m25 b25 D_16
 have D_27:=zQS (P:=l.prog) (wd:=w) (base:=base) F26 m26 b26 z_range z_tuple
 have D_28:=zPp F27 m27 b27 D_27
 have D_29:=zP6 F28 m28 b28 D_26 D_28
 have D_30:=zO4 F29 m29 b29 z_tuple D_20
 have D_31:=zP4 F30 m30 b30 z_reversed D_14 D_21 D_22 D_23 D_25 D_29 D_30
 have D_32:=zPN F31 m31 b31 n_inner D_31
 have D_33:=zPs F32 m32 b32 n_weight_of D_32
 have D_34:=zPq F33 m33 b33 D_13 D_33
 have D_35:=zOt F34 m34 b34 n_spelled_of D_32
 have DD_36:=zQI (P:=l.prog) (wd:=w) (base:=base) F35 m35 b35 bd35 (.cons ⟨_,rfl⟩ .nil) n_pieces_in n_steps_of D_31 D_34 D_35
 have D_36:=DD_36.1
 have Dd_36:=DD_36.2
 have DD_37:=zPS (P:=l.prog) (wd:=w) (base:=base) F36 m36 b36 bd36 (.cons ⟨_,rfl⟩ .nil) n_paper_of n_pieces_in D_31 D_35 D_36
 have D_37:=DD_37.1
 have Dd_37:=DD_37.2
 have D_3:=ok_3 (P:=l.prog) (wd:=w) (base:=base) F37 m37 b37 z_int z_isinstance z_tuple zEA
 have D_38:=zP3 (P:=l.prog) (wd:=w) (base:=base) F38 m38 b38 z_isinstance z_len z_tuple
 have D_39:=zPe F39 m39 b39 z_len D_17 D_26
 have D_40:=zO3 (P:=l.prog) (wd:=w) (base:=base) F40 m40 b40 z_bool z_int z_isinstance
 have D_41:=zO7 F41 m41 b41 z_all D_40
 have D_42:=zQH F42 m42 b42 z_all z_isinstance z_tuple D_13 D_40
 have D_43:=zQJ F43 m43 b43 z_len D_17 D_18 D_41 D_42
 have D_44:=zPb F44 m44 b44 z_len D_27
 have D_45:=zQD F45 m45 b45 D_38 D_39 D_43 D_44
 have D_46:=zQP F46 m46 b46 D_35 D_45
 have D_47:=zPx (P:=l.prog) (wd:=w) (base:=base) F47 m47 b47 z_len z_range z_tuple
 have D_48:=zPB (P:=l.prog) (wd:=w) (base:=base) F48 m48 b48 z_len
 have D_49:=zQF (P:=l.prog) (wd:=w) (base:=base) F49 m49 b49 z_tuple
 have D_50:=zQK F50 m50 b50 D_49
 have D_51:=zPr (P:=l.prog) (wd:=w) (base:=base) F51 m51 b51 z_len z_sorted
 have D_52:=zPZ F52 m52 b52 z_all z_int z_isinstance z_tuple D_51
 have D_53:=zP9 F53 m53 b53 D_47 D_49
 have D_54:∀ (lr:Nat) (recF:DF),2<=lr->FD l.prog w K mg base lr "_law_holds" none 4 recF->FD l.prog w K mg base (lr+1) "_law_and_holds" none 4 (F_54 recF):=fun lr recF hlr Dr=>zPl F54 m54 b54 z_all z_int z_isinstance z_len z_zip D_47 D_52 D_53 hlr Dr
 have D_0:=ok_0 F55 m55 b55 z_isinstance z_len z_tuple D_47 D_48 D_50 D_54 zDs
 have D_55:=zPf F56 m56 b56 z_isinstance z_len z_repr z_tuple D_37 D_3 D_46 D_0 Dd_36 Dd_37
 have D_56:=zPz F57 m57 b57 z_enumerate z_len z_list z_range z_tuple D_7
 exact zOp F58 z_len z_range D_6 D_7 D_8 D_55 D_56
theorem walk{l:PySem.W.OpenLaw}{q:Program}{loose:List Str}{XP:(Str->Option Value)->Heap->Prop}{YP:World->Heap->Prop}{d:DefRec}{K:Params->PySem.W.Frag}(pure:∀ ns:List Int,ns.length<=63->zCh [.k (intsT ns)]=some (.v (.a (.bl true)),[]))(hn:l.most=some 63)(hdf:d.params.defaults=[])
  (hY:∀ (w:World) (h:Heap),YP w h->(K w.params).In h)
  (F:∀ (w:World) (mg:Str->Option Value) (fa:Addr) (h:Heap),(K w.params).In h->h.Ns mainGlobals mg->mg d.name=some (.ref fa) ->
   ∃ fd:FuncData,(∀ (s:Shared) (u:Value),BindsTo s fd ⟨[u],[]⟩ [("_law_script",u)])/\∀ base:Heap,(K w.params).In base->base.Ns mainGlobals mg->FnOk l.prog w (K w.params) mg base CX0 84 fa fd ["_law_script"] (spD (K w.params) none 1 zCh)) :
  PySem.W.WalkO q loose XP YP l.row.toRowW d [] (fun f vs=>PySem.call f vs) :=
 L2.walk_of (n:=63) (k:=84) (x:="_law_script") (CX:=fun _=>CX0) (sp:=fun w=>spD (K w.params) none 1 zCh) hn (by decide) hdf ⟨rfl,by decide,by decide,rfl⟩ hY F (fun w H a ns hl hO hS=>zMC hO hS (pure ns hl)) fun _ _ _ _ _ z=>z
end Lw
local macro_rules | `(tactic| walk_at "w") => `(tactic| (refine' Lw.wr_mk ?a ?l ?c ?k; (case a=>k_is); (case l=>k_is); (case c=>k_is); (case k=>k_is)))
open PySem PySem.W PyProof.Rows
theorem PySem.W.Fast.tw2177655137883169760:True:=trivial
theorem PySem.W.Fast.tw15522633484214820940:True:=trivial
theorem PySem.W.Fast.tw15773890025137128922:True:=trivial
theorem PySem.W.Fast.tw17817625152556621914:True:=trivial
theorem PySem.W.Fast.tw1220636603126908569:True:=trivial
theorem PySem.W.Fast.tw4430486030367176421:True:=trivial
theorem PySem.W.Fast.tw6441345474494637095:True:=trivial
theorem PySem.W.Fast.tw536081243660181012:True:=trivial
theorem PySem.W.Fast.tw8143623997547687802:True:=trivial
theorem PySem.W.Fast.tw6565165811154602:True:=trivial
theorem PySem.W.Fast.tw4102921192554560368:True:=trivial
theorem PySem.W.Fast.tw1871085434229119312:True:=trivial
theorem PySem.W.Fast.tw11610730838875873096:True:=trivial
theorem PySem.W.Fast.tw13685599416153199947:True:=trivial
theorem PySem.W.Fast.tw8976461554723479953:True:=trivial
theorem PySem.W.Fast.tw15365418253396338335:True:=trivial
theorem PySem.W.Fast.tw10144654386919880386:True:=trivial
theorem PySem.W.Fast.tw13174633041774835670:True:=trivial
theorem PySem.W.Fast.tw12077994625362188110:True:=trivial
theorem PySem.W.Fast.tw2900192246022081438:True:=trivial
theorem PySem.W.Fast.tw8160965791462380312:True:=trivial
theorem PySem.W.Fast.tw3793387882816283674:True:=trivial
theorem PySem.W.Fast.tw16905058055620634466:True:=trivial
theorem PySem.W.Fast.tw11451765849343280890:True:=trivial
set_option maxRecDepth 100000 in
set_option maxHeartbeats 0 in
theorem PySem.Challenge.cw_fivecups_k26_papers_written_holds : PySem.Challenge.rw_fivecups_k26_papers_written.Holds := by
 w_on; o_law; k_head; (case hw=>w_witness2)
 k_fill
 refine Lw.walk (l:=PySem.Challenge.rw_fivecups_k26_papers_written) Lw.law_true rfl rfl (fun w h Y=>PySem.W.kIn_of Y) ?F
 case F =>
  intro w mg fa h KX G hmg
  refine' Lw.all_mk KX G hmg ?w1 ?w2 ?w3 ?w4 ?w5 ?w6 ?w7 ?w8 ?w9 ?w10 ?w11 ?w12 ?w13 ?w14 ?w15 ?w16 ?w17 ?w18 ?w19 ?w20 ?w21 ?w22 ?w23 ?w24 ?w25 ?w26 ?w27 ?w28 ?w29 ?w30 ?w31 ?w32 ?w33 ?w34 ?dfl35 ?a35 ?l35 ?c35 ?k35 ?dfl36 ?a36 ?l36 ?c36 ?k36 ?w37 ?w38 ?w39 ?w40 ?w41 ?w42 ?w43 ?w44 ?w45 ?w46 ?w47 ?w48 ?w49 ?w50 ?w51 ?w52 ?w53 ?w54 ?w55 ?w56 ?w57 ?a58 ?l58 ?c58 ?k58 ?z1 ?z2 ?z3 ?z4 ?z5 ?z6 ?z7 ?z8 ?z9 ?z10 ?z11 ?z12 ?z13 ?z14 ?z15 ?z16 ?z17 ?ka1 ?kl1 ?ka2 ?kl2
  all_goals try walk_at "w"
  (case a35=>k_is); (case l35=>k_is); (case c35=>k_is); (case k35=>k_is)
  (case a36=>k_is); (case l36=>k_is); (case c36=>k_is); (case k36=>k_is)
  all_goals try walk_at "w"
  (case a58=>k_is); (case l58=>k_is); (case c58=>k_is); (case k58=>k_is)
  (case dfl35=>k_is)
  (case dfl36=>k_is)
  (case ka1=>k_is); (case kl1=>k_is)
  (case ka2=>k_is); (case kl2=>k_is)
  (case z1=>k_is); (case z2=>k_is); (case z3=>k_is); (case z4=>k_is); (case z5=>k_is); (case z6=>k_is); (case z7=>k_is); (case z8=>k_is); (case z9=>k_is); (case z10=>k_is); (case z11=>k_is); (case z12=>k_is); (case z13=>k_is); (case z14=>k_is); (case z15=>k_is); (case z16=>k_is); (case z17=>k_is)
