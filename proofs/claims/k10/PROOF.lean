import PyProof.Rows.All
import Wide.All
import OpenK.AllK
import Wide.FinOn
import Lean
import PyProof.EqAt
import PyProof.EqKinds
import PyProof.TupleCall
import PySem.Challenge.RW_fivecups_k10_whole_spelled_says_the_same
set_option Elab.async false
set_option linter.all false
set_option maxRecDepth 100000
namespace L2
open PySem PySem.Spec PyProof.Rows
noncomputable abbrev Key:=Sum Int Str
noncomputable def keyIs:Key → Value → Bool
 | .inl k,v=>Value.isInt k v
 | .inr x,v=>Value.isStrOf x v
noncomputable def keyH (w:World):Key → Int
 | .inl k=>hashInt k
 | .inr x=>hashStr w x
theorem keyIs_shape:∀ {k:Key} {v:Value},keyIs k v = true → (∃ i t,k = Sum.inl i ∧ v = Value.int i t) ∨ (∃ x t,k = Sum.inr x ∧ v = Value.str x t)
 | .inl i,v,h=>by
  obtain ⟨t,e⟩:=Value.isInt_shape (k:=i) (v:=v) h
  exact .inl ⟨i,t,rfl,e⟩
 | .inr x,v,h=>by
  obtain ⟨t,e⟩:=Value.isStrOf_shape (x:=x) (v:=v) h
  exact .inr ⟨x,t,rfl,e⟩
theorem keyIs_int (i:Int) (t:Tok):keyIs (.inl i) (.int i t) = true:=by simp [keyIs,Value.isInt]
theorem keyIs_str (x:Str) (t:Tok):keyIs (.inr x) (.str x t) = true:=by simp [keyIs,Value.isStrOf]
theorem key_ll (a b:Int):decide ((Sum.inl a:Key) = Sum.inl b) = (a == b):=by
 by_cases e:a = b
 ·subst e; simp
 ·have h:¬ (Sum.inl a:Key) = Sum.inl b:=fun q=>e (Sum.inl.inj q)
  rw [decide_eq_false h]
  exact (beq_eq_false_iff_ne.mpr e).symm
theorem key_rr (a b:Str):decide ((Sum.inr a:Key) = Sum.inr b) = decide (a = b):=by
 by_cases e:a = b
 ·subst e; simp
 ·have h:¬ (Sum.inr a:Key) = Sum.inr b:=fun q=>e (Sum.inr.inj q)
  rw [decide_eq_false h,decide_eq_false e]
theorem key_lr (a:Int) (b:Str):decide ((Sum.inl a:Key) = Sum.inr b) = false:=decide_eq_false (fun q=>nomatch q)
theorem key_rl (a:Str) (b:Int):decide ((Sum.inr a:Key) = Sum.inl b) = false:=decide_eq_false (fun q=>nomatch q)
noncomputable def mixKind (prog:Program) (w:World):PySem.KeyKind prog w Key where
 is:=keyIs
 hash:=keyH w
 inj:=fun v a b ha hb=>by
  rcases keyIs_shape ha with ⟨i,t,rfl,rfl⟩ | ⟨x,t,rfl,rfl⟩
  ·rcases keyIs_shape hb with ⟨j,u,rfl,e⟩ | ⟨y,u,rfl,e⟩
   ·injection e with e1 _; rw [e1]
   ·exact nomatch e
  ·rcases keyIs_shape hb with ⟨j,u,rfl,e⟩ | ⟨y,u,rfl,e⟩
   ·exact nomatch e
   ·injection e with e1 _; rw [e1]
 byValue:=fun k v h=>by
  rcases keyIs_shape h with ⟨i,t,rfl,rfl⟩ | ⟨x,t,rfl,rfl⟩ <;> rfl
 pyHash:=fun hv h=>by
  rcases keyIs_shape hv with ⟨i,t,rfl,rfl⟩ | ⟨x,t,rfl,rfl⟩
  ·exact wpAny_pyHash_int h
  ·exact wpAny_pyHash_str h
 eqBool:=fun hu hv h=>by
  rcases keyIs_shape hu with ⟨i,t,rfl,rfl⟩ | ⟨x,t,rfl,rfl⟩
  ·rcases keyIs_shape hv with ⟨j,u,rfl,rfl⟩ | ⟨y,u,rfl,rfl⟩
   ·rw [key_ll] at h; exact wpAny_eqBool_int h
   ·rw [key_lr] at h; exact SeqAt.EqAt.int_str i t y u _ _ _ _ h
  ·rcases keyIs_shape hv with ⟨j,u,rfl,rfl⟩ | ⟨y,u,rfl,rfl⟩
   ·rw [key_rl] at h; exact SeqAt.EqAt.str_int x t j u _ _ _ _ h
   ·rw [key_rr] at h; exact wpAny_eqBool_str h
 «strs»:=fun k x t v h=>by
  rcases keyIs_shape h with ⟨i,u,rfl,e⟩ | ⟨y,u,rfl,e⟩
  ·exact nomatch e
  ·injection e with e1 _
   subst e1
   cases v <;> rfl
theorem mixKind_int (prog:Program) (w:World) (i:Int) (t:Tok):(mixKind prog w).is (.inl i) (.int i t) = true:=keyIs_int i t
theorem mixKind_str (prog:Program) (w:World) (x:Str) (t:Tok):(mixKind prog w).is (.inr x) (.str x t) = true:=keyIs_str x t
end L2
namespace L2
open PySem PySem.Spec PyProof.Rows
inductive V where
 | non | bl (b:Bool) | int (i:Int) | str (x:Str) | byt (b:Array UInt8) | flt (b:UInt64) | ref (a:Addr) | ty (n:String)
 deriving DecidableEq
noncomputable def RelV:V → Value → Prop
 | .non,u=>u = Value.none
 | .bl b,u=>u = Value.bool b
 | .int i,u=>∃ t,u = Value.int i t
 | .str x,u=>∃ t,u = Value.str x t
 | .byt b,u=>∃ t,u = Value.bytes b t
 | .flt b,u=>∃ t,u = Value.float b t
 | .ref a,u=>u = Value.ref a
 | .ty n,u=>u = Value.type n
noncomputable abbrev Vals:List V → List Value → Prop:=Paired RelV
theorem Vals.length {xs:List V} {us:List Value} (r:Vals xs us):xs.length = us.length:=Paired.length r
theorem Vals.get:∀ {xs:List V} {us:List Value} {i:Nat} {x:V},Vals xs us → xs[i]? = some x → ∃ u,us[i]? = some u ∧ RelV x u
 | _,_,_,_,.nil,e=>by simp at e
 | _,_,0,_,.cons r _,e=>by simp at e; subst e; exact ⟨_,rfl,r⟩
 | _,_,i + 1,x,.cons _ t,e=>by
  obtain ⟨u,h1,h2⟩:=Vals.get (i:=i) (x:=x) t (by simpa using e)
  exact ⟨u,by simpa using h1,h2⟩
theorem Vals.set {x:V} {u:Value} (r:RelV x u):∀ {xs:List V} {us:List Value} (i:Nat),Vals xs us → Vals (xs.set i x) (us.set i u)
 | _,_,_,.nil=>.nil
 | _,_,0,.cons _ t=>.cons r t
 | _,_,i + 1,.cons q t=>.cons q (Vals.set r i t)
theorem Vals.append:∀ {xs ys:List V} {us ws:List Value},Vals xs us → Vals ys ws → Vals (xs ++ ys) (us ++ ws)
 | _,_,_,_,.nil,s=>s
 | _,_,_,_,.cons r t,s=>.cons r (Vals.append t s)
theorem Vals.take:∀ {xs:List V} {us:List Value} (n:Nat),Vals xs us → Vals (xs.take n) (us.take n)
 | _,_,0,_=>.nil
 | _,_,_ + 1,.nil=>.nil
 | _,_,n + 1,.cons r t=>.cons r (Vals.take n t)
theorem Vals.drop:∀ {xs:List V} {us:List Value} (n:Nat),Vals xs us → Vals (xs.drop n) (us.drop n)
 | _,_,0,r=>r
 | _,_,_ + 1,.nil=>.nil
 | _,_,n + 1,.cons _ t=>Vals.drop n t
noncomputable def RelO:Option V → Option Value → Prop
 | some v,some u=>RelV v u
 | none,none=>True
 | _,_=>False
noncomputable def KV {κ:Type}:List (κ × V) → List (κ × Value) → Prop:=Paired fun (p:κ × V) (q:κ × Value)=>p.1 = q.1 ∧ RelV p.2 q.2
noncomputable def kV:Key → V
 | .inl i=>.int i
 | .inr x=>.str x
inductive HO where
 | lst (xs:List V)
 | tup (xs:List V)
 | dK (kvs:List (Key × V)) | dT (kvs:List (List Key × V))
 | set (S:Int → Bool) (n:Nat)
 | ins (C dx:Addr) (fs:List (Str × V))
 | own (x:Addr)
 | xd (fs:List (Str × V))
 | met (f x:Addr)
 | rng (lo hi:Int)
 | frz (o:Obj) (u:HO)
 | tbl (ps:Array Value)
 | tbq (q:Str) | cod (q:Str)
 | ext (φ:Heap → Prop)
noncomputable abbrev Hp:=Addr → Option HO
noncomputable def upd (H:Hp) (a:Addr) (o:HO):Hp:=fun b=>if b = a then some o else H b
theorem upd_same {H:Hp} {a:Addr} {o:HO}:upd H a o a = some o:=by unfold upd; rw [if_pos rfl]
theorem upd_ne {H:Hp} {a b:Addr} {o:HO} (h:b ≠ a):upd H a o b = H b:=by unfold upd; rw [if_neg h]
theorem ne_of_none {H:Hp} {a b:Addr} {o:HO} (h:H a = some o) (h':H b = none):a ≠ b:=by
 intro e; subst e; rw [h] at h'; cases h'
noncomputable def TupD (h:Heap) (a:Addr) (items:Array Value):Prop:=∃ o,h.get? a = some o ∧ o.cls = .type "tuple" ∧ (∃ n,o.data = .seq items n) ∧ o.dict = none
theorem TupD.tup {h:Heap} {a:Addr} {items:Array Value} (x:TupD h a items):IsTup h a items:=let ⟨o,e,c,d,_⟩:=x; ⟨o,e,c,d⟩
theorem TupD.lt {h:Heap} {a:Addr} {items:Array Value} (x:TupD h a items):a < h.objs.size:=let ⟨_,e,_⟩:=x; Heap.lt_size e
theorem TupD.new (h:Heap) (items:Array Value):TupD (h.push { cls:=.type "tuple",data:=.seq items }) h.objs.size items:=⟨_,Heap.get?_push_size _ rfl,rfl,⟨_,rfl⟩,rfl⟩
section
variable (P:Program) (w:World)
noncomputable def ObjOk (H:Hp) (h:Heap) (a:Addr):HO → Prop
 | .lst xs=>xs.length ≤ sizeLine ∧ ∃ (its:List Value) (n:Nat),Vals xs its ∧ h.get? a = some { cls:=.type "list",data:=.seq its.toArray n }
 | .tup xs=>xs.length ≤ sizeLine ∧ ∃ its:List Value,Vals xs its ∧ TupD h a its.toArray
 | .dK kvs=>kvs.length ≤ sizeLine ∧ (a == sysModules) = false ∧ ∃ vs,KV kvs vs ∧ h.DictOf (mixKind P w) a vs
 | .dT kvs=>kvs.length ≤ sizeLine ∧ (a == sysModules) = false ∧ ∃ xs:List (List Key × Addr × Value),
   Paired (fun (p:List Key × V) (q:List Key × Addr × Value)=>p.1 = q.1 ∧ H q.2.1 = some (.tup (p.1.map kV)) ∧ RelV p.2 q.2.2) kvs xs ∧
   ∃ o es ep,h.get? a = some o ∧ o.ExactDict ∧ o.data = .dict es ep ∧ es.toList = xs.map (entryOfKey (tupleKind (mixKind P w))) ∧ (xs.map (·.1)).Nodup
 | .set S n=>h.SetOf (intKind P w) a S n
 | .ins C dx fs=>H dx = some (.own a) ∧ fs.length ≤ 1000 ∧ dx ≠ a ∧ h.get? a = some (PySem.W.instObj C dx) ∧
   ∃ mA,h.Ns1 dx mA ∧ (∀ f,RelO (fs.lookup f) (mA f)) ∧ PySem.Within mA (fs.map (·.1))
 | .own _=>∃ o,h.get? a = some o
 | .xd fs=>∃ mA,h.Ns1 a mA ∧ ∀ f,RelO (fs.lookup f) (mA f)
 | .rng lo hi=>∃ t u v,h.get? a = some { cls:=.type "range",data:=.fields #[.int lo t,.int hi u,.int 1 v] }
 | .frz o u=>h.get? a = some o ∧ ObjOk H h a u
 | .tbl ps=>h.get? a = some { cls:=.none,data:=.fields ps }
 | .tbq q=>∃ ps:Array Value,h.get? a = some { cls:=.none,data:=.fields ps } ∧ TriplesOk ps.toList ∧ ∀ pos cv,codeAmong pos ps.toList = some cv → ∃ c,cv = .ref c ∧ H c = some (.cod q)
 | .cod q=>∃ o vs t,h.get? a = some o ∧ o.data = .fields vs ∧ vs[1]? = some (.str q t)
 | .met f x=>h.get? a = some (PySem.W.methodObj (.ref f) (.ref x))
 | .ext φ=>φ h ∧ (∃ o,h.get? a = some o) ∧ ∀ h1 h2:Heap,φ h1 → (∀ o,h1.get? a = some o → h2.get? a = some o) → φ h2
noncomputable def HOk (H:Hp) (h:Heap):Prop:=∀ a o,H a = some o → ObjOk P w H h a o
end
section
variable {P:Program} {w:World} {H H':Hp} {h h':Heap} {a:Addr} {o:HO}
theorem ObjOk.lt (x:ObjOk P w H h a o):a < h.objs.size:=by
 cases o with
 | lst xs=>obtain ⟨_,_,_,_,e⟩:=x; exact Heap.lt_size e
 | tup xs=>obtain ⟨_,_,_,p⟩:=x; exact p.lt
 | dK kvs=>obtain ⟨_,_,_,_,o,_,_,e,_⟩:=x; exact Heap.lt_size e
 | dT kvs=>obtain ⟨_,_,_,_,o,_,_,e,_⟩:=x; exact Heap.lt_size e
 | set S n=>obtain ⟨o,_,_,_,e,_⟩:=x; exact Heap.lt_size e
 | ins C dx fs=>obtain ⟨_,_,_,e,_⟩:=x; exact Heap.lt_size e
 | own y=>obtain ⟨_,e⟩:=x; exact Heap.lt_size e
 | xd fs=>obtain ⟨_,⟨_,_,_,e,_⟩,_⟩:=x; exact Heap.lt_size e
 | rng lo hi=>obtain ⟨_,_,_,e⟩:=x; exact Heap.lt_size e
 | frz ob u=>obtain ⟨e,_⟩:=x; exact Heap.lt_size e
 | tbl ps=>exact Heap.lt_size (show h.get? a = some _ from x)
 | tbq q=>obtain ⟨_,e,_⟩:=x; exact Heap.lt_size e
 | cod q=>obtain ⟨_,_,_,e,_⟩:=x; exact Heap.lt_size e
 | met f y=>exact Heap.lt_size (show h.get? a = some _ from x)
 | ext φ=>obtain ⟨_,⟨_,e⟩,_⟩:=x; exact Heap.lt_size e
theorem Paired.mapP {α β:Type} {F G:α → β → Prop}:∀ {l₁:List α} {l₂:List β},Paired F l₁ l₂ → (∀ a b,F a b → G a b) → Paired G l₁ l₂
 | _,_,.nil,_=>.nil
 | _,_,.cons r t,f=>.cons (f _ _ r) (Paired.mapP t f)
inductive ImO where
 | t (xs:List V) | c (q:Str)
noncomputable def ImO.ho:ImO → HO
 | .t xs=>.tup xs
 | .c q=>.cod q
theorem ObjOk.stay (x:ObjOk P w H h a o) (k:∀ b u,(b = a ∨ H b = some (.own a)) → h.get? b = some u → h'.get? b = some u)
  (ho:∀ b,H b = some (.own a) → H' b = some (.own a)) (ht:∀ b (xs:ImO),H b = some xs.ho → H' b = some xs.ho):ObjOk P w H' h' a o:=by
 induction o with
 | lst xs=>obtain ⟨z,its,n,r,e⟩:=x; exact ⟨z,its,n,r,k _ _ (.inl rfl) e⟩
 | tup xs=>obtain ⟨z,its,r,ob,e,c⟩:=x; exact ⟨z,its,r,ob,k _ _ (.inl rfl) e,c⟩
 | dK kvs=>obtain ⟨z,y,vs,r,ob,es,ep,e,c⟩:=x; exact ⟨z,y,vs,r,ob,es,ep,k _ _ (.inl rfl) e,c⟩
 | dT kvs =>
  obtain ⟨z,y,xs,r,ob,es,ep,e,c⟩:=x
  exact ⟨z,y,xs,Paired.mapP r fun p q z=>⟨z.1,ht _ (.t _) z.2.1,z.2.2⟩,ob,es,ep,k _ _ (.inl rfl) e,c⟩
 | set S n=>obtain ⟨ob,es,ep,t,e,c⟩:=x; exact ⟨ob,es,ep,t,k _ _ (.inl rfl) e,c⟩
 | ins C dx fs =>
  obtain ⟨d,z,ne,e,mA,⟨od,es,ep,e2,c⟩,r⟩:=x
  exact ⟨ho _ d,z,ne,k _ _ (.inl rfl) e,mA,⟨od,es,ep,k _ _ (.inr d) e2,c⟩,r⟩
 | own y=>obtain ⟨ob,e⟩:=x; exact ⟨ob,k _ _ (.inl rfl) e⟩
 | xd fs=>obtain ⟨mA,⟨od,es,ep,e,c⟩,r⟩:=x; exact ⟨mA,⟨od,es,ep,k _ _ (.inl rfl) e,c⟩,r⟩
 | rng lo hi=>obtain ⟨t,u,v,e⟩:=x; exact ⟨t,u,v,k _ _ (.inl rfl) e⟩
 | frz ob u ih=>obtain ⟨e,q⟩:=x; exact ⟨k _ _ (.inl rfl) e,ih q⟩
 | tbq q =>
  obtain ⟨ps,e,t,c⟩:=x
  exact ⟨ps,k a _ (.inl rfl) e,t,fun pos cv z=>by obtain ⟨c',z1,z2⟩:=c pos cv z; exact ⟨c',z1,ht _ (.c q) z2⟩⟩
 | cod q=>obtain ⟨o,vs,t,e,r⟩:=x; exact ⟨o,vs,t,k a _ (.inl rfl) e,r⟩
 | tbl ps =>
  have e:h.get? a = some { cls:=.none,data:=.fields ps }:=x
  show h'.get? a = some { cls:=.none,data:=.fields ps }
  exact k a _ (.inl rfl) e
 | met f y =>
  have e:h.get? a = some (PySem.W.methodObj (.ref f) (.ref y)):=x
  show h'.get? a = some (PySem.W.methodObj (.ref f) (.ref y))
  exact k a _ (.inl rfl) e
 | ext φ=>obtain ⟨p,⟨o,e⟩,st⟩:=x; exact ⟨st _ _ p fun o q=>k _ _ (.inl rfl) q,⟨o,k _ _ (.inl rfl) e⟩,st⟩
theorem HOk.lt (x:HOk P w H h) (e:H a = some o):a < h.objs.size:=(x a o e).lt
theorem HOk.fresh (x:HOk P w H h) (e:h.objs.size ≤ a):H a = none:=by
 cases q:H a with
 | none=>rfl
 | some u=>exact absurd (Nat.lt_of_lt_of_le (x.lt q) e) (Nat.lt_irrefl _)
theorem HOk.kept (x:HOk P w H h) (k:∀ b u,h.get? b = some u → h'.get? b = some u):HOk P w H h':=fun a o e =>
 (x a o e).stay (fun b u _ q=>k b u q) (fun _ q=>q) fun _ _ q=>q
theorem HOk.laid (x:HOk P w H h) (k:∀ b u,h.get? b = some u → h'.get? b = some u) (hp:h.objs.size ≤ a) (new:ObjOk P w (upd H a o) h' a o):HOk P w (upd H a o) h':=fun b u e=>by
 have hn:=x.fresh hp
 by_cases hb:b = a
 ·subst hb; rw [upd_same] at e; cases e; exact new
 ·rw [upd_ne hb] at e
  exact (x b u e).stay (fun c v _ q=>k c v q) (fun c q=>by rw [upd_ne (ne_of_none q hn)]; exact q) fun c xs q=>by rw [upd_ne (ne_of_none q hn)]; exact q
end
noncomputable def Rd (H:Hp) (a:Addr) (u:HO):Prop:=H a = some u ∨ ∃ o,H a = some (.frz o u)
theorem Rd.ok {P:Program} {w:World} {H:Hp} {h:Heap} {a:Addr} {u:HO} (r:Rd H a u) (x:HOk P w H h):ObjOk P w H h a u:=by
 rcases r with r | ⟨o,r⟩
 ·exact x a u r
 ·obtain ⟨_,q⟩:=x a _ r
  exact q
noncomputable def Mut:Option HO → Prop
 | some (.lst _)=>True
 | some (.dK _)=>True
 | some (.dT _)=>True
 | some (.set _ _)=>True
 | some (.ins _ _ _)=>True
 | some (.ext _)=>True
 | _=>False
section
variable {P:Program} {w:World} {H:Hp} {h h':Heap} {x e:Addr} {o':HO}
theorem HOk.write (ok:HOk P w H h) (mu:Mut (H x)) (he:e = x ∨ H e = some (.own x)) (k:∀ b u,b ≠ e → h.get? b = some u → h'.get? b = some u) (heo:∃ u,h'.get? e = some u)
  (new:ObjOk P w (upd H x o') h' x o'):HOk P w (upd H x o') h':=fun b u q=>by
 have nown:∀ c y,H c = some (.own y) → c ≠ x:=fun c y r z=>by subst z; rw [r] at mu; exact mu
 have ntup:∀ c (xs:ImO),H c = some xs.ho → c ≠ x:=fun c xs r z=>by subst z; rw [r] at mu; cases xs <;> exact mu
 by_cases hb:b = x
 ·subst hb; rw [upd_same] at q; cases q; exact new
 ·rw [upd_ne hb] at q
  by_cases hbe:b = e
  ·have q':H b = some (.own x):=by
    rcases he with z | z
    ·exact absurd (hbe.trans z) hb
    ·rw [hbe]; exact z
   rw [q] at q'; cases q'
   obtain ⟨v,hv⟩:=heo
   exact ⟨v,by rw [hbe]; exact hv⟩
  ·refine (ok b u q).stay (fun c v hc r=>k c v ?_ r) (fun c r=>by rw [upd_ne (nown c b r)]; exact r) fun c xs r=>by rw [upd_ne (ntup c xs r)]; exact r
   rcases hc with rfl | hc
   ·exact hbe
   ·rintro rfl
    rcases he with z | z
    ·exact nown c b hc z
    ·rw [hc] at z; cases z; exact hb rfl
end
structure Un (fs ex:List Addr) (H H':Hp) (h h':Heap):Prop where
 keep:∀ b o,h.get? b = some o → H b = none → b ∉ fs → b ∉ ex → h'.get? b = some o
 slot:∀ b o,h.get? b = some o → H b = none → b ∈ fs → b ∉ ex → ∃ sl,h'.get? b = some { o with slots:=sl }
 free:∀ b o,h.get? b = some o → H b = none → b ∉ ex → H' b = none
 there:∀ b o,h.get? b = some o → b ∉ ex → ∃ o',h'.get? b = some o'
 tups:∀ b xs,H b = some (.tup xs) → H' b = some (.tup xs)
 frzs:∀ b o u,H b = some (.frz o u) → H' b = some (.frz o u)
 tbls:∀ b ps,H b = some (.tbl ps) → ∃ more,H' b = some (.tbl (ps ++ more))
section
variable {fs fs' ex ex':List Addr} {H H1 H2:Hp} {h h1 h2 h':Heap} {a x e:Addr} {o:HO}
theorem Un.any (u:Un fs ex H H1 h h1) {b:Addr} {ob:Obj} (q:h.get? b = some ob) (n:H b = none) (hx:b ∉ ex):∃ sl,h1.get? b = some { ob with slots:=sl }:=by
 by_cases hb:b ∈ fs
 ·exact u.slot b ob q n hb hx
 ·exact ⟨ob.slots,u.keep b ob q n hb hx⟩
theorem Un.kept (k:∀ b u,h.get? b = some u → h'.get? b = some u):Un fs ex H H h h' :=
 ⟨fun b ob q _ _ _=>k b ob q,fun b ob q _ _ _=>⟨ob.slots,k b ob q⟩,fun _ _ _ n _=>n,fun b ob q _=>⟨ob,k b ob q⟩,fun _ _ q=>q,fun _ _ _ q=>q,fun _ ps q=>⟨#[],by rw [q]; simp⟩⟩
theorem Un.refl:Un fs ex H H h h:=Un.kept fun _ _ q=>q
theorem Un.laid (k:∀ b u,h.get? b = some u → h'.get? b = some u) (hp:h.objs.size ≤ a) (hn:H a = none):Un fs ex H (upd H a o) h h' where
 keep:=fun b u q _ _ _=>k b u q
 slot:=fun b u q _ _ _=>⟨u.slots,k b u q⟩
 free:=fun b u q n _=>by rw [upd_ne (Nat.ne_of_lt (Nat.lt_of_lt_of_le (Heap.lt_size q) hp))]; exact n
 there:=fun b u q _=>⟨u,k b u q⟩
 tups:=fun b xs q=>by rw [upd_ne (ne_of_none q hn)]; exact q
 frzs:=fun b u xs q=>by rw [upd_ne (ne_of_none q hn)]; exact q
 tbls:=fun b ps q=>⟨#[],by rw [upd_ne (ne_of_none q hn),q]; simp⟩
theorem Un.write (mu:Mut (H x)) (he:e = x ∨ H e = some (.own x)) (k:∀ b u,b ≠ e → h.get? b = some u → h'.get? b = some u) (heo:∃ u,h'.get? e = some u):Un fs ex H (upd H x o) h h':=by
 have hx:∀ b,H b = none → b ≠ x:=fun b n z=>by subst z; rw [n] at mu; exact mu
 have hb:∀ b,H b = none → b ≠ e:=fun b n z=>by
  subst z
  rcases he with r | r
  ·exact hx b n r
  ·rw [n] at r; cases r
 have hm:∀ b u,H b = some u → ¬ Mut (some u) → b ≠ x:=fun b u q nm z=>by subst z; rw [q] at mu; exact nm mu
 refine ⟨fun b u q n _ _=>k b u (hb b n) q,fun b u q n _ _=>⟨u.slots,k b u (hb b n) q⟩,fun b u q n _=>by rw [upd_ne (hx b n)]; exact n,fun b u q _=>?_,
  fun b xs q=>by rw [upd_ne (hm b _ q fun z=>z)]; exact q,fun b u xs q=>by rw [upd_ne (hm b _ q fun z=>z)]; exact q,fun b ps q=>⟨#[],by rw [upd_ne (hm b _ q fun z=>z),q]; simp⟩⟩
 by_cases hbe:b = e
 ·subst hbe; exact heo
 ·exact ⟨u,k b u hbe q⟩
end
noncomputable def trk (h:Heap) (H:Hp):List Addr:=(List.range h.objs.size).filter fun a=>(H a).isSome
noncomputable def hidT (h:Heap) (H:Hp):Heap:=PySem.W.hideAll h (trk h H)
theorem hidT_size (h:Heap) (H:Hp):(hidT h H).objs.size = h.objs.size:=PySem.W.hideAll_size _ _
theorem hidT_get {h:Heap} {H:Hp} {b:Addr} {o:Obj} (e:h.get? b = some o) (n:H b = none):(hidT h H).get? b = some o :=
 PySem.W.hideAll_get _ e fun hm=>by
  have q:(H b).isSome = true:=(List.mem_filter.mp hm).2
  rw [n] at q; simp at q
theorem of_hidT {h:Heap} {H:Hp} {b:Addr} {o:Obj} (e:(hidT h H).get? b = some o):h.get? b = some o ∧ H b = none:=by
 have e':h.get? b = some o:=PySem.W.of_hideAll (trk h H) e
 refine ⟨e',?_⟩
 cases q:H b with
 | none=>rfl
 | some x =>
  have hm:b ∈ trk h H:=List.mem_filter.mpr ⟨List.mem_range.mpr (Heap.lt_size e'),by simp [q]⟩
  have z:(hidT h H).get? b = none:=PySem.W.hideAll_none (trk h H) hm
  rw [z] at e; cases e
noncomputable def allNews (g h:Heap) (L:Addr):List (Addr × Obj):=(List.range h.objs.size).filterMap fun a=>if a = L ∨ (g.get? a).isSome = true then none else (h.get? a).map fun o=>(a,o)
noncomputable def rest (g h:Heap) (L d:Addr):List (Addr × Obj):=(allNews g h L).filter fun p=>decide (p.1 ≠ d)
end L2
namespace L2
open PySem PySem.Spec PyProof.Rows
structure Mod (K:PySem.W.Frag) (mg:Str → Option Value) (base:Heap):Prop where
 kin:K.In base
 glob:base.Ns mainGlobals mg
 blt:∃ mb,base.Ns builtinsNs mb ∧ ∀ x:Str,x ≠ "__name__" → mb x = bootBuiltins x
 nolimit:base.NoLimit
 bmod:∃ bm ob,mg "__builtins__" = some (.ref bm) ∧ bm ≠ builtinsNs ∧ base.get? bm = some ob ∧ ob.cls = .type "module" ∧ ob.dict = some builtinsNs ∧ ob.data = .plain
structure Cx where
 prog:Program
 w:World
 K:PySem.W.Frag
 mg:Str → Option Value
 base:Heap
 A:Around
 N:List Str
 s₀:Shared
 H₀:Hp
 env:Env
 outer:List Env
 stack:List Env
 ex:List Addr
 fn:Str → Bool
 calm:Bool
 pn:List (Addr × Obj)
 xe:Value → Shared → Prop
noncomputable def frs (l:List Env):List Addr:=l.filterMap (·.frame)
noncomputable abbrev Cx.fs (X:Cx):List Addr:=frs X.outer
noncomputable def Vis (sc:Scope) (x:Str):Prop:=sc.names.lookup x = some .local ∨ sc.names.lookup x = some .cell ∨ sc.names.lookup x = some .free
noncomputable def Loc (sc:Scope) (x:Str):Prop:=sc.names.lookup x = some .local ∨ sc.names.lookup x = some .cell
noncomputable def Look (env:Env) (h:Heap) (m:Str → Option Value) (x:Str) (u:Value):Prop :=
 (env.kindOf x = some .local ∧ m x = some u) ∨ ((env.kindOf x = some .cell ∨ env.kindOf x = some .free) ∧ ∃ c,env.cells.lookup x = some c ∧ h.IsCell c (some u))
structure Cx.Ok (X:Cx):Prop where
 mod:Mod X.K X.mg X.base
 kind:X.env.scope.kind = .function
 glob:X.env.globals = mainGlobals
 blt:X.env.builtins = builtinsNs
 above:X.s₀.heap.objs.size ≤ X.env.locals
 inj:∀ x y c,X.env.cells.lookup x = some c → X.env.cells.lookup y = some c → x = y
 has:∀ x,(X.env.kindOf x = some .cell ∨ X.env.kindOf x = some .free) → ∃ c,X.env.cells.lookup x = some c
 cab:∀ x c,X.fn x = true → X.env.cells.lookup x = some c → X.s₀.heap.objs.size ≤ c
 hd:X.calm = true → X.A.handled = none
 frames:X.A.frames = some X.stack
 stk:X.stack = X.outer ∨ (X.stack = X.env :: X.outer ∧ X.env.frame = some X.env.locals)
 exf:∀ b ∈ X.ex,b ≠ X.env.locals ∧ ∀ x c,X.env.cells.lookup x = some c → c ≠ b
 bs:∀ b o,X.base.get? b = some o → X.s₀.heap.get? b = some o ∧ X.H₀ b = none
 bsz:X.base.objs.size ≤ X.s₀.heap.objs.size
 noex:∀ b o,X.base.get? b = some o → b ∉ X.ex
 exfs:∀ b ∈ X.ex,b ∉ X.fs
 funs:X.s₀.heap.FunFrames X.base X.outer
 frf:∀ b ∈ X.fs,X.H₀ b = none
structure Inv (X:Cx) (pins:List (Addr × Obj)) (σ:List (Option V)) (H:Hp) (s:Shared):Prop where
 ok:X.Ok
 os:s.os = X.s₀.os
 bare:AllBare s.gens
 base:Un X.fs X.ex X.H₀ H X.s₀.heap s.heap
 loc:∃ m,s.heap.Ns X.env.locals m ∧ ∀ (i:Nat) (x:Str) (v:V),X.N[i]? = some x → σ[i]? = some (some v) → Vis X.env.scope x → ∃ u,RelV v u ∧ Look X.env s.heap m x u
 cell:∀ x c,X.env.cells.lookup x = some c → ∃ v,s.heap.IsCell c v
 free:H X.env.locals = none
 freeC:∀ x c,X.env.cells.lookup x = some c → H c = none
 pin:∀ p ∈ X.pn ++ pins,s.heap.get? p.1 = some p.2 ∧ H p.1 = none ∧ p.1 ≠ X.env.locals ∧ p.1 ∉ X.fs ∧ ∀ v,p.2.data ≠ .cell v
 hok:HOk X.prog X.w H s.heap
 len:σ.length = X.N.length
section
variable {X:Cx} {pins:List (Addr × Obj)} {σ:List (Option V)} {H H':Hp} {s:Shared} {h':Heap}
theorem Cx.Ok.nofr (ok:X.Ok) {b:Addr} {o:Obj} (e:X.base.get? b = some o):b ∉ X.fs:=fun hb=>by
 have:=(ok.funs.mem hb).1
 rw [e] at this; cases this
theorem Inv.bs (I:Inv X pins σ H s):∀ b o,X.base.get? b = some o → s.heap.get? b = some o ∧ H b = none:=fun b o e =>
 ⟨I.base.keep b o (I.ok.bs b o e).1 (I.ok.bs b o e).2 (I.ok.nofr e) (I.ok.noex b o e),I.base.free b o (I.ok.bs b o e).1 (I.ok.bs b o e).2 (I.ok.noex b o e)⟩
theorem Inv.bk (I:Inv X pins σ H s):∀ b o,X.base.get? b = some o → s.heap.get? b = some o:=fun b o e=>(I.bs b o e).1
theorem Inv.mod (I:Inv X pins σ H s):Mod X.K X.mg X.base:=I.ok.mod
theorem Inv.kIn (I:Inv X pins σ H s):X.K.In s.heap:=I.ok.mod.kin.keeps I.bk
theorem Inv.lt (I:Inv X pins σ H s):X.env.locals < s.heap.objs.size:=let ⟨_,hn,_⟩:=I.loc; hn.lt
theorem Inv.sz (I:Inv X pins σ H s):X.s₀.heap.objs.size ≤ s.heap.objs.size:=Nat.le_trans I.ok.above (Nat.le_of_lt I.lt)
theorem Inv.nofs (I:Inv X pins σ H s) {a:Addr} (h:s.heap.objs.size ≤ a):a ∉ X.fs:=fun hb=>by
 obtain ⟨_,o,ho,_⟩:=I.ok.funs.mem hb
 exact absurd (Nat.lt_of_lt_of_le (Heap.lt_size ho) (Nat.le_trans I.sz h)) (Nat.lt_irrefl _)
theorem Inv.cne (I:Inv X pins σ H s):∀ x c,X.env.cells.lookup x = some c → c ≠ X.env.locals:=fun x c e z=>by
 obtain ⟨v,o,ho,hd⟩:=I.cell x c e
 obtain ⟨m,⟨o',es,ep,ho',hd',_⟩,_⟩:=I.loc
 rw [z,ho'] at ho; cases ho; rw [hd'] at hd; cases hd
theorem Inv.funs (I:Inv X pins σ H s):s.heap.FunFrames X.base X.outer:=by
 have all:∀ (l:List Env),(∀ b ∈ frs l,b ∈ X.fs) → X.s₀.heap.FunFrames X.base l → s.heap.FunFrames X.base l:=by
  intro l
  induction l with
  | nil=>intro _ _; trivial
  | cons env r ih =>
   intro hs hl
   obtain ⟨hk,⟨L,o,hf,hn,ho,hd⟩,hr⟩:=hl
   have hL:L ∈ X.fs:=hs L (by unfold frs; rw [List.filterMap_cons,hf]; exact List.mem_cons_self)
   obtain ⟨sl,e⟩:=I.base.slot L o ho (I.ok.frf L hL) hL fun z=>I.ok.exfs L z hL
   exact ⟨hk,⟨L,_,hf,hn,e,hd⟩,ih (fun b hb=>hs b (by unfold frs; rw [List.filterMap_cons,hf]; exact List.mem_cons_of_mem _ hb)) hr⟩
 exact all X.outer (fun _ hb=>hb) I.ok.funs
theorem Inv.stack (I:Inv X pins σ H s):s.heap.FunFrames X.base X.stack:=by
 rcases I.ok.stk with e | ⟨e,hf⟩
 ·rw [e]; exact I.funs
 ·rw [e]
  obtain ⟨m,hn,_⟩:=I.loc
  refine .cons (by rw [I.ok.kind]; decide) hf hn ?_ I.funs
  exact Heap.get?_none_of_le (Nat.le_trans I.ok.bsz I.ok.above)
theorem Inv.stkSub (I:Inv X pins σ H s):∀ b ∈ frs X.stack,b ∈ X.env.locals :: X.fs:=fun b hb=>by
 rcases I.ok.stk with e | ⟨e,hf⟩
 ·rw [e] at hb; exact List.mem_cons_of_mem _ hb
 ·rw [e] at hb
  unfold frs at hb
  rw [List.filterMap_cons,hf] at hb
  exact hb
theorem Inv.stkFree (I:Inv X pins σ H s):∀ b ∈ frs X.stack,H b = none:=fun b hb=>by
 rcases List.mem_cons.mp (I.stkSub b hb) with e | hb
 ·rw [e]; exact I.free
 ·obtain ⟨_,o,ho,_⟩:=I.ok.funs.mem hb
  exact I.base.free b o ho (I.ok.frf b hb) fun z=>I.ok.exfs b z hb
theorem Inv.step {g':Array GenState} {t':Nat} {d':Drawn} {ch:List Addr} (I:Inv X pins σ H s)
  (hch:∀ b ∈ ch,(b ∈ X.ex ∨ X.s₀.heap.objs.size ≤ b) ∧ b ≠ X.env.locals ∧ (∀ x c,X.env.cells.lookup x = some c → c ≠ b) ∧ ∀ p ∈ X.pn ++ pins,p.1 ≠ b)
  (keep:∀ b o,b ≠ X.env.locals → b ∉ X.fs → b ∉ ch → s.heap.get? b = some o → H b = none → h'.get? b = some o)
  (slot:∀ b o,b ≠ X.env.locals → b ∈ X.fs → b ∉ ch → s.heap.get? b = some o → H b = none → ∃ sl,h'.get? b = some { o with slots:=sl }) (free:∀ b o,b ∉ ch → s.heap.get? b = some o → H b = none → H' b = none)
  (there:∀ b o,b ∉ ch → s.heap.get? b = some o → ∃ o',h'.get? b = some o')
  (tups:∀ b xs,H b = some (.tup xs) → H' b = some (.tup xs)) (frzs:∀ b o u,H b = some (.frz o u) → H' b = some (.frz o u)) (tbls:∀ b ps,H b = some (.tbl ps) → ∃ more,H' b = some (.tbl (ps ++ more)))
  (ns:∀ m,s.heap.Ns X.env.locals m → h'.Ns X.env.locals m) (hok:HOk X.prog X.w H' h') (hg:AllBare g') :
  Inv X pins σ H' { s with heap:=h',gens:=g',drawn:=d',toks:=t' }:=by
 have neL:∀ b o,X.s₀.heap.get? b = some o → b ≠ X.env.locals:=fun b o e=>Nat.ne_of_lt (Nat.lt_of_lt_of_le (Heap.lt_size e) I.ok.above)
 have neC:∀ b o,X.s₀.heap.get? b = some o → b ∉ X.ex → b ∉ ch:=fun b o e hx hb=>by
  rcases (hch b hb).1 with z | z
  ·exact hx z
  ·exact absurd (Nat.lt_of_lt_of_le (Heap.lt_size e) z) (Nat.lt_irrefl _)
 have cellK:∀ x c,X.env.cells.lookup x = some c → ∀ v,s.heap.IsCell c v → h'.IsCell c v:=fun x c e v ⟨o,ho,hd⟩=>by
  have nch:c ∉ ch:=fun z=>(hch c z).2.2.1 x c e rfl
  by_cases hc:c ∈ X.fs
  ·obtain ⟨sl,q⟩:=slot c o (I.cne x c e) hc nch ho (I.freeC x c e)
   exact ⟨_,q,hd⟩
  ·exact ⟨o,keep c o (I.cne x c e) hc nch ho (I.freeC x c e),hd⟩
 refine ⟨I.ok,I.os,hg,⟨fun b o e n hb hx=>?_,fun b o e n hb hx=>?_,fun b o e n hx=>?_,fun b o e hx=>?_,fun b xs e=>tups b xs (I.base.tups b xs e),fun b o xs e=>frzs b o xs (I.base.frzs b o xs e),fun b ps e=>?_⟩,?_,fun x c e=>?_,?_,fun x c e=>?_,fun p hp=>?_,hok,I.len⟩
 ·exact keep b o (neL b o e) hb (neC b o e hx) (I.base.keep b o e n hb hx) (I.base.free b o e n hx)
 ·obtain ⟨sl,e1⟩:=I.base.slot b o e n hb hx
  obtain ⟨sl',e2⟩:=slot b _ (neL b o e) hb (neC b o e hx) e1 (I.base.free b o e n hx)
  exact ⟨sl',e2⟩
 ·obtain ⟨o',e1⟩:=I.base.there b o e hx
  exact free b o' (neC b o e hx) e1 (I.base.free b o e n hx)
 ·obtain ⟨o',e1⟩:=I.base.there b o e hx
  exact there b o' (neC b o e hx) e1
 ·obtain ⟨m1,e1⟩:=I.base.tbls b ps e
  obtain ⟨m2,e2⟩:=tbls b _ e1
  exact ⟨m1 ++ m2,by rw [e2,Array.append_assoc]⟩
 ·obtain ⟨m,hn,hl⟩:=I.loc
  refine ⟨m,ns m hn,fun i x v e1 e2 e3=>?_⟩
  obtain ⟨u,r,l⟩:=hl i x v e1 e2 e3
  refine ⟨u,r,?_⟩
  rcases l with l | ⟨k,c,e,z⟩
  ·exact .inl l
  ·exact .inr ⟨k,c,e,cellK x c e _ z⟩
 ·obtain ⟨v,z⟩:=I.cell x c e
  exact ⟨v,cellK x c e v z⟩
 ·obtain ⟨m,⟨o,_,_,ho,_⟩,_⟩:=I.loc
  exact free _ o (fun z=>(hch _ z).2.1 rfl) ho I.free
 ·obtain ⟨v,o,ho,hd⟩:=I.cell x c e
  exact free c o (fun z=>(hch c z).2.2.1 x c e rfl) ho (I.freeC x c e)
 ·obtain ⟨e,n,ne,nf,d⟩:=I.pin p hp
  have nch:p.1 ∉ ch:=fun z=>(hch p.1 z).2.2.2 p hp rfl
  exact ⟨keep p.1 p.2 ne nf nch e n,free p.1 p.2 nch e n,ne,nf,d⟩
theorem Inv.un {t':Nat} (I:Inv X pins σ H s) (u:Un X.fs [] H H' s.heap h') (hok:HOk X.prog X.w H' h'):Inv X pins σ H' { s with heap:=h',toks:=t' }:=by
 obtain ⟨m,⟨o,es,ep,ho,r⟩,_⟩:=id I.loc
 obtain ⟨sl,hL⟩:=u.any ho I.free (by simp)
 exact I.step (g':=s.gens) (d':=s.drawn) (ch:=[]) (fun _ z=>nomatch z) (fun b o _ hb _ e n=>u.keep b o e n hb (by simp)) (fun b o _ hb _ e n=>u.slot b o e n hb (by simp)) (fun b o _ e n=>u.free b o e n (by simp)) (fun b o _ e=>u.there b o e (by simp)) u.tups u.frzs u.tbls (fun m' hm=>by
  obtain ⟨o',es',ep',ho',r'⟩:=hm
  rw [ho] at ho'; cases ho'
  exact ⟨_,es',ep',hL,r'⟩) hok I.bare
theorem Inv.call {g':Array GenState} {t':Nat} {d':Drawn} {ch:List Addr} (I:Inv X pins σ H s) (u:Un (frs X.stack) ch H H' s.heap h') (hok:HOk X.prog X.w H' h') (hg:AllBare g')
  (hch:∀ b ∈ ch,(b ∈ X.ex ∨ X.s₀.heap.objs.size ≤ b) ∧ b ≠ X.env.locals ∧ (∀ x c,X.env.cells.lookup x = some c → c ≠ b) ∧ ∀ p ∈ X.pn ++ pins,p.1 ≠ b) :
  Inv X pins σ H' { s with heap:=h',gens:=g',drawn:=d',toks:=t' }:=by
 obtain ⟨m,⟨o,es,ep,ho,r⟩,_⟩:=id I.loc
 obtain ⟨sl,hL⟩:=u.any ho I.free fun z=>(hch _ z).2.1 rfl
 exact I.step (ch:=ch) hch (fun b o hL hb hc e n=>u.keep b o e n (fun z=>(List.mem_cons.mp (I.stkSub b z)).elim hL hb) hc) (fun b o _ _ hc e n=>u.any e n hc) (fun b o hc e n=>u.free b o e n hc) (fun b o hc e=>u.there b o e hc) u.tups u.frzs u.tbls (fun m' hm=>by
  obtain ⟨o',es',ep',ho',r'⟩:=hm
  rw [ho] at ho'; cases ho'
  exact ⟨_,es',ep',hL,r'⟩) hok hg
theorem Inv.turned {t':Nat} {it:Addr} (I:Inv X pins σ H s) (k:∀ b o,b ≠ it → s.heap.get? b = some o → h'.get? b = some o) (hn:H it = none) (hL:it ≠ X.env.locals)
  (h1:it ∈ X.ex ∨ X.s₀.heap.objs.size ≤ it) (h2:∀ x c,X.env.cells.lookup x = some c → c ≠ it) (h3:∀ p ∈ X.pn ++ pins,p.1 ≠ it):Inv X pins σ H { s with heap:=h',toks:=t' }:=by
 have nit:∀ b u,H b = some u → b ≠ it:=fun b u e z=>by rw [z,hn] at e; cases e
 refine I.step (g':=s.gens) (d':=s.drawn) (ch:=[it]) (fun b hb=>?_) (fun b o _ _ hc e _=>k b o (fun z=>hc (by simp [z])) e) (fun b o _ _ hc e _=>⟨o.slots,k b o (fun z=>hc (by simp [z])) e⟩) (fun _ _ _ _ n=>n)
  (fun b o hc e=>⟨o,k b o (fun z=>hc (by simp [z])) e⟩) (fun _ _ e=>e) (fun _ _ _ e=>e) (fun b ps e=>⟨#[],by rw [e]; simp⟩) (fun m hm=>?_) (fun b u e=>?_) I.bare
 ·have e:b = it:=by simpa using hb
  subst e
  exact ⟨h1,hL,h2,h3⟩
 ·obtain ⟨o,es,ep,ho,r⟩:=hm
  exact ⟨o,es,ep,k _ o (Ne.symm hL) ho,r⟩
 ·refine (I.hok b u e).stay (fun c v hc q=>k c v ?_ q) (fun _ q=>q) fun _ _ q=>q
  rcases hc with z | z
  ·rw [z]; exact nit b u e
  ·exact nit c _ z
theorem Inv.tok (I:Inv X pins σ H s) (t:Nat):Inv X pins σ H { s with toks:=t }:=I.un (h':=s.heap) (t':=t) Un.refl I.hok
theorem Inv.kept {t':Nat} (I:Inv X pins σ H s) (k:∀ b u,s.heap.get? b = some u → h'.get? b = some u):Inv X pins σ H { s with heap:=h',toks:=t' }:=I.un (Un.kept k) (I.hok.kept k)
theorem Inv.laid {a:Addr} {o:HO} {t':Nat} (I:Inv X pins σ H s) (k:∀ b u,s.heap.get? b = some u → h'.get? b = some u) (hp:s.heap.objs.size ≤ a) (new:ObjOk X.prog X.w (upd H a o) h' a o) :
  Inv X pins σ (upd H a o) { s with heap:=h',toks:=t' }:=I.un (Un.laid k hp (I.hok.fresh hp)) (I.hok.laid k hp new)
theorem Inv.write {x e:Addr} {o:HO} {t':Nat} (I:Inv X pins σ H s) (mu:Mut (H x)) (he:e = x ∨ H e = some (.own x)) (k:∀ b u,b ≠ e → s.heap.get? b = some u → h'.get? b = some u) (heo:∃ u,h'.get? e = some u)
  (new:ObjOk X.prog X.w (upd H x o) h' x o):Inv X pins σ (upd H x o) { s with heap:=h',toks:=t' }:=I.un (Un.write mu he k heo) (I.hok.write mu he k heo new)
theorem Inv.pins_of {pins':List (Addr × Obj)} (I:Inv X pins σ H s) (h:∀ p ∈ pins',s.heap.get? p.1 = some p.2 ∧ H p.1 = none ∧ p.1 ≠ X.env.locals ∧ p.1 ∉ X.fs ∧ ∀ v,p.2.data ≠ .cell v):Inv X pins' σ H s :=
 ⟨I.ok,I.os,I.bare,I.base,I.loc,I.cell,I.free,I.freeC,fun p hp=>(List.mem_append.mp hp).elim (fun z=>I.pin p (List.mem_append_left _ z)) (h p),I.hok,I.len⟩
theorem nodup_ix {N:List Str} (hN:N.Nodup) {i j:Nat} {x:Str} (a:N[i]? = some x) (b:N[j]? = some x):i = j:=by
 obtain ⟨h1,e1⟩:=List.getElem?_eq_some_iff.mp a
 obtain ⟨h2,e2⟩:=List.getElem?_eq_some_iff.mp b
 exact (List.getElem_inj hN).mp (e1.trans e2.symm)
theorem store_ok2 {M:Model} {A:Around} {E:Value → Shared → Prop} {i:Nat} {x:Str} {v:V} {u:Value} {Q:Unit → Shared → Prop} (I:Inv X pins σ H s) (hN:X.N.Nodup) (hi:X.N[i]? = some x) (hx:Loc X.env.scope x) (r:RelV v u)
  (h:∀ s',Inv X pins (σ.set i (some v)) H s' → (∃ a,Heap.SameBut a s.heap s'.heap ∧ (a = X.env.locals ∨ X.env.cells.lookup x = some a)) → Q () s') (hf:X.fn x = true ∨ X.env.scope.names.lookup x = some .local:=by first | exact .inl rfl | exact .inr rfl | assumption):wpAny M A (storeName X.env x u) Q E s:=by
 obtain ⟨m,hn,hl⟩:=id I.loc
 have hcls:(X.env.scope.kind == .class || (X.env.scope.kind == .module && X.env.locals != X.env.globals)) = false:=by rw [I.ok.kind]; rfl
 have hiσ:i < σ.length:=by rw [I.len]; exact (List.getElem?_eq_some_iff.mp hi).1
 have cne:=I.cne
 have tracked:∀ {a:Addr} {h':Heap},(∃ o,s.heap.get? a = some o ∧ H a = none) → Heap.SameBut a s.heap h' → HOk X.prog X.w H h':=fun {a h'} ha hs b ob e=>by
  obtain ⟨_,_,hfree⟩:=ha
  refine (I.hok b ob e).stay (fun c w' hc q=>(hs.2 c ?_).trans q) (fun _ q=>q) fun _ _ q=>q
  rintro rfl
  rcases hc with rfl | hc
  ·rw [hfree] at e; cases e
  ·rw [hfree] at hc; cases hc
 rcases hx with hk | hk
 ·refine wpAny_storeName_local hk hn (fun h' hn' hs=>?_) hcls
  obtain ⟨oL,_,_,hoL,_⟩:=id hn
  refine h _ ⟨I.ok,I.os,I.bare,⟨fun b o e n hb hx=>?_,fun b o e n hb hx=>?_,I.base.free,fun b o e hx=>?_,I.base.tups,I.base.frzs,I.base.tbls⟩,⟨_,hn',fun j y v' e1 e2 e3=>?_⟩,fun y c e=>?_,I.free,I.freeC,fun p hp=>?_,tracked ⟨oL,hoL,I.free⟩ hs,by simpa using I.len⟩ ⟨_,hs,.inl rfl⟩
  ·exact (hs.2 b (Nat.ne_of_lt (Nat.lt_of_lt_of_le (Heap.lt_size e) I.ok.above))).trans (I.base.keep b o e n hb hx)
  ·obtain ⟨sl,e1⟩:=I.base.slot b o e n hb hx
   exact ⟨sl,(hs.2 b (Nat.ne_of_lt (Nat.lt_of_lt_of_le (Heap.lt_size e) I.ok.above))).trans e1⟩
  ·obtain ⟨o',e1⟩:=I.base.there b o e hx
   exact ⟨o',(hs.2 b (Nat.ne_of_lt (Nat.lt_of_lt_of_le (Heap.lt_size e) I.ok.above))).trans e1⟩
  ·by_cases hj:j = i
   ·subst hj
    rw [hi] at e1; cases e1
    rw [List.getElem?_set_self hiσ] at e2
    cases e2
    exact ⟨u,r,.inl ⟨hk,by simp⟩⟩
   ·rw [List.getElem?_set_ne (Ne.symm hj)] at e2
    obtain ⟨u',r',q⟩:=hl j y v' e1 e2 e3
    refine ⟨u',r',?_⟩
    rcases q with ⟨k,e⟩ | ⟨k,c,e,z⟩
    ·refine .inl ⟨k,?_⟩
     have:y ≠ x:=fun e=>hj (nodup_ix hN e1 (e ▸ hi))
     simp [this,e]
    ·exact .inr ⟨k,c,e,z.sameBut hs (cne y c e)⟩
  ·obtain ⟨w',z⟩:=I.cell y c e
   exact ⟨w',z.sameBut hs (cne y c e)⟩
  ·obtain ⟨e,n,ne,nf,d⟩:=I.pin p hp
   exact ⟨(hs.2 p.1 ne).trans e,n,ne,nf,d⟩
 ·have hfn:X.fn x = true:=by
   rcases hf with z | z
   ·exact z
   ·rw [z] at hk; cases hk
  obtain ⟨c,hc⟩:=I.ok.has x (.inl hk)
  obtain ⟨w',z⟩:=I.cell x c hc
  refine wpAny_storeName_cell I.ok.kind hk hc z (fun h' hc' hs=>?_)
  obtain ⟨oc,hoc,hocd⟩:=id z
  refine h { s with heap:=h' } ⟨I.ok,I.os,I.bare,⟨fun b o e n hb hx=>?_,fun b o e n hb hx=>?_,I.base.free,fun b o e hx=>?_,I.base.tups,I.base.frzs,I.base.tbls⟩,⟨m,hn.sameBut hs (Ne.symm (cne x c hc)),fun j y v' e1 e2 e3=>?_⟩,fun y c' e=>?_,I.free,I.freeC,fun p hp=>?_,tracked ⟨oc,hoc,I.freeC x c hc⟩ hs,by simpa using I.len⟩ ⟨c,hs,.inr hc⟩
  ·exact (hs.2 b (Nat.ne_of_lt (Nat.lt_of_lt_of_le (Heap.lt_size e) (I.ok.cab x c hfn hc)))).trans (I.base.keep b o e n hb hx)
  ·obtain ⟨sl,e1⟩:=I.base.slot b o e n hb hx
   exact ⟨sl,(hs.2 b (Nat.ne_of_lt (Nat.lt_of_lt_of_le (Heap.lt_size e) (I.ok.cab x c hfn hc)))).trans e1⟩
  ·obtain ⟨o',e1⟩:=I.base.there b o e hx
   exact ⟨o',(hs.2 b (Nat.ne_of_lt (Nat.lt_of_lt_of_le (Heap.lt_size e) (I.ok.cab x c hfn hc)))).trans e1⟩
  ·by_cases hj:j = i
   ·subst hj
    rw [hi] at e1; cases e1
    rw [List.getElem?_set_self hiσ] at e2
    cases e2
    exact ⟨u,r,.inr ⟨.inl hk,c,hc,hc'⟩⟩
   ·rw [List.getElem?_set_ne (Ne.symm hj)] at e2
    obtain ⟨u',r',q⟩:=hl j y v' e1 e2 e3
    refine ⟨u',r',?_⟩
    rcases q with q | ⟨k,c',e,z'⟩
    ·exact .inl q
    ·refine .inr ⟨k,c',e,z'.sameBut hs ?_⟩
     rintro rfl
     exact hj (nodup_ix hN e1 (I.ok.inj _ _ _ e hc ▸ hi))
  ·by_cases hcc:c' = c
   ·subst hcc; exact ⟨_,hc'⟩
   ·obtain ⟨w2,z2⟩:=I.cell y c' e
    exact ⟨w2,z2.sameBut hs hcc⟩
  ·obtain ⟨e,n,ne,nf,d⟩:=I.pin p hp
   refine ⟨(hs.2 p.1 ?_).trans e,n,ne,nf,d⟩
   intro q
   rw [q,hoc] at e
   have q':oc = p.2:=Option.some.inj e
   exact d w' (by rw [← q']; exact hocd)
theorem store_ok {M:Model} {A:Around} {E:Value → Shared → Prop} {i:Nat} {x:Str} {v:V} {u:Value} {Q:Unit → Shared → Prop} (I:Inv X pins σ H s) (hN:X.N.Nodup) (hi:X.N[i]? = some x) (hx:Loc X.env.scope x) (r:RelV v u)
  (h:∀ s',Inv X pins (σ.set i (some v)) H s' → Q () s') (hf:X.fn x = true ∨ X.env.scope.names.lookup x = some .local:=by first | exact .inl rfl | exact .inr rfl | assumption):wpAny M A (storeName X.env x u) Q E s :=
 store_ok2 I hN hi hx r (fun s' I' _=>h s' I') hf
theorem Inv.call' {s':Shared} {ch:List Addr} (I:Inv X pins σ H s) (ho:s'.os = s.os) (u:Un (frs X.stack) ch H H' s.heap s'.heap) (hok:HOk X.prog X.w H' s'.heap) (hg:AllBare s'.gens)
  (hch:∀ b ∈ ch,(b ∈ X.ex ∨ X.s₀.heap.objs.size ≤ b) ∧ b ≠ X.env.locals ∧ (∀ x c,X.env.cells.lookup x = some c → c ≠ b) ∧ ∀ p ∈ X.pn ++ pins,p.1 ≠ b):Inv X pins σ H' s':=by
 obtain ⟨h',g',d',t',o'⟩:=s'
 have e:o' = s.os:=ho
 subst e
 exact I.call (g':=g') (t':=t') (d':=d') u hok hg hch
end
noncomputable abbrev XK:=Value → Option Addr → Hp → Prop
noncomputable abbrev St:=List (Option V)
noncomputable abbrev VK:=V → Hp → Prop
noncomputable abbrev TE:=St → Hp → VK → Prop
noncomputable abbrev TT:=St → Hp → (Bool → Hp → Prop) → Prop
noncomputable abbrev TA:=St → Hp → (List V → Hp → Prop) → Prop
structure Ends where
 nx:St → Hp → Prop
 rt:VK
 bk:St → Hp → Prop:=fun _ _=>False
 ct:St → Hp → Prop:=fun _ _=>False
noncomputable abbrev TS:=Ends → St → Hp → Prop
noncomputable def EP (X:Cx) (pins:List (Addr × Obj)) (σ:St) (Q:VK) (u:Value) (s':Shared):Prop:=∃ v H',Inv X pins σ H' s' ∧ RelV v u ∧ Q v H'
noncomputable def TP (X:Cx) (pins:List (Addr × Obj)) (σ:St) (Q:Bool → Hp → Prop) (b:Bool) (s':Shared):Prop:=∃ H',Inv X pins σ H' s' ∧ Q b H'
noncomputable def AP (X:Cx) (pins:List (Addr × Obj)) (σ:St) (Q:List V → Hp → Prop) (us:List Value) (s':Shared):Prop:=∃ vs H',Inv X pins σ H' s' ∧ Vals vs us ∧ Q vs H'
noncomputable def SP (X:Cx) (pins:List (Addr × Obj)) (D:Ends) (f:Flow) (s':Shared):Prop :=
 match f with
 | .next=>∃ σ' H',Inv X pins σ' H' s' ∧ D.nx σ' H'
 | .brk=>∃ σ' H',Inv X pins σ' H' s' ∧ D.bk σ' H'
 | .cont=>∃ σ' H',Inv X pins σ' H' s' ∧ D.ct σ' H'
 | .ret u=>∃ v σ' H',Inv X pins σ' H' s' ∧ RelV v u ∧ D.rt v H'
noncomputable def PE (X:Cx) (e:Expr) (t:TE):Prop :=
 ∀ (pins:List (Addr × Obj)) (s:Shared) (σ:St) (H:Hp) (Q:VK),Inv X pins σ H s → t σ H Q → wpAny (model X.prog X.w) X.A (eval e X.env) (EP X pins σ Q) X.xe s
noncomputable def PT (X:Cx) (e:Expr) (t:TT):Prop :=
 ∀ (pins:List (Addr × Obj)) (s:Shared) (σ:St) (H:Hp) (Q:Bool → Hp → Prop),Inv X pins σ H s → t σ H Q → wpAny (model X.prog X.w) X.A (isTrue e X.env (eval e X.env)) (TP X pins σ Q) X.xe s
noncomputable def PW (X:Cx) (e:Expr) (t:TT):Prop :=
 ∀ (whole:Sem Value) (pins:List (Addr × Obj)) (s:Shared) (σ:St) (H:Hp) (Q:Bool → Hp → Prop),Inv X pins σ H s → t σ H Q → wpAny (model X.prog X.w) X.A (isTrue e X.env whole) (TP X pins σ Q) X.xe s
theorem PW.pt {X:Cx} {e:Expr} {t:TT} (h:PW X e t):PT X e t:=h _
noncomputable def PA (X:Cx) (es:List Expr) (t:TA):Prop :=
 ∀ (pos:Pos) (pins:List (Addr × Obj)) (s:Shared) (σ:St) (H:Hp) (Q:List V → Hp → Prop),Inv X pins σ H s → t σ H Q → wpAny (model X.prog X.w) X.A (spliced (backTo pos (starEach es X.env))) (AP X pins σ Q) X.xe s
noncomputable def PS (X:Cx) (st:Stmt) (t:TS):Prop :=
 ∀ (pins:List (Addr × Obj)) (s:Shared) (σ:St) (H:Hp) (D:Ends),Inv X pins σ H s → t D σ H → wpAny (model X.prog X.w) X.A (exec st X.env) (SP X pins D) X.xe s
noncomputable def PSs (X:Cx) (st:List Stmt) (t:TS):Prop :=
 ∀ (pins:List (Addr × Obj)) (s:Shared) (σ:St) (H:Hp) (D:Ends),Inv X pins σ H s → t D σ H → wpAny (model X.prog X.w) X.A (execs st X.env) (SP X pins D) X.xe s
theorem thn {α:Type} {t:Sem α} {Q Q':α → Shared → Prop} {M:Model} {A:Around} {E:Value → Shared → Prop} {s:Shared} (h:wpAny M A t Q E s) (hQ:∀ a s,Q a s → Q' a s):wpAny M A t Q' E s:=wpAny_mono h hQ fun _ _ x=>x
end L2
namespace L2
open PySem PySem.Spec PyProof.Rows
section
variable {X:Cx}
theorem bin {a b:Expr} {ta tb:TE} (ha:PE X a ta) (hb:PE X b tb) {pins:List (Addr × Obj)} {s:Shared} {σ:St} {H:Hp} {R:V → V → Hp → Prop} (I:Inv X pins σ H s) (h:ta σ H fun x H1=>tb σ H1 fun y H2=>R x y H2)
  {α:Type} {Q:α → Shared → Prop} {f:Value → Value → Sem α}
  (hf:∀ v u s2 x y H2,Inv X pins σ H2 s2 → RelV x v → RelV y u → R x y H2 → wpAny (model X.prog X.w) X.A (f v u) Q X.xe s2) :
  wpAny (model X.prog X.w) X.A (eval a X.env) (fun v s₁=>wpAny (model X.prog X.w) X.A (eval b X.env) (fun u s₂=>wpAny (model X.prog X.w) X.A (f v u) Q X.xe s₂) X.xe s₁) X.xe s:=by
 refine thn (ha pins s σ H _ I h) fun v s1 ⟨x,H1,I1,r1,q1⟩=>?_
 refine thn (hb pins s1 σ H1 _ I1 q1) fun u s2 ⟨y,H2,I2,r2,q2⟩=>?_
 exact hf v u s2 x y H2 I2 r1 r2 q2
noncomputable def tVar (i:Nat):TE:=fun σ H Q=>∃ v,σ[i]? = some (some v) ∧ Q v H
noncomputable def tC (v:V):TE:=fun _ H Q=>Q v H
theorem pe_var {i:Nat} {x:Str} {pos:Pos} (hN:X.N[i]? = some x) (hv:Vis X.env.scope x) (hd:(x == ("__debug__":Str)) = false:=by decide) (hcd:(x == ("__classdict__":Str)) = false:=by decide):PE X (.Name x pos) (tVar i):=by
 intro pins s σ H Q I h
 obtain ⟨v,e,h⟩:=h
 obtain ⟨m,hn,hl⟩:=I.loc
 obtain ⟨u,r,l⟩:=hl i x v hN e hv
 have fin:EP X pins σ Q u s:=⟨v,H,I,r,h⟩
 rcases l with ⟨hk,hm⟩ | ⟨hk,c,hc,hcell⟩
 ·exact wpAny_Name (wpAny_loadName_local I.ok.kind hk hn hm fin) hd
 ·rcases hk with hk | hk
  ·exact wpAny_Name (wpAny_loadName_cell I.ok.kind hk hc hcell fin) hd
  ·exact wpAny_Name (wpAny_loadName_free I.ok.kind hk hc hcell fin hcd) hd
theorem pe_int {i j pos}:PE X (.Constant (.int i) j pos) (tC (.int i)):=fun _ _ _ H _ I h=>wpAny_Constant_int ⟨.int i,H,I.tok _,⟨_,rfl⟩,h⟩
theorem pe_bl {b j pos}:PE X (.Constant (.bool b) j pos) (tC (.bl b)):=fun _ _ _ H _ I h=>Constant_bool ⟨.bl b,H,I,rfl,h⟩
theorem pe_str {x j pos}:PE X (.Constant (.str x) j pos) (tC (.str x)):=fun _ _ _ H _ I h=>Calls.Constant_str ⟨.str x,H,I.tok _,⟨_,rfl⟩,h⟩
noncomputable def Gl (X:Cx) (x:Str):Prop:=X.env.kindOf x = some .globalImplicit
theorem ld_glob {E:Value → Shared → Prop} {pins:List (Addr × Obj)} {s:Shared} {σ:St} {H:Hp} {x:Str} {u:Value} {pos:Pos} {Q:Value → Shared → Prop} (I:Inv X pins σ H s) (hg:Gl X x) (hm:X.mg x = some u) (h:Q u s)
  (hd:(x == ("__debug__":Str)) = false:=by decide):wpAny (model X.prog X.w) X.A (eval (.Name x pos) X.env) Q E s :=
 Calls.Name_function_global I.ok.kind hg (Calls.loadGlobal_global (by rw [I.ok.glob]; exact I.mod.glob.keeps I.bk) hm h) hd
theorem ld_blt {E:Value → Shared → Prop} {pins:List (Addr × Obj)} {s:Shared} {σ:St} {H:Hp} {x:Str} {u:Value} {pos:Pos} {Q:Value → Shared → Prop} (I:Inv X pins σ H s) (hg:Gl X x) (hm:X.mg x = none) (hv:bootBuiltins x = some u) (h:Q u s)
  (hn:x ≠ "__name__":=by decide) (hd:(x == ("__debug__":Str)) = false:=by decide):wpAny (model X.prog X.w) X.A (eval (.Name x pos) X.env) Q E s:=by
 obtain ⟨mb,h1,h2⟩:=I.mod.blt
 exact Calls.Name_function_global I.ok.kind hg (Calls.loadGlobal_builtin (by rw [I.ok.glob]; exact I.mod.glob.keeps I.bk) hm (by rw [I.ok.blt]; exact h1.keeps I.bk) ((h2 x hn).trans hv) h) hd
theorem pe_glob {x:Str} {v:V} {u:Value} {pos:Pos} (hg:Gl X x) (hm:X.mg x = some u) (r:RelV v u) (hd:(x == ("__debug__":Str)) = false:=by decide):PE X (.Name x pos) (tC v) :=
 fun _ _ _ H _ I h=>ld_glob I hg hm ⟨v,H,I,r,h⟩ hd
theorem pe_bltn {x:Str} {v:V} {u:Value} {pos:Pos} (hg:Gl X x) (hm:X.mg x = none) (hv:bootBuiltins x = some u) (r:RelV v u) (hn:x ≠ "__name__":=by decide) (hd:(x == ("__debug__":Str)) = false:=by decide):PE X (.Name x pos) (tC v) :=
 fun _ _ _ H _ I h=>ld_blt I hg hm hv ⟨v,H,I,r,h⟩ hn hd
variable {a b:Expr} {ta tb:TE} {pos:Pos}
variable {tA tB':TT} {rest:List Expr}
noncomputable def tAnd (t u:TT):TT:=fun σ H Q=>t σ H fun c H1=>if c = true then u σ H1 Q else Q false H1
noncomputable def tOr (t u:TT):TT:=fun σ H Q=>t σ H fun c H1=>if c = true then Q true H1 else u σ H1 Q
noncomputable def tNot (t:TT):TT:=fun σ H Q=>t σ H fun c H1=>Q (!c) H1
theorem pw_and1 (ha:PT X a tA):PW X (.BoolOp .And [a] pos) tA:=by
 intro wh pins s σ H Q I h
 refine isTrue_and (thn (ha pins s σ H Q I h) fun c s1 e=>?_)
 cases c with
 | true=>exact isTrue_and_nil e
 | false=>exact e
theorem pw_or1 (ha:PT X a tA):PW X (.BoolOp .Or [a] pos) tA:=by
 intro wh pins s σ H Q I h
 refine isTrue_or (thn (ha pins s σ H Q I h) fun c s1 e=>?_)
 cases c with
 | false=>exact isTrue_or_nil e
 | true=>exact e
theorem pw_and (ha:PT X a tA) (hb:PW X (.BoolOp .And (b :: rest) pos) tB'):PW X (.BoolOp .And (a :: b :: rest) pos) (tAnd tA tB'):=by
 intro wh pins s σ H Q I h
 refine isTrue_and (thn (ha pins s σ H _ I h) fun c s1 ⟨H1,I1,q1⟩=>?_)
 cases c with
 | true=>exact hb wh pins s1 σ H1 Q I1 q1
 | false=>exact ⟨H1,I1,q1⟩
theorem pw_or (ha:PT X a tA) (hb:PW X (.BoolOp .Or (b :: rest) pos) tB'):PW X (.BoolOp .Or (a :: b :: rest) pos) (tOr tA tB'):=by
 intro wh pins s σ H Q I h
 refine isTrue_or (thn (ha pins s σ H _ I h) fun c s1 ⟨H1,I1,q1⟩=>?_)
 cases c with
 | true=>exact ⟨H1,I1,q1⟩
 | false=>exact hb wh pins s1 σ H1 Q I1 q1
theorem pt_not (ha:PT X a tA):PT X (.UnaryOp .Not a pos) (tNot tA):=by
 intro pins s σ H Q I h
 exact isTrue_not (ha pins s σ H (fun c H1=>Q (!c) H1) I h)
noncomputable def tAndV (ta tb:TE):TE:=fun σ H Q=>ta σ H fun x H1=>∃ c,x = .bl c ∧ if c = true then tb σ H1 Q else Q (.bl false) H1
noncomputable def tOrV (ta tb:TE):TE:=fun σ H Q=>ta σ H fun x H1=>∃ c,x = .bl c ∧ if c = true then Q (.bl true) H1 else tb σ H1 Q
noncomputable def tNotV (ta:TE):TE:=fun σ H Q=>ta σ H fun x H1=>∃ c,x = .bl c ∧ Q (.bl (!c)) H1
theorem pe_one {op} {t:TE} (h:PE X a t):PE X (.BoolOp op [a] pos) t:=fun pins s σ H Q I hw=>BoolOp_one (h pins s σ H Q I hw)
theorem pe_and (ha:PE X a ta) (hb:PE X (.BoolOp .And (b :: rest) pos) tb):PE X (.BoolOp .And (a :: b :: rest) pos) (tAndV ta tb):=by
 intro pins s σ H Q I h
 refine BoolOp_and (thn (ha pins s σ H _ I h) fun v s1 ⟨x,H1,I1,r1,q1⟩=>?_)
 obtain ⟨c,rfl,q1⟩:=q1
 cases r1
 refine wpAny_truthy_bool ?_
 cases c with
 | true=>exact hb pins s1 σ H1 Q I1 q1
 | false=>exact ⟨.bl false,H1,I1,rfl,q1⟩
theorem pe_or (ha:PE X a ta) (hb:PE X (.BoolOp .Or (b :: rest) pos) tb):PE X (.BoolOp .Or (a :: b :: rest) pos) (tOrV ta tb):=by
 intro pins s σ H Q I h
 refine BoolOp_or (thn (ha pins s σ H _ I h) fun v s1 ⟨x,H1,I1,r1,q1⟩=>?_)
 obtain ⟨c,rfl,q1⟩:=q1
 cases r1
 refine wpAny_truthy_bool ?_
 cases c with
 | false=>exact hb pins s1 σ H1 Q I1 q1
 | true=>exact ⟨.bl true,H1,I1,rfl,q1⟩
theorem pe_not (ha:PE X a ta):PE X (.UnaryOp .Not a pos) (tNotV ta):=by
 intro pins s σ H Q I h
 refine UnaryOp_ (thn (ha pins s σ H _ I h) fun v s1 ⟨x,H1,I1,r1,q1⟩=>?_)
 obtain ⟨c,rfl,q1⟩:=q1
 cases r1
 exact not_of (wpAny_truthy_bool ⟨.bl (!c),H1,I1,rfl,q1⟩)
noncomputable def tIf (t:TT) (ta tb:TE):TE:=fun σ H Q=>t σ H fun c H1=>if c = true then ta σ H1 Q else tb σ H1 Q
theorem pe_ifExp {c:Expr} (hc:PT X c tA) (ha:PE X a ta) (hb:PE X b tb):PE X (.IfExp c a b pos) (tIf tA ta tb):=by
 intro pins s σ H Q I h
 refine wpAny_IfExp (thn (hc pins s σ H _ I h) fun d s1 ⟨H1,I1,q1⟩=>?_)
 cases d with
 | true=>exact ha pins s1 σ H1 Q I1 q1
 | false=>exact hb pins s1 σ H1 Q I1 q1
end
end L2
namespace L2
open PySem PySem.Spec PyProof.Rows
noncomputable def SqL (K:PySem.W.Frag) (H:Hp) (a:Addr) (xs:List V):Prop :=
 Rd H a (.lst xs) ∨
  ∃ (o:Obj) (its:Array Value) (n:Nat),K.lookup a = some o ∧ o.cls = .type "list" ∧ o.dict = none ∧ o.data = .seq its n ∧ its.size ≤ sizeLine ∧ Vals xs its.toList
noncomputable def SqT (K:PySem.W.Frag) (H:Hp) (a:Addr) (xs:List V):Prop :=
 Rd H a (.tup xs) ∨
  ∃ (o:Obj) (its:Array Value) (n:Nat),K.lookup a = some o ∧ o.cls = .type "tuple" ∧ o.data = .seq its n ∧ its.size ≤ sizeLine ∧ Vals xs its.toList
noncomputable def absV:Value → Option V
 | .none=>some .non
 | .bool b=>some (.bl b)
 | .int i _=>some (.int i)
 | .str x _=>some (.str x)
 | .bytes b _=>some (.byt b)
 | .float b _=>some (.flt b)
 | .ref a=>some (.ref a)
 | .type n=>some (.ty n)
 | _=>none
theorem RelV.abs {x:V} {u:Value} (r:RelV x u):absV u = some x:=by
 cases x with
 | non=>cases r; rfl
 | bl _=>cases r; rfl
 | int _=>obtain ⟨t,rfl⟩:=r; rfl
 | str _=>obtain ⟨t,rfl⟩:=r; rfl
 | byt _=>obtain ⟨t,rfl⟩:=r; rfl
 | flt _=>obtain ⟨t,rfl⟩:=r; rfl
 | ref _=>cases r; rfl
 | ty _=>cases r; rfl
theorem RelV.inj {x y:V} {u:Value} (r:RelV x u) (q:RelV y u):x = y:=Option.some.inj (r.abs.symm.trans q.abs)
theorem Vals.inj:∀ {xs ys:List V} {us:List Value},Vals xs us → Vals ys us → xs = ys
 | _,_,_,.nil,.nil=>rfl
 | _,_,_,.cons r t,.cons r' t'=>by rw [r.inj r',Vals.inj t t']
section
variable {X:Cx} {pins:List (Addr × Obj)} {σ:St} {H:Hp} {s:Shared} {a:Addr} {xs ys:List V}
theorem SqL.of {K:PySem.W.Frag} (h:H a = some (.lst xs)):SqL K H a xs:=.inl (.inl h)
theorem SqT.of {K:PySem.W.Frag} (h:H a = some (.tup xs)):SqT K H a xs:=.inl (.inl h)
theorem Inv.list (I:Inv X pins σ H s) (h:SqL X.K H a xs):∃ its:List Value,Vals xs its ∧ PlainL s.heap a its.toArray ∧ xs.length ≤ sizeLine:=by
 rcases h with h | ⟨o,its,n,hk,hc,hd,hs,hz,r⟩
 ·obtain ⟨z,its,n,r,e⟩:=h.ok I.hok
  exact ⟨its,r,⟨_,n,e,rfl,rfl,rfl⟩,z⟩
 ·refine ⟨its.toList,r,⟨o,n,I.kIn a o hk,hc,hd,by simpa using hs⟩,?_⟩
  have e:=r.length
  simp only [Array.length_toList] at e
  omega
theorem Inv.tuple (I:Inv X pins σ H s) (h:SqT X.K H a xs):∃ its:List Value,Vals xs its ∧ IsTup s.heap a its.toArray ∧ xs.length ≤ sizeLine:=by
 rcases h with h | ⟨o,its,n,hk,hc,hs,hz,r⟩
 ·obtain ⟨z,its,r,p⟩:=h.ok I.hok
  exact ⟨its,r,p.tup,z⟩
 ·refine ⟨its.toList,r,⟨o,I.kIn a o hk,hc,n,by simpa using hs⟩,?_⟩
  have e:=r.length
  simp only [Array.length_toList] at e
  omega
theorem Inv.list_inj (I:Inv X pins σ H s) (h:SqL X.K H a xs) (h':SqL X.K H a ys):xs = ys:=by
 obtain ⟨its,r,⟨o,n,e,_,_,d⟩,_⟩:=I.list h
 obtain ⟨its',r',⟨o',n',e',_,_,d'⟩,_⟩:=I.list h'
 rw [e] at e'; cases e'
 rw [d] at d'
 injection d' with d1 _
 have:its = its':=by simpa using congrArg Array.toList d1
 subst this
 exact r.inj r'
theorem Inv.tuple_inj (I:Inv X pins σ H s) (h:SqT X.K H a xs) (h':SqT X.K H a ys):xs = ys:=by
 obtain ⟨its,r,⟨o,e,_,n,d⟩,_⟩:=I.tuple h
 obtain ⟨its',r',⟨o',e',_,n',d'⟩,_⟩:=I.tuple h'
 rw [e] at e'; cases e'
 rw [d] at d'
 injection d' with d1 _
 have:its = its':=by simpa using congrArg Array.toList d1
 subst this
 exact r.inj r'
end
noncomputable abbrev Cx.wish (X:Cx) (E:Value → Shared → Prop):Cx:={ X with xe:=E }
noncomputable abbrev Cx.nox (X:Cx):Cx:=X.wish fun _ _=>False
theorem Cx.Ok.wish {X:Cx} (ok:X.Ok) (E:Value → Shared → Prop):(X.wish E).Ok :=
 ⟨ok.mod,ok.kind,ok.glob,ok.blt,ok.above,ok.inj,ok.has,ok.cab,ok.hd,ok.frames,ok.stk,ok.exf,ok.bs,ok.bsz,ok.noex,ok.exfs,ok.funs,ok.frf⟩
theorem Cx.Ok.unwish {X:Cx} {E:Value → Shared → Prop} (ok:(X.wish E).Ok):X.Ok :=
 ⟨ok.mod,ok.kind,ok.glob,ok.blt,ok.above,ok.inj,ok.has,ok.cab,ok.hd,ok.frames,ok.stk,ok.exf,ok.bs,ok.bsz,ok.noex,ok.exfs,ok.funs,ok.frf⟩
section
variable {X:Cx} {pins:List (Addr × Obj)} {σ:St} {H:Hp} {s:Shared} {E:Value → Shared → Prop}
theorem Inv.wish (I:Inv X pins σ H s) (E:Value → Shared → Prop):Inv (X.wish E) pins σ H s:=⟨I.ok.wish E,I.os,I.bare,I.base,I.loc,I.cell,I.free,I.freeC,I.pin,I.hok,I.len⟩
theorem Inv.unwish (I:Inv (X.wish E) pins σ H s):Inv X pins σ H s:=⟨I.ok.unwish,I.os,I.bare,I.base,I.loc,I.cell,I.free,I.freeC,I.pin,I.hok,I.len⟩
theorem SP.unwish {D:Ends} {f:Flow} {s':Shared} (h:SP (X.wish E) pins D f s'):SP X pins D f s':=by
 cases f with
 | next=>obtain ⟨σ',H',I,q⟩:=h; exact ⟨σ',H',I.unwish,q⟩
 | brk=>obtain ⟨σ',H',I,q⟩:=h; exact ⟨σ',H',I.unwish,q⟩
 | cont=>obtain ⟨σ',H',I,q⟩:=h; exact ⟨σ',H',I.unwish,q⟩
 | ret u=>obtain ⟨v,σ',H',I,r,q⟩:=h; exact ⟨v,σ',H',I.unwish,r,q⟩
theorem PSs.nox {st:List Stmt} {t:TS} (h:PSs X.nox st t):PSs X st t:=fun pins s σ H D I hw =>
 wpAny_mono (h pins s σ H D (I.wish _) hw) (fun _ _ q=>q.unwish) fun _ _ z=>False.elim z
end
section
variable {X:Cx} {st:Stmt} {rest:List Stmt} {t u:TS} {e:Expr} {te:TE} {pos:Pos}
noncomputable def tNext:TS:=fun D σ H=>D.nx σ H
noncomputable def tSeq (t u:TS):TS:=fun D σ H=>t { D with nx:=u D } σ H
theorem pss_nil:PSs X [] tNext:=fun _ _ σ H _ I h=>wpAny_execs_nil ⟨σ,H,I,h⟩
theorem pss_cons (h1:PS X st t) (h2:PSs X rest u):PSs X (st :: rest) (tSeq t u):=by
 intro pins s σ H D I h
 refine wpAny_execs_cons (thn (h1 pins s σ H { D with nx:=u D } I h) fun f s1 q=>?_)
 cases f with
 | next =>
  obtain ⟨σ',H',I',q⟩:=q
  exact h2 pins s1 σ' H' D I' q
 | ret v=>exact q
 | brk=>exact q
 | cont=>exact q
theorem pss_one (h1:PS X st t):PSs X [st] t:=by
 intro pins s σ H D I h
 refine wpAny_execs_cons (thn (h1 pins s σ H D I h) fun f s1 q=>?_)
 cases f with
 | next=>exact wpAny_execs_nil q
 | ret v=>exact q
 | brk=>exact q
 | cont=>exact q
theorem Inv.quiet {pins:List (Addr × Obj)} {σ:St} {H:Hp} {s:Shared} (I:Inv X pins σ H s):interactive X.env = false:=by simp [interactive,I.ok.kind]
noncomputable def tDrop (te:TE):TS:=fun D σ H=>te σ H fun _ H1=>D.nx σ H1
theorem ps_expr (he:PE X e te) (hs:swapsWith e none pos.line X.env = pure false:=by rfl):PS X (.Expr e pos) (tDrop te):=by
 intro pins s σ H D I h
 exact wpAny_Expr_any (thn (he pins s σ H _ I h) fun v s1 ⟨x,H1,I1,r1,q1⟩=>⟨σ,H1,I1,q1⟩) I.quiet hs
noncomputable def tRet (te:TE):TS:=fun D σ H=>te σ H D.rt
theorem ps_ret (he:PE X e te):PS X (.Return (some e) pos) (tRet te):=by
 intro pins s σ H D I h
 exact wpAny_Return_some (thn (he pins s σ H _ I h) fun v s1 ⟨x,H1,I1,r1,q1⟩=>⟨x,σ,H1,I1,r1,q1⟩)
noncomputable def tIfS (c:TT) (t u:TS):TS:=fun D σ H=>c σ H fun b H1=>if b = true then t D σ H1 else u D σ H1
theorem ps_if {c:Expr} {a b:List Stmt} {tc:TT} (hc:PT X c tc) (ha:PSs X a t) (hb:PSs X b u):PS X (.If c a b pos) (tIfS tc t u):=by
 intro pins s σ H D I h
 refine wpAny_If (thn (hc pins s σ H _ I h) fun d s1 ⟨H1,I1,q1⟩=>?_)
 cases d with
 | true=>exact ha pins s1 σ H1 D I1 q1
 | false=>exact hb pins s1 σ H1 D I1 q1
end
noncomputable abbrev TG:=V → St → Hp → (St → Hp → Prop) → Prop
noncomputable abbrev TGs:=List V → St → Hp → (St → Hp → Prop) → Prop
noncomputable def PG (X:Cx) (target:Expr) (t:TG):Prop :=
 ∀ (pins:List (Addr × Obj)) (s:Shared) (σ:St) (H:Hp) (v:V) (u:Value) (Q:St → Hp → Prop),Inv X pins σ H s → RelV v u → t v σ H Q →
  wpAny (model X.prog X.w) X.A (assign target X.env u) (fun _ s'=>∃ σ' H',Inv X pins σ' H' s' ∧ Q σ' H') X.xe s
noncomputable def PGs (X:Cx) (ts:List Expr) (t:TGs):Prop :=
 ∀ (pins:List (Addr × Obj)) (s:Shared) (σ:St) (H:Hp) (vs:List V) (us:List Value) (Q:St → Hp → Prop),Inv X pins σ H s → Vals vs us → t vs σ H Q →
  wpAny (model X.prog X.w) X.A (assignInOrder ((assignEach ts X.env).map (·.2)) us) (fun _ s'=>∃ σ' H',Inv X pins σ' H' s' ∧ Q σ' H') X.xe s
noncomputable abbrev TSet:=V → V → V → Hp → (Hp → Prop) → Prop
noncomputable def PSet (X:Cx) (t:TSet):Prop :=
 ∀ (pins:List (Addr × Obj)) (s:Shared) (σ:St) (H:Hp) (o i v:V) (ov iv u:Value) (Q:Hp → Prop),Inv X pins σ H s → RelV o ov → RelV i iv → RelV v u → t o i v H Q →
  wpAny (model X.prog X.w) X.A (setItem ov iv u) (fun _ s'=>∃ H',Inv X pins σ H' s' ∧ Q H') X.xe s
section
variable {X:Cx} {pos:Pos}
noncomputable def gName (i:Nat):TG:=fun v σ H Q=>Q (σ.set i (some v)) H
theorem pg_name {i:Nat} {x:Str} (hN:X.N.Nodup) (hi:X.N[i]? = some x) (hx:Loc X.env.scope x) (hf:X.fn x = true ∨ X.env.scope.names.lookup x = some .local:=by first | exact .inl rfl | exact .inr rfl | assumption):PG X (.Name x pos) (gName i):=by
 intro pins s σ H v u Q I r h
 exact wpAny_assign_Name (store_ok I hN hi hx r (fun s' I'=>⟨_,H,I',h⟩) hf)
noncomputable def gCons (t:TG) (u:TGs):TGs:=fun vs σ H Q=>∃ v r,vs = v :: r ∧ t v σ H fun σ' H'=>u r σ' H' Q
theorem pgs_cons {e:Expr} {es:List Expr} {t:TG} {u:TGs} (h1:PG X e t) (h2:PGs X es u)
  (hs:(assignEach (e :: es) X.env).map (·.2) = assign e X.env :: (assignEach es X.env).map (·.2):=by rfl):PGs X (e :: es) (gCons t u):=by
 intro pins s σ H vs us Q I r h
 obtain ⟨v,vr,e1,h⟩:=h
 subst e1
 cases r with
 | cons r rr =>
  rw [hs]
  refine assignInOrder_cons (thn (h1 pins s σ H _ _ _ I r h) fun _ s1 ⟨σ1,H1,I1,q1⟩=>?_)
  exact h2 pins s1 σ1 H1 _ _ Q I1 rr q1
noncomputable def gSub (to ti:TE) (t:TSet):TG:=fun v σ H Q=>to σ H fun o H1=>ti σ H1 fun i H2=>t o i v H2 fun H3=>Q σ H3
theorem pg_sub {o i:Expr} {to ti:TE} {t:TSet} (ho:PE X o to) (hi:PE X i ti) (hs:PSet X t)
  (ha:∀ v,assign (.Subscript o i pos) X.env v = (do
   let ov ← holding [v] (eval o X.env)
   let iv ← holding [v,ov] (eval i X.env)
   standAt pos
   holding [v,ov,iv] (setItem ov iv v)
   release [v,ov,iv] []):=by intro _; rfl):PG X (.Subscript o i pos) (gSub to ti t):=by
 intro pins s σ H v u Q I r h
 rw [ha]
 refine wpAny_bind (wpAny_holding (thn (ho pins s σ H _ I h) fun ov s1 ⟨x,H1,I1,r1,q1⟩=>?_))
 refine wpAny_bind (wpAny_holding (thn (hi pins s1 σ H1 _ I1 q1) fun iv s2 ⟨y,H2,I2,r2,q2⟩=>?_))
 refine wpAny_bind (wpAny_standAt (wpAny_bind (wpAny_holding (thn (hs pins s2 σ H2 x y v ov iv u _ I2 r1 r2 r q2) fun _ s3 ⟨H3,I3,q3⟩=>?_))))
 exact wpAny_release ⟨σ,H3,I3,q3⟩
noncomputable def tAsg (te:TE) (g:TG):TS:=fun D σ H=>te σ H fun x H1=>g x σ H1 D.nx
theorem ps_asg {tg e:Expr} {te:TE} {g:TG} (he:PE X e te) (hg:PG X tg g) (hs:swapsWithSole [tg] e pos.line X.env = pure false:=by rfl) (hw:swappedStores [tg] e X.env = pure none:=by rfl)
  (h1:(assignEach [tg] X.env).map (·.2) = [assign tg X.env]:=by rfl):PS X (.Assign [tg] e pos) (tAsg te g):=by
 intro pins s σ H D I h
 refine wpAny_Assign_stores (thn (he pins s σ H _ I h) fun v s1 ⟨x,H1,I1,r1,q1⟩=>?_) hs hw
 rw [h1]
 exact thn (hg pins s1 σ H1 x v _ I1 r1 q1) fun _ s2 q=>q
theorem ps_set {i:Nat} {x:Str} {e:Expr} {te:TE} {pos':Pos} (hN:X.N.Nodup) (hi:X.N[i]? = some x) (hx:Loc X.env.scope x) (he:PE X e te) (hs:swapsWith e (some (.Name x pos')) pos.line X.env = pure false:=by rfl) (hf:X.fn x = true ∨ X.env.scope.names.lookup x = some .local:=by first | exact .inl rfl | exact .inr rfl | assumption) :
  PS X (.Assign [.Name x pos'] e pos) (tAsg te (gName i)):=by
 intro pins s σ H D I h
 refine wpAny_Assign_Name (thn (he pins s σ H _ I h) fun v s1 ⟨y,H1,I1,r1,q1⟩=>?_) hs
 exact store_ok I1 hN hi hx r1 (fun s2 I2=>⟨_,H1,I2,q1⟩) hf
noncomputable def tPar (i j:Nat) (ta:TA):TS:=fun D σ H=>ta σ H fun vs H1=>∃ v w,vs = [v,w] ∧ D.nx ((σ.set i (some v)).set j (some w)) H1
theorem ps_par {i j:Nat} {x y:Str} {a b:Expr} {ta:TA} {px py pt:Pos} {kt k2 pt2} (hc:X.calm = true) (hN:X.N.Nodup) (hi:X.N[i]? = some x) (hj:X.N[j]? = some y) (hij:i ≠ j)
  (hx:X.env.scope.names.lookup x = some .local) (hy:X.env.scope.names.lookup y = some .local) (ha:PA X [a,b] ta)
  (hw:swappedStores [.Tuple [.Name x px,.Name y py] kt pt] (.Tuple [a,b] k2 pt2) X.env = pure (some [x,y]))
  (hs:swapsWithSole [.Tuple [.Name x px,.Name y py] kt pt] (.Tuple [a,b] k2 pt2) pos.line X.env = pure false:=by rfl) :
  PS X (.Assign [.Tuple [.Name x px,.Name y py] kt pt] (.Tuple [a,b] k2 pt2) pos) (tPar i j ta):=by
 intro pins s σ H D I h
 rw [exec_Assign_arm]
 refine wpAny_bind (wpAny_standAt ?_)
 rw [hs]
 refine wpAny_bind (wpAny_pure ?_)
 rw [if_neg (by decide)]
 refine wpAny_bind (Tuple_ (thn (ha _ pins s σ H _ I h) fun us s1 ⟨vs,H1,I1,r1,q1⟩=>?_))
 obtain ⟨v,w,e1,q1⟩:=q1
 subst e1
 obtain ⟨u1,u2,rfl,rv,rw'⟩:∃ u1 u2,us = [u1,u2] ∧ RelV v u1 ∧ RelV w u2:=by
  cases r1 with
  | cons p q =>
   cases q with
   | cons p' q' =>
    cases q'
    exact ⟨_,_,rfl,p,p'⟩
 refine wpAny_newObj_type ?_ (by show 2 ≤ sizeLine; decide)
 have I2:Inv X pins σ H1 { s1 with heap:=s1.heap.push { cls:=.type "tuple",data:=.seq [u1,u2].toArray } }:=I1.kept (t':=s1.toks) fun b o e=>Heap.get?_push_of_some _ e
 rw [hw]
 refine wpAny_bind (wpAny_pure ?_)
 show wpAny (model X.prog X.w) X.A (do rule "assign.swapped-stores"; let items ← unpackItems (.ref s1.heap.objs.size) 2 none; assignInOrder [fun v=>bindName X.env y v,fun v=>bindName X.env x v] items.reverse; pure Flow.next) _ _ _
 refine wpAny_bind (wpAny_rule (wpAny_bind (unpackItems_tuple (items:=#[u1,u2]) (I.ok.hd hc) (IsTup.new s1.heap _) fun h' hx'=>?_)))
 have I3:=I2.kept (h':=h') (t':=s1.toks) fun b o e=>hx' b o (Nat.ne_of_lt (Heap.lt_size e)) e
 show wpAny _ _ (assignInOrder [fun v=>bindName X.env y v,fun v=>bindName X.env x v] [u2,u1] >>= fun _=>pure Flow.next) _ _ _
 refine wpAny_bind (assignInOrder_cons (wpAny_bindName (store_ok I3 hN hj (.inl hy) rw' (fun s2 I4=>?_) (.inr hy))))
 refine assignInOrder_cons (wpAny_bindName (store_ok I4 hN hi (.inl hx) rv (fun s3 I5=>assignInOrder_nil (wpAny_pure ?_)) (.inr hx)))
 rw [List.set_comm _ _ (Ne.symm hij)] at I5
 exact ⟨_,H1,I5,q1⟩
end
section
variable {X:Cx} {pos:Pos}
noncomputable def tWhile (c:TT) (tb:TS):TS:=fun D σ H=>∃ W:Nat → St → Hp → Prop,(∃ m,W m σ H) ∧ ∀ m σ H,W m σ H →
 c σ H fun b H1=>if b = true then ∃ N:St → Hp → Prop,(∀ σ' H',N σ' H' → ∃ m',m' < m ∧ W m' σ' H') ∧ tb { D with nx:=N,ct:=N,bk:=D.nx } σ H1 else D.nx σ H1
theorem ps_while {c:Expr} {body:List Stmt} {tc:TT} {tb:TS} (hp:PassesOwn (model X.prog X.w) X.A X.env X.xe) (hc:PT X c tc) (hb:PSs X body tb):PS X (.While c body [] pos) (tWhile tc tb):=by
 intro pins s σ H D I h
 obtain ⟨W,⟨m0,w0⟩,turn⟩:=h
 refine wpAny_While (codeAny_whileLoop (fun n s'=>∃ σ' H',Inv X pins σ' H' s' ∧ W n σ' H') ?_ m0 ⟨σ,H,I,w0⟩)
 rintro n s1 ⟨σ1,H1,I1,w1⟩
 refine wpAny_passesOwn hp (thn (hc pins s1 σ1 H1 _ I1 (turn n σ1 H1 w1)) fun b s2 ⟨H2,I2,q2⟩=>?_)
 cases b with
 | true =>
  obtain ⟨N,hN,q2⟩:=q2
  rw [if_pos rfl]
  refine wpAny_passesOwn hp (thn (hb pins s2 σ1 H2 _ I2 q2) fun f s3 q3=>?_)
  cases f with
  | next =>
   obtain ⟨σ3,H3,I3,n3⟩:=q3
   obtain ⟨m',hm,w3⟩:=hN σ3 H3 n3
   exact ⟨m',hm,σ3,H3,I3,w3⟩
  | cont =>
   obtain ⟨σ3,H3,I3,n3⟩:=q3
   obtain ⟨m',hm,w3⟩:=hN σ3 H3 n3
   exact ⟨m',hm,σ3,H3,I3,w3⟩
  | brk=>exact q3
  | ret v=>exact q3
 | false =>
  rw [if_neg Bool.false_ne_true]
  exact wpAny_execs_nil ⟨σ1,H2,I2,q2⟩
end
structure It where
 go:Nat → Hp → Prop
 yld:Nat → Hp → V → Hp → Prop
 stop:Nat → Hp → Prop
noncomputable def FpOk (X:Cx) (pins:List (Addr × Obj)) (H:Hp) (b:Addr):Prop :=
 H b = none ∧ b ≠ X.env.locals ∧ b ∉ X.fs ∧ (b ∈ X.ex ∨ X.s₀.heap.objs.size ≤ b) ∧ (∀ x c,X.env.cells.lookup x = some c → c ≠ b) ∧ ∀ p ∈ X.pn ++ pins,p.1 ≠ b
theorem Inv.fpOk {X:Cx} {pins:List (Addr × Obj)} {σ:St} {H H':Hp} {s:Shared} {b:Addr} (I:Inv X pins σ H s) (hb:s.heap.objs.size ≤ b) (hn:H' b = none):FpOk X pins H' b:=by
 refine ⟨hn,Nat.ne_of_gt (Nat.lt_of_lt_of_le I.lt hb),I.nofs hb,.inr (Nat.le_trans I.sz hb),fun x c e z=>?_,fun p hp z=>?_⟩
 ·obtain ⟨v,q⟩:=I.cell x c e
  exact absurd (Nat.lt_of_lt_of_le q.lt (by rw [z]; exact hb)) (Nat.lt_irrefl _)
 ·exact absurd (Nat.lt_of_lt_of_le (Heap.lt_size (I.pin p hp).1) (by rw [z]; exact hb)) (Nat.lt_irrefl _)
structure Turn (P:Program) (w:World) (K:PySem.W.Frag) (tg:Expr) (J:It) (fp:List Addr) (it:Addr) (tn:Nat → Heap → Prop):Prop where
 mem:it ∈ fp
 obj:∀ i h,tn i h → ∀ b ∈ fp,∃ o,h.get? b = some o ∧ ∀ v,o.data ≠ .cell v
 keep:∀ i h h',tn i h → (∀ b ∈ fp,∀ o,h.get? b = some o → h'.get? b = some o) → tn i h'
 item:∀ (X:Cx),X.prog = P → X.w = w → X.K = K → X.calm = true → ∀ (i:Nat) (pins:List (Addr × Obj)) (s:Shared) (σ:St) (H:Hp) (E:Value → Shared → Prop),Inv X pins σ H s → (∀ b ∈ fp,FpOk X pins H b) → tn i s.heap → J.go i H →
  wpAny (model P w) X.A (pyNext (.ref it)) (fun r s1=>∃ u,r = some u ∧
   wpAny (model P w) X.A (letOwnedTupleGo tg (.ref it) u) (fun _ s2=>∃ x H',Inv X pins σ H' s2 ∧ RelV x u ∧ J.yld i H x H' ∧ tn (i + 1) s2.heap ∧ ∀ b ∈ fp,H' b = none) E s1) E s
 done:∀ (X:Cx),X.prog = P → X.w = w → X.K = K → X.calm = true → ∀ (i:Nat) (pins:List (Addr × Obj)) (s:Shared) (σ:St) (H:Hp) (E:Value → Shared → Prop),Inv X pins σ H s → (∀ b ∈ fp,FpOk X pins H b) → tn i s.heap → J.stop i H →
  wpAny (model P w) X.A (pyNext (.ref it)) (fun r s1=>r = none ∧ Inv X pins σ H s1) E s
 self:∀ (A:Around) (i:Nat) (s:Shared) (Q:Value → Shared → Prop) (E:Value → Shared → Prop),tn i s.heap → Q (.ref it) s → wpAny (model P w) A (pyIter (.ref it)) Q E s
noncomputable abbrev TI:=St → Hp → (It → Hp → Prop) → Prop
noncomputable def PIE (X:Cx) (pins:List (Addr × Obj)) (σ:St) (tg:Expr) (R:It → Hp → Prop) (itv:Value) (s2:Shared):Prop :=
 ∃ (it:Addr) (fp:List Addr) (tn:Nat → Heap → Prop) (J:It) (H':Hp),itv = .ref it ∧ Inv X pins σ H' s2 ∧ Turn X.prog X.w X.K tg J fp it tn ∧ tn 0 s2.heap ∧ (∀ b ∈ fp,FpOk X pins H' b) ∧ R J H'
noncomputable def PI (X:Cx) (tg iter:Expr) (wi:TI):Prop :=
 ∀ (pins:List (Addr × Obj)) (s:Shared) (σ:St) (H:Hp) (R:It → Hp → Prop),Inv X pins σ H s → wi σ H R →
  wpAny (model X.prog X.w) X.A (eval iter X.env) (fun v s1=>wpAny (model X.prog X.w) X.A (pyIter v) (PIE X pins σ tg R) X.xe s1) X.xe s
theorem go_of {M:Model} {A:Around} {E:Value → Shared → Prop} {s:Shared} {tg:Expr} {it:Addr} {u:Value} {o:Obj} {n:String} {vs:Array Value} {Q:Unit → Shared → Prop} (ho:s.heap.get? it = some o) (hc:o.cls = .type n) (hd:o.data = .fields vs)
  (hn:["enumerate","zip","dict_itemiterator","dict_reverseitemiterator","odict_iterator","itertools.zip_longest","itertools.pairwise"].contains n = false) (hQ:Q () s):wpAny M A (letOwnedTupleGo tg (.ref it) u) Q E s:=by
 unfold letOwnedTupleGo
 cases tg <;> first
  | exact wpAny_pure hQ
  | (cases u <;> first
    | exact wpAny_pure hQ
    | (
      refine wpAny_bind (wpAny_load ho ?_)
      rw [hc,hd]
      show wpAny M A (if (["enumerate","zip","dict_itemiterator","dict_reverseitemiterator","odict_iterator","itertools.zip_longest","itertools.pairwise"].contains n && vs[0]? == some (rawInt _)) = true then _ else _) Q E s
      rw [if_neg (by intro h; rw [hn,Bool.false_and] at h; cases h)]
      exact wpAny_pure hQ))
noncomputable def Itl (K:PySem.W.Frag) (a:Addr):It :=
 ⟨fun i H=>∃ xs x,SqL K H a xs ∧ xs[i]? = some x,fun i H x H'=>H' = H ∧ ∀ xs,SqL K H a xs → xs[i]? = some x,fun i H=>∃ xs,SqL K H a xs ∧ xs.length ≤ i⟩
noncomputable def Itt (K:PySem.W.Frag) (a:Addr):It :=
 ⟨fun i H=>∃ xs x,SqT K H a xs ∧ xs[i]? = some x,fun i H x H'=>H' = H ∧ ∀ xs,SqT K H a xs → xs[i]? = some x,fun i H=>∃ xs,SqT K H a xs ∧ xs.length ≤ i⟩
noncomputable def Itr (lo:Int) (n:Nat):It:=⟨fun i _=>i < n,fun i H x H'=>H' = H ∧ x = .int (lo + i),fun i _=>n ≤ i⟩
theorem turn_list {P:Program} {w:World} {K:PySem.W.Frag} {tg:Expr} (a it:Addr):Turn P w K tg (Itl K a) [it] it (fun i h=>h.IsListIter it a i) where
 mem:=by simp
 obj:=fun i h st b hb=>by
  have e:b = it:=by simpa using hb
  subst e
  obtain ⟨o,e,c,d⟩:=st
  exact ⟨o,e,fun v z=>by rw [d] at z; cases z⟩
 keep:=fun i h h' st k=>st.at fun o e=>k it (by simp) o e
 item:=by
  intro X hP hw hK hc i pins s σ H E I hf st hg
  subst hP hw hK
  obtain ⟨xs,x,hq,hx⟩:=hg
  obtain ⟨its,rv,p,hz⟩:=I.list hq
  obtain ⟨u,hu,ru⟩:=rv.get hx
  obtain ⟨f0,f1,f2,f3,f4,f5⟩:=hf it (by simp)
  refine wpAny_pyNext_list_item st p.isList (x:=u) (by simpa using hu) fun h' st' sb=>?_
  have I1:Inv X pins σ H { s with heap:=h' }:=I.turned (t':=s.toks) (fun b o hb e=>(sb.2 b hb).trans e) f0 f1 f3 f4 f5
  obtain ⟨o,e,c,d⟩:=id st'
  exact ⟨u,rfl,go_of (s:={ s with heap:=h' }) e c d (by decide) ⟨x,H,I1,ru,⟨rfl,fun ys hy=>by rw [I.list_inj hy hq]; exact hx⟩,st',fun b hb=>(hf b hb).1⟩⟩
 done:=by
  intro X hP hw hK hc i pins s σ H E I hf st hg
  subst hP hw hK
  obtain ⟨xs,hq,hx⟩:=hg
  obtain ⟨its,rv,p,hz⟩:=I.list hq
  obtain ⟨f0,f1,f2,f3,f4,f5⟩:=hf it (by simp)
  have hl:=rv.length
  exact wpAny_pyNext_list_end (I.ok.hd hc) st p.isList (by simp; omega) fun h' eb=>⟨rfl,I.turned (t':=s.toks) (fun b o hb e=>eb b o hb e) f0 f1 f3 f4 f5⟩
 self:=fun _ _ _ _ _ st h=>wpAny_pyIter_listiter st h
theorem turn_tuple {P:Program} {w:World} {K:PySem.W.Frag} {tg:Expr} (a it:Addr):Turn P w K tg (Itt K a) [it] it (fun i h=>h.IsTupleIter it a i) where
 mem:=by simp
 obj:=fun i h st b hb=>by
  have e:b = it:=by simpa using hb
  subst e
  obtain ⟨o,e,c,d⟩:=st
  exact ⟨o,e,fun v z=>by rw [d] at z; cases z⟩
 keep:=fun i h h' st k=>st.at fun o e=>k it (by simp) o e
 item:=by
  intro X hP hw hK hc i pins s σ H E I hf st hg
  subst hP hw hK
  obtain ⟨xs,x,hq,hx⟩:=hg
  obtain ⟨its,rv,p,hz⟩:=I.tuple hq
  obtain ⟨u,hu,ru⟩:=rv.get hx
  obtain ⟨f0,f1,f2,f3,f4,f5⟩:=hf it (by simp)
  refine wpAny_pyNext_tuple_item st (show s.heap.IsTuple a its.toArray from p) (x:=u) (by simpa using hu) fun h' st' sb=>?_
  have I1:Inv X pins σ H { s with heap:=h' }:=I.turned (t':=s.toks) (fun b o hb e=>(sb.2 b hb).trans e) f0 f1 f3 f4 f5
  obtain ⟨o,e,c,d⟩:=id st'
  exact ⟨u,rfl,go_of (s:={ s with heap:=h' }) e c d (by decide) ⟨x,H,I1,ru,⟨rfl,fun ys hy=>by rw [I.tuple_inj hy hq]; exact hx⟩,st',fun b hb=>(hf b hb).1⟩⟩
 done:=by
  intro X hP hw hK hc i pins s σ H E I hf st hg
  subst hP hw hK
  obtain ⟨xs,hq,hx⟩:=hg
  obtain ⟨its,rv,p,hz⟩:=I.tuple hq
  obtain ⟨f0,f1,f2,f3,f4,f5⟩:=hf it (by simp)
  have hl:=rv.length
  exact wpAny_pyNext_tuple_end (I.ok.hd hc) st (show s.heap.IsTuple a its.toArray from p) (by simp; omega) fun h' eb=>⟨rfl,I.turned (t':=s.toks) (fun b o hb e=>eb b o hb e) f0 f1 f3 f4 f5⟩
 self:=fun _ _ _ _ _ st h=>wpAny_pyIter_tupleiter st h
theorem turn_range {P:Program} {w:World} {K:PySem.W.Frag} {tg:Expr} (it:Addr) (lo:Int) (n:Nat):Turn P w K tg (Itr lo n) [it] it (fun i h=>IsRangeIter h it (lo + (i:Nat) * 1) ((n:Int) - (i:Nat)) 1) where
 mem:=by simp
 obj:=fun i h st b hb=>by
  have e:b = it:=by simpa using hb
  subst e
  exact ⟨_,st,fun v z=>by
   have z':Data.fields _ = Data.cell v:=z
   cases z'⟩
 keep:=fun i h h' st k=>k it (by simp) _ st
 item:=by
  intro X hP hw hK hc i pins s σ H E I hf st hg
  subst hP hw hK
  obtain ⟨f0,f1,f2,f3,f4,f5⟩:=hf it (by simp)
  have W:=Walks.range (prog:=X.prog) (w:=X.w) (I.ok.hd hc) it lo 1 n
  refine W.item i s _ _ hg st fun v h' tk hv st' kk=>?_
  obtain ⟨t,rfl⟩:=hv
  have I1:Inv X pins σ H { s with heap:=h',toks:=tk }:=I.turned (fun b o hb e=>kk b o (by simpa using hb) e) f0 f1 f3 f4 f5
  refine ⟨_,rfl,go_of (s:={ s with heap:=h',toks:=tk }) (n:="range_iterator") st' rfl rfl (by decide) ⟨.int (lo + i),H,I1,⟨t,?_⟩,⟨rfl,rfl⟩,st',fun b hb=>(hf b hb).1⟩⟩
  rw [Int.mul_one]
 done:=by
  intro X hP hw hK hc i pins s σ H E I hf st hg
  subst hP hw hK
  obtain ⟨f0,f1,f2,f3,f4,f5⟩:=hf it (by simp)
  exact wpAny_pyNext_range_end (I.ok.hd hc) st (by have:n ≤ i:=hg; omega) fun h' eb=>⟨rfl,I.turned (t':=s.toks) (fun b o hb e=>eb b o hb e) f0 f1 f3 f4 f5⟩
 self:=fun _ _ _ _ _ st h=>wpAny_pyIter_rangeiter st h
end L2
namespace L2
open PySem PySem.Spec PyProof.Rows
section
variable {X:Cx} {tg:Expr}
theorem range_it {pins:List (Addr × Obj)} {σ:St} {H:Hp} {s:Shared} {R:It → Hp → Prop} {E:Value → Shared → Prop} {lo hi:Int} {t u v:Tok} {tk:Nat} (I:Inv X pins σ H s) (h1:-(2 ^ 62) ≤ lo) (h2:lo < 2 ^ 62) (h3:-(2 ^ 62) ≤ hi) (h4:hi < 2 ^ 62)
  (q:R (Itr lo (hi - lo).toNat) H):wpAny (model X.prog X.w) X.A (pyIter (.ref s.heap.objs.size)) (PIE X pins σ tg R) E { s with heap:=s.heap.push { cls:=.type "range",data:=.fields #[.int lo t,.int hi u,.int 1 v] },toks:=tk }:=by
 refine wpAny_pyIter_range (IsRange.new ..) (small_one h1 h2 h3 h4) ?_
 have I1:Inv X pins σ H { s with heap:=s.heap.push { cls:=.type "range",data:=.fields #[.int lo t,.int hi u,.int 1 v] },toks:=tk }:=I.kept fun b o e=>Heap.get?_push_of_some _ e
 refine ⟨(s.heap.push { cls:=.type "range",data:=.fields #[.int lo t,.int hi u,.int 1 v] }).objs.size,[(s.heap.push { cls:=.type "range",data:=.fields #[.int lo t,.int hi u,.int 1 v] }).objs.size],_,_,H,rfl,
  I1.kept (t':=tk) fun b o e=>Heap.get?_push_of_some _ e,turn_range _ lo (hi - lo).toNat,?_,fun b hb=>?_,q⟩
 ·have e1:lo + ((0:Nat):Int) * 1 = lo:=by simp
  have e2:(((hi - lo).toNat:Nat):Int) - ((0:Nat):Int) = Builtin.Range.rangeSize lo hi 1:=by rw [rangeSize_one]; split <;> omega
  show IsRangeIter _ _ (lo + ((0:Nat):Int) * 1) ((((hi - lo).toNat:Nat):Int) - ((0:Nat):Int)) 1
  rw [e1,e2]
  exact Heap.get?_push_size _ rfl
 ·have e:b = (s.heap.push { cls:=.type "range",data:=.fields #[.int lo t,.int hi u,.int 1 v] }).objs.size:=by simpa using hb
  subst e
  exact I1.fpOk (Nat.le_refl _) (I1.hok.fresh (Nat.le_refl _))
noncomputable def iRng1 (ta:TA):TI:=fun σ H R=>ta σ H fun vs H1=>∃ j:Int,vs = [.int j] ∧ -(2 ^ 62) ≤ j ∧ j < 2 ^ 62 ∧ R (Itr 0 j.toNat) H1
noncomputable def iRng2 (ta:TA):TI:=fun σ H R=>ta σ H fun vs H1=>∃ i j:Int,vs = [.int i,.int j] ∧ (-(2 ^ 62) ≤ i ∧ i < 2 ^ 62 ∧ -(2 ^ 62) ≤ j ∧ j < 2 ^ 62) ∧ R (Itr i (j - i).toNat) H1
theorem pi_range1 {a:Expr} {ta:TA} {p pos:Pos} (hg:Gl X "range") (hm:X.mg "range" = none) (ha:PA X [a] ta) (hs:starEach [a] X.env = [(false,eval a X.env)]:=by rfl):PI X tg (.Call (.Name "range" p) [a] [] pos) (iRng1 ta):=by
 intro pins s σ H R I h
 refine Call_ (ld_blt I hg hm boot_range (PyProof.Rows.callWith_type1 (thn (ha pos pins s σ H _ I h) fun us s1 ⟨vs,H1,I1,r1,q1⟩=>?_) hs rfl))
 obtain ⟨j,e,q1,q2,q⟩:=q1
 subst e
 cases r1 with
 | cons r rr =>
  cases rr
  obtain ⟨t,rfl⟩:=r
  exact call_range_1 (range_it I1 (by omega) (by omega) q1 q2 (by simpa using q))
theorem pi_range2 {a b:Expr} {ta:TA} {p pos:Pos} (hg:Gl X "range") (hm:X.mg "range" = none) (ha:PA X [a,b] ta) (hs:starEach [a,b] X.env = [(false,eval a X.env),(false,eval b X.env)]:=by rfl) (hs2:starEach [b] X.env = [(false,eval b X.env)]:=by rfl) :
  PI X tg (.Call (.Name "range" p) [a,b] [] pos) (iRng2 ta):=by
 intro pins s σ H R I h
 refine Call_ (ld_blt I hg hm boot_range (PyProof.Rows.callWith_type1 (thn (ha pos pins s σ H _ I h) fun us s1 ⟨vs,H1,I1,r1,q1⟩=>?_) (by rw [hs,hs2]) (by rw [hs2]; rfl)))
 obtain ⟨i,j,e,⟨q1,q2,q3,q4⟩,q⟩:=q1
 subst e
 cases r1 with
 | cons r rr =>
  cases rr with
  | cons r' rr =>
   cases rr
   obtain ⟨t,rfl⟩:=r
   obtain ⟨t',rfl⟩:=r'
   exact call_range_2 (range_it I1 q1 q2 q3 q4 q)
noncomputable def tFor (wi:TI) (g:TG) (tb:TS):TS:=fun D σ H=>wi σ H fun J H1=>∃ W:Nat → Nat → St → Hp → Prop,(∃ m,W 0 m σ H1) ∧ ∀ i m σ H,W i m σ H →
 (J.stop i H ∧ D.nx σ H) ∨ (J.go i H ∧ ∃ N:St → Hp → Prop,(∀ σ' H',N σ' H' → ∃ m',m' < m ∧ W (i + 1) m' σ' H') ∧ ∀ x H',J.yld i H x H' → g x σ H' fun σ2 H2=>tb { D with nx:=N,ct:=N,bk:=D.nx } σ2 H2)
noncomputable def pinsAt (fp:List Addr) (h:Heap):List (Addr × Obj):=fp.filterMap fun b=>(h.get? b).map fun o=>(b,o)
theorem mem_pinsAt {fp:List Addr} {h:Heap} {b:Addr} {o:Obj} (hb:b ∈ fp) (e:h.get? b = some o):(b,o) ∈ pinsAt fp h:=List.mem_filterMap.mpr ⟨b,hb,by rw [e]; rfl⟩
theorem of_pinsAt {fp:List Addr} {h:Heap} {p:Addr × Obj} (hp:p ∈ pinsAt fp h):p.1 ∈ fp ∧ h.get? p.1 = some p.2:=by
 obtain ⟨b,hb,e⟩:=List.mem_filterMap.mp hp
 cases q:h.get? b with
 | none=>rw [q] at e; cases e
 | some o =>
  rw [q] at e
  have e':(b,o) = p:=Option.some.inj e
  subst e'
  exact ⟨hb,q⟩
theorem Inv.pinned {pins:List (Addr × Obj)} {σ:St} {H:Hp} {s:Shared} {fp:List Addr} (I:Inv X pins σ H s) (hf:∀ b ∈ fp,FpOk X pins H b) (ho:∀ b ∈ fp,∃ o,s.heap.get? b = some o ∧ ∀ v,o.data ≠ .cell v):Inv X (pins ++ pinsAt fp s.heap) σ H s :=
 I.pins_of fun p hp=>(List.mem_append.mp hp).elim (fun z=>I.pin p (List.mem_append_right _ z)) fun z=>by
  obtain ⟨hb,e⟩:=of_pinsAt z
  obtain ⟨f0,f1,f2,_⟩:=hf p.1 hb
  obtain ⟨o,e',d⟩:=ho p.1 hb
  rw [e] at e'; cases e'
  exact ⟨e,f0,f1,f2,d⟩
theorem Inv.unpinned {pins pl:List (Addr × Obj)} {σ:St} {H:Hp} {s:Shared} (I:Inv X (pins ++ pl) σ H s):Inv X pins σ H s:=I.pins_of fun p hp=>I.pin p (List.mem_append_right _ (List.mem_append_left _ hp))
theorem ps_for {iter:Expr} {body:List Stmt} {wi:TI} {g:TG} {tb:TS} {pos:Pos} (hp:PassesOwn (model X.prog X.w) X.A X.env X.xe) (hc:X.calm = true) (hi:PI X tg iter wi) (hg:PG X tg g) (hb:PSs X body tb)
  (hs:∀ x,foldedSetIterable iter X.env x = pure x:=by intro _; rfl):PS X (.For tg iter body [] pos) (tFor wi g tb):=by
 intro pins s σ H D I h
 refine wpAny_For (thn (hi pins s σ H _ I h) fun v s1 h1=>thn h1 fun itv s2 h2=>?_) hs
 obtain ⟨it,fp,tn,J,H2,e,I2,T,st2,f2,W,⟨m0,w0⟩,turn⟩:=h2
 subst e
 have stat:∀ {H':Hp},(∀ b ∈ fp,H' b = none) → ∀ b ∈ fp,FpOk X pins H' b:=fun hn b hb=>⟨hn b hb,(f2 b hb).2⟩
 refine codeAny_forLoop_any (fun n s'=>∃ i σ' H',Inv X pins σ' H' s' ∧ tn i s'.heap ∧ (∀ b ∈ fp,H' b = none) ∧ W i n σ' H') ?_ m0 ⟨0,σ,H2,I2,st2,fun b hb=>(f2 b hb).1,w0⟩
 rintro n s3 ⟨i,σ3,H3,I3,st3,fr3,w3⟩
 rcases turn i n σ3 H3 w3 with ⟨stop,qn⟩ | ⟨go,N,hN,step⟩
 ·refine wpAny_passesOwn hp (thn (T.done X rfl rfl rfl hc i pins s3 σ3 H3 X.xe I3 (stat fr3) st3 stop) fun r s4 ⟨hr,I4⟩=>?_)
  subst hr
  exact wpAny_execs_nil ⟨σ3,H3,I4,qn⟩
 ·refine wpAny_passesOwn hp (thn (T.item X rfl rfl rfl hc i pins s3 σ3 H3 X.xe I3 (stat fr3) st3 go) fun r s4 ⟨u,hr,h4⟩=>?_)
  subst hr
  refine wpAny_passesOwn hp (thn h4 fun _ s5 ⟨x,H5,I5,r5,y5,st5,fr5⟩=>?_)
  have I5':=I5.pinned (stat fr5) (T.obj _ _ st5)
  refine wpAny_passesOwn hp (thn (hg _ s5 σ3 H5 x u _ I5' r5 (step x H5 y5)) fun _ s6 ⟨σ6,H6,I6,q6⟩=>?_)
  refine wpAny_passesOwn hp (thn (hb _ s6 σ6 H6 _ I6 q6) fun f s7 q7=>?_)
  have again:∀ {σ7:St} {H7:Hp},Inv X (pins ++ pinsAt fp s5.heap) σ7 H7 s7 → N σ7 H7 → ∃ m,m < n ∧ ∃ i σ' H',Inv X pins σ' H' s7 ∧ tn i s7.heap ∧ (∀ b ∈ fp,H' b = none) ∧ W i m σ' H':=fun {σ7 H7} I7 n7=>by
   obtain ⟨m',hm,w7⟩:=hN σ7 H7 n7
   refine ⟨m',hm,i + 1,σ7,H7,I7.unpinned,T.keep _ _ _ st5 fun b hb o e=>(I7.pin (b,o) (List.mem_append_right _ (List.mem_append_right _ (mem_pinsAt hb e)))).1,fun b hb=>?_,w7⟩
   obtain ⟨o,e,d⟩:=T.obj _ _ st5 b hb
   exact (I7.pin (b,o) (List.mem_append_right _ (List.mem_append_right _ (mem_pinsAt hb e)))).2.1
  cases f with
  | next=>obtain ⟨σ7,H7,I7,n7⟩:=q7; exact again I7 n7
  | cont=>obtain ⟨σ7,H7,I7,n7⟩:=q7; exact again I7 n7
  | brk=>obtain ⟨σ7,H7,I7,q7⟩:=q7; exact ⟨σ7,H7,I7.unpinned,q7⟩
  | ret v=>obtain ⟨x7,σ7,H7,I7,r7,q7⟩:=q7; exact ⟨x7,σ7,H7,I7.unpinned,r7,q7⟩
end
end L2
namespace L2
open PySem PySem.Spec PyProof.Rows
noncomputable abbrev R2:=V → V → Hp → VK → Prop
noncomputable def OpR (X:Cx) (f:Value → Value → Sem Value) (r:R2):Prop :=
 ∀ (pins:List (Addr × Obj)) (s:Shared) (σ:St) (H:Hp) (x y:V) (v u:Value) (Q:VK),Inv X pins σ H s → RelV x v → RelV y u → r x y H Q →
  wpAny (model X.prog X.w) X.A (f v u) (EP X pins σ Q) X.xe s
noncomputable def CallR (X:Cx) (f:Value) (r:List V → Hp → VK → Prop):Prop :=
 ∀ (pins:List (Addr × Obj)) (s:Shared) (σ:St) (H:Hp) (xs:List V) (us:List Value) (Q:VK),Inv X pins σ H s → Vals xs us → r xs H Q →
  wpAny (model X.prog X.w) X.A (call f us) (EP X pins σ Q) X.xe s
noncomputable def TruR (X:Cx) (r:V → Hp → (Bool → Hp → Prop) → Prop):Prop :=
 ∀ (pins:List (Addr × Obj)) (s:Shared) (σ:St) (H:Hp) (x:V) (v:Value) (Q:Bool → Hp → Prop),Inv X pins σ H s → RelV x v → r x H Q →
  wpAny (model X.prog X.w) X.A (truthy v) (TP X pins σ Q) X.xe s
noncomputable def tOp (r:R2) (ta tb:TE):TE:=fun σ H Q=>ta σ H fun x H1=>tb σ H1 fun y H2=>r x y H2 Q
noncomputable def rI (C:Int → Int → Prop) (g:Int → Int → V):R2:=fun x y H Q=>∃ i j,x = .int i ∧ y = .int j ∧ C i j ∧ Q (g i j) H
noncomputable def rI0 (g:Int → Int → V):R2:=fun x y H Q=>∃ i j,x = .int i ∧ y = .int j ∧ Q (g i j) H
section
variable {X:Cx} {a b c:Expr} {ta tb tc:TE} {pos:Pos}
theorem binT (ha:PE X a ta) (hb:PE X b tb) {pins:List (Addr × Obj)} {s:Shared} {σ:St} {H:Hp} {R:V → V → Hp → Prop} (I:Inv X pins σ H s)
  (h:ta σ H fun x H1=>tb σ H1 fun y H2=>R x y H2) {Q:Value → Shared → Prop} {f:Value → Value → Sem Value}
  (hf:∀ v u s2 x y H2,Inv X pins σ H2 s2 → RelV x v → RelV y u → R x y H2 → wpAny (model X.prog X.w) X.A (f v u) Q X.xe s2) :
  wpAny (model X.prog X.w) X.A (eval a X.env) (fun v s₁=>wpAny (model X.prog X.w) X.A (eval b X.env) (fun u s₂=>wpAny (model X.prog X.w) X.A (f v u) Q X.xe s₂) X.xe s₁) X.xe s:=by
 refine thn (ha pins s σ H _ I h) fun v s1 ⟨x,H1,I1,r1,q1⟩=>?_
 refine thn (hb pins s1 σ H1 _ I1 q1) fun u s2 ⟨y,H2,I2,r2,q2⟩=>?_
 exact hf v u s2 x y H2 I2 r1 r2 q2
theorem pe_op {op:Operator} {r:R2} (ho:OpR X (binaryOp op) r) (ha:PE X a ta) (hb:PE X b tb):PE X (.BinOp a op b pos) (tOp r ta tb):=by
 intro pins s σ H Q I h
 exact wpAny_BinOp (binT ha hb I h fun v u s2 x y H2 I2 rx ry q=>ho pins s2 σ H2 x y v u Q I2 rx ry q)
theorem opI {f:Value → Value → Sem Value} {C:Int → Int → Prop} {g:Int → Int → Int}
  (rule:∀ (i j:Int) (t u:Tok) (s:Shared) (Q:Value → Shared → Prop) (E:Value → Shared → Prop),C i j → Q (.int (g i j) s.toks) { s with toks:=s.toks + 1 } → wpAny (model X.prog X.w) X.A (f (.int i t) (.int j u)) Q E s) :
  OpR X f (rI C fun i j=>.int (g i j)):=by
 intro pins s σ H x y v u Q I rx ry h
 obtain ⟨i,j,rfl,rfl,hc,q⟩:=h
 obtain ⟨t,rfl⟩:=rx
 obtain ⟨t',rfl⟩:=ry
 exact rule i j t t' s _ _ hc ⟨.int (g i j),H,I.tok _,⟨_,rfl⟩,q⟩
theorem opI0 {f:Value → Value → Sem Value} {g:Int → Int → Int}
  (rule:∀ (i j:Int) (t u:Tok) (s:Shared) (Q:Value → Shared → Prop) (E:Value → Shared → Prop),Q (.int (g i j) s.toks) { s with toks:=s.toks + 1 } → wpAny (model X.prog X.w) X.A (f (.int i t) (.int j u)) Q E s) :
  OpR X f (rI0 fun i j=>.int (g i j)):=by
 intro pins s σ H x y v u Q I rx ry h
 obtain ⟨i,j,rfl,rfl,q⟩:=h
 obtain ⟨t,rfl⟩:=rx
 obtain ⟨t',rfl⟩:=ry
 exact rule i j t t' s _ _ ⟨.int (g i j),H,I.tok _,⟨_,rfl⟩,q⟩
theorem opB0 {f:Value → Value → Sem Value} {g:Int → Int → Bool}
  (rule:∀ (i j:Int) (t u:Tok) (s:Shared) (Q:Value → Shared → Prop) (E:Value → Shared → Prop),Q (.bool (g i j)) s → wpAny (model X.prog X.w) X.A (f (.int i t) (.int j u)) Q E s) :
  OpR X f (rI0 fun i j=>.bl (g i j)):=by
 intro pins s σ H x y v u Q I rx ry h
 obtain ⟨i,j,rfl,rfl,q⟩:=h
 obtain ⟨t,rfl⟩:=rx
 obtain ⟨t',rfl⟩:=ry
 exact rule i j t t' s _ _ ⟨.bl (g i j),H,I,rfl,q⟩
noncomputable def CDiv (i j:Int):Prop:=0 < j ∧ j < 1073741824
noncomputable def CPow (i j:Int):Prop:=0 ≤ j ∧ j ≤ 1000000 ∧ i.natAbs < 2 ^ 64
noncomputable def CMul (i j:Int):Prop:=(-(2 ^ 64) < i ∧ i < 2 ^ 64) ∨ (-(2 ^ 64) < j ∧ j < 2 ^ 64)
theorem CMul.ok {i j:Int} (h:CMul i j):IntMulOk i j:=by
 rcases h with ⟨h1,h2⟩ | ⟨h1,h2⟩
 ·exact .of_left (intBits_le_64 h1 h2)
 ·exact .of_right (intBits_le_64 h1 h2)
theorem op_add:OpR X (binaryOp .Add) (rI0 fun i j=>.int (i + j)):=opI0 fun _ _ _ _ _ _ _ q=>add_int q
theorem op_sub:OpR X (binaryOp .Sub) (rI0 fun i j=>.int (i - j)):=opI0 fun _ _ _ _ _ _ _ q=>sub_int q
theorem op_mul:OpR X (binaryOp .Mult) (rI CMul fun i j=>.int (i * j)):=opI fun _ _ _ _ _ _ _ hc q=>mul_int q hc.ok
theorem op_fdiv:OpR X (binaryOp .FloorDiv) (rI CDiv fun i j=>.int (i / j)):=opI fun i j _ _ _ _ _ hc q=>by
 have h1:(0:Int) < j:=hc.1
 have h2:j < 1073741824:=hc.2
 exact floordiv_int (by omega) (by rw [Int.fdiv_eq_ediv_of_nonneg i (by omega)]; exact q) (.inl (PyProof.noPylong_small (by omega)))
theorem op_mod:OpR X (binaryOp .Mod) (rI (fun _ j=>0 < j) fun i j=>.int (i % j)):=opI fun i j _ _ _ _ _ hc q=>by
 have h1:(0:Int) < j:=hc
 exact mod_int' (by omega) (by rw [Int.fmod_eq_emod_of_nonneg i (by omega)]; exact q)
theorem op_pow:OpR X (binaryOp .Pow) (rI CPow fun i j=>.int (i ^ j.toNat)):=opI fun _ _ _ _ _ _ _ hc q=>pow_int_small hc.1 hc.2.1 hc.2.2 q
theorem op_shl:OpR X (binaryOp .LShift) (rI CPow fun i j=>.int (i * 2 ^ j.toNat)):=opI fun _ _ _ _ _ _ _ hc q=>lshift_int_small hc.1 hc.2.1 hc.2.2 q
end
noncomputable def scal:V → V → Bool
 | .non,.non=>true | .non,.int _=>true | .int _,.non=>true | .non,.bl _=>true | .bl _,.non=>true | .non,.str _=>true | .str _,.non=>true
 | .int _,.int _=>true | .bl _,.bl _=>true | .str _,.str _=>true | .byt _,.byt _=>true
 | .int _,.str _=>true | .str _,.int _=>true | .bl _,.str _=>true | .str _,.bl _=>true
 | _,_=>false
noncomputable def rEq:R2:=fun x y H Q=>scal x y = true ∧ Q (.bl (decide (x = y))) H
noncomputable def rNe:R2:=fun x y H Q=>scal x y = true ∧ Q (.bl (!decide (x = y))) H
theorem dec_int {i j:Int}:decide (V.int i = V.int j) = (i == j):=by
 rw [Bool.eq_iff_iff]
 simp
theorem dec_bl {i j:Bool}:decide (V.bl i = V.bl j) = (i == j):=by
 rw [Bool.eq_iff_iff]
 simp
theorem dec_str {i j:Str}:decide (V.str i = V.str j) = (i == j):=by
 rw [Bool.eq_iff_iff]
 simp
theorem dec_byt {i j:Array UInt8}:decide (V.byt i = V.byt j) = (i.toList == j.toList):=by
 rw [Bool.eq_iff_iff]
 cases i
 cases j
 simp
section
variable {X:Cx} {a b c:Expr} {ta tb tc:TE} {pos:Pos}
theorem fin_bl {pins:List (Addr × Obj)} {σ:St} {H:Hp} {s:Shared} {Q:VK} {k k':Bool} (I:Inv X pins σ H s) (q:Q (.bl k) H) (e:k = k'):EP X pins σ Q (.bool k') s:=by
 subst e
 exact ⟨.bl k,H,I,rfl,q⟩
theorem op_eq:OpR X (compareOp .Eq) rEq:=by
 intro pins s σ H x y v u Q I rx ry h
 obtain ⟨hs,q⟩:=h
 cases x with
 | non =>
  cases rx
  cases y with
  | non=>cases ry; exact PySem.EqNone.eq_none_none (fin_bl I q (by simp))
  | bl j=>cases ry; exact PySem.EqNone.eq_none_bool (fin_bl I q (by simp))
  | int j=>obtain ⟨t',rfl⟩:=ry; exact PySem.EqNone.eq_none_int (fin_bl I q (by simp))
  | str j=>obtain ⟨t',rfl⟩:=ry; exact PySem.EqNone.eq_none_str (fin_bl I q (by simp))
  | _=>exact absurd (show false = true from hs) Bool.false_ne_true
 | bl i =>
  cases rx
  cases y with
  | non=>cases ry; exact PySem.EqNone.eq_bool_none (fin_bl I q (by simp))
  | bl j=>cases ry; exact eq_bool (fin_bl I q dec_bl)
  | str j=>obtain ⟨t',rfl⟩:=ry; exact PySem.EqMixed.eq_bool_str (fin_bl I q (by simp))
  | _=>exact absurd (show false = true from hs) Bool.false_ne_true
 | int i =>
  obtain ⟨t,rfl⟩:=rx
  cases y with
  | non=>cases ry; exact PySem.EqNone.eq_int_none (fin_bl I q (by simp))
  | int j=>obtain ⟨t',rfl⟩:=ry; exact eq_int (fin_bl I q dec_int)
  | str j=>obtain ⟨t',rfl⟩:=ry; exact PySem.EqMixed.eq_int_str (fin_bl I q (by simp))
  | _=>exact absurd (show false = true from hs) Bool.false_ne_true
 | str i =>
  obtain ⟨t,rfl⟩:=rx
  cases y with
  | non=>cases ry; exact PySem.EqNone.eq_str_none (fin_bl I q (by simp))
  | bl j=>cases ry; exact PySem.EqMixed.eq_str_bool (fin_bl I q (by simp))
  | int j=>obtain ⟨t',rfl⟩:=ry; exact PySem.EqMixed.eq_str_int (fin_bl I q (by simp))
  | str j=>obtain ⟨t',rfl⟩:=ry; exact eq_str (fin_bl I q dec_str)
  | _=>exact absurd (show false = true from hs) Bool.false_ne_true
 | byt i =>
  obtain ⟨t,rfl⟩:=rx
  cases y with
  | byt j=>obtain ⟨t',rfl⟩:=ry; exact PySem.W.eq_bytes (fin_bl I q dec_byt)
  | _=>exact absurd (show false = true from hs) Bool.false_ne_true
 | _=>cases y <;> exact absurd (show false = true from hs) Bool.false_ne_true
theorem op_ne:OpR X (compareOp .NotEq) rNe:=by
 intro pins s σ H x y v u Q I rx ry h
 obtain ⟨hs,q⟩:=h
 cases x with
 | non =>
  cases rx
  cases y with
  | non=>cases ry; exact PySem.EqNone.ne_none_none (fin_bl I q (by simp))
  | bl j=>cases ry; exact PySem.EqNone.ne_none_bool (fin_bl I q (by simp))
  | int j=>obtain ⟨t',rfl⟩:=ry; exact PySem.EqNone.ne_none_int (fin_bl I q (by simp))
  | str j=>obtain ⟨t',rfl⟩:=ry; exact PySem.EqNone.ne_none_str (fin_bl I q (by simp))
  | _=>exact absurd (show false = true from hs) Bool.false_ne_true
 | bl i =>
  cases rx
  cases y with
  | non=>cases ry; exact PySem.EqNone.ne_bool_none (fin_bl I q (by simp))
  | bl j=>cases ry; exact ne_bool (fin_bl I q (congrArg not dec_bl))
  | str j=>obtain ⟨t',rfl⟩:=ry; exact PySem.EqMixed.ne_bool_str (fin_bl I q (by simp))
  | _=>exact absurd (show false = true from hs) Bool.false_ne_true
 | int i =>
  obtain ⟨t,rfl⟩:=rx
  cases y with
  | non=>cases ry; exact PySem.EqNone.ne_int_none (fin_bl I q (by simp))
  | int j=>obtain ⟨t',rfl⟩:=ry; exact ne_int (fin_bl I q (congrArg not dec_int))
  | str j=>obtain ⟨t',rfl⟩:=ry; exact PySem.EqMixed.ne_int_str (fin_bl I q (by simp))
  | _=>exact absurd (show false = true from hs) Bool.false_ne_true
 | str i =>
  obtain ⟨t,rfl⟩:=rx
  cases y with
  | non=>cases ry; exact PySem.EqNone.ne_str_none (fin_bl I q (by simp))
  | bl j=>cases ry; exact PySem.EqMixed.ne_str_bool (fin_bl I q (by simp))
  | int j=>obtain ⟨t',rfl⟩:=ry; exact PySem.EqMixed.ne_str_int (fin_bl I q (by simp))
  | str j=>obtain ⟨t',rfl⟩:=ry; exact ne_str (fin_bl I q (congrArg not dec_str))
  | _=>exact absurd (show false = true from hs) Bool.false_ne_true
 | byt i =>
  obtain ⟨t,rfl⟩:=rx
  cases y with
  | byt j=>obtain ⟨t',rfl⟩:=ry; exact PySem.W.ne_bytes (fin_bl I q (congrArg not dec_byt))
  | _=>exact absurd (show false = true from hs) Bool.false_ne_true
 | _=>cases y <;> exact absurd (show false = true from hs) Bool.false_ne_true
theorem op_lt:OpR X (compareOp .Lt) (rI0 fun i j=>.bl (decide (i < j))):=opB0 fun _ _ _ _ _ _ _ q=>lt_int q
theorem op_gt:OpR X (compareOp .Gt) (rI0 fun i j=>.bl (decide (j < i))):=opB0 fun _ _ _ _ _ _ _ q=>gt_int q
theorem op_ge:OpR X (compareOp .GtE) (rI0 fun i j=>.bl (decide (j ≤ i))):=opB0 fun _ _ _ _ _ _ _ q=>ge_int q
theorem OpR.or {f:Value → Value → Sem Value} {r r':R2} (h:OpR X f r) (h':OpR X f r'):OpR X f (fun x y H Q=>r x y H Q ∨ r' x y H Q):=by
 intro pins s σ H x y v u Q I rx ry q
 rcases q with q | q
 ·exact h pins s σ H x y v u Q I rx ry q
 ·exact h' pins s σ H x y v u Q I rx ry q
theorem nomark (b:Expr) {op:CmpOp} (h:op ≠ .In:=by decide) (h2:op ≠ .NotIn:=by decide):behindInMarks op b = false:=by
 have e1:(op == CmpOp.In) = false:=by cases op <;> first | rfl | exact absurd rfl h
 have e2:(op == CmpOp.NotIn) = false:=by cases op <;> first | rfl | exact absurd rfl h2
 cases b <;> simp [behindInMarks,e1,e2]
theorem pe_cmpR {op:CmpOp} {r:R2} (ho:OpR X (compareOp op) r) (ha:PE X a ta) (hb:PE X b tb) (hm:behindInMarks op b = false):PE X (.Compare a [op] [b] pos) (tOp r ta tb):=by
 intro pins s σ H Q I h
 exact wpAny_Compare1 (binT ha hb I h fun v u s2 x y H2 I2 rx ry q=>ho pins s2 σ H2 x y v u Q I2 rx ry q) hm
noncomputable def tTest (t:TE):TT:=fun σ H Q=>t σ H fun x H'=>∃ k,x = .bl k ∧ Q k H'
theorem pt_cmpR {op:CmpOp} {r:R2} (ho:OpR X (compareOp op) r) (ha:PE X a ta) (hb:PE X b tb) (hm:behindInMarks op b = false):PT X (.Compare a [op] [b] pos) (tTest (tOp r ta tb)):=by
 intro pins s σ H Q I h
 refine wpAny_isTrue_Compare1 (thn (ha pins s σ H _ I h) fun v s1 ⟨x,H1,I1,r1,q1⟩=>thn (hb pins s1 σ H1 _ I1 q1) fun u s2 ⟨y,H2,I2,r2,q2⟩ =>
  thn (ho pins s2 σ H2 x y v u _ I2 r1 r2 q2) fun c s3 ⟨z,H3,I3,r3,k,e,q3⟩=>?_) hm
 subst e
 cases r3
 exact wpAny_truthy_bool ⟨H3,I3,q3⟩
noncomputable def TruV (K:PySem.W.Frag) (x:V) (H:Hp) (k:Bool):Prop :=
 match x with
 | .non=>k = false
 | .bl b=>k = b
 | .int i=>k = (i != 0)
 | .str y=>y.length ≤ sizeLine ∧ k = ((y.length:Int) != 0)
 | .byt y=>y.size ≤ sizeLine ∧ k = ((y.size:Int) != 0)
 | .ref p=>(∃ xs,SqL K H p xs ∧ k = !xs.isEmpty) ∨ (∃ xs,SqT K H p xs ∧ k = !xs.isEmpty) ∨ ∃ kvs,H p = some (.dK kvs) ∧ k = !kvs.isEmpty
 | _=>False
theorem isEmpty_kv {κ:Type} {kvs:List (κ × V)} {vs:List (κ × Value)} (r:KV kvs vs):(!vs.isEmpty) = !kvs.isEmpty:=by
 cases r <;> rfl
theorem isEmpty_of {xs:List V} {its:List Value} (r:Vals xs its):(!its.toArray.isEmpty) = !xs.isEmpty:=by
 cases r <;> simp
theorem line63:(sizeLine:Nat) < 2 ^ 63:=by rw [sizeLine_eq]; decide
theorem tru_ok:TruR X (fun x H Q=>∃ k,TruV X.K x H k ∧ Q k H):=by
 intro pins s σ H x v Q I rx h
 obtain ⟨k,e,q⟩:=h
 have hl:=line63
 have hs:sizeLine = 16777216:=sizeLine_eq
 cases x with
 | non =>
  cases rx
  have e':k = false:=e
  subst e'
  exact truthy_none ⟨H,I,q⟩
 | bl b =>
  cases rx
  have e':k = b:=e
  subst e'
  exact wpAny_truthy_bool ⟨H,I,q⟩
 | int i =>
  obtain ⟨t,rfl⟩:=rx
  have e':k = (i != 0):=e
  subst e'
  exact PySem.P.truthy_int ⟨H,I,q⟩
 | str y =>
  obtain ⟨t,rfl⟩:=rx
  obtain ⟨hy,e'⟩:y.length ≤ sizeLine ∧ k = ((y.length:Int) != 0):=e
  subst e'
  exact PySem.P.truthy_str (by omega) ⟨H,I.tok _,q⟩
 | byt y =>
  obtain ⟨t,rfl⟩:=rx
  obtain ⟨hy,e'⟩:y.size ≤ sizeLine ∧ k = ((y.size:Int) != 0):=e
  subst e'
  exact PySem.W.truthy_bytes (by omega) ⟨H,I.tok _,q⟩
 | ref p =>
  cases rx
  have e':(∃ xs,SqL X.K H p xs ∧ k = !xs.isEmpty) ∨ (∃ xs,SqT X.K H p xs ∧ k = !xs.isEmpty) ∨ ∃ kvs,H p = some (.dK kvs) ∧ k = !kvs.isEmpty:=e
  rcases e' with ⟨xs,hx,e'⟩ | ⟨xs,hx,e'⟩ | ⟨kvs,hx,e'⟩
  ·subst e'
   obtain ⟨its,r,pl,hz⟩:=I.list hx
   have hlen:=r.length
   exact wpAny_truthy_list pl.isList (by simp only [List.size_toArray]; omega) ⟨H,I.tok _,by rw [isEmpty_of r]; exact q⟩
  ·subst e'
   obtain ⟨its,r,pl,hz⟩:=I.tuple hx
   have hlen:=r.length
   exact truthy_tuple pl (by simp only [List.size_toArray]; omega) ⟨H,I.tok _,by rw [isEmpty_of r]; exact q⟩
  ·subst e'
   obtain ⟨hz,hS,vs,r,m⟩:kvs.length ≤ sizeLine ∧ (p == sysModules) = false ∧ ∃ vs,KV kvs vs ∧ s.heap.DictOf (mixKind X.prog X.w) p vs:=I.hok p _ hx
   have hlen:kvs.length = vs.length:=Paired.length r
   exact wpAny_truthy_dict hS m (by omega) ⟨H,I.tok _,by rw [isEmpty_kv r]; exact q⟩
 | _=>exact (show False from e).elim
theorem pt_truth (ha:PE X a ta) (he:∀ whole,isTrue a X.env whole = (do let v ← whole; standAt a.pos; holding [v] (truthy v))) :
  PT X a (fun σ H Q=>ta σ H fun x H'=>∃ k,TruV X.K x H' k ∧ Q k H'):=by
 intro pins s σ H Q I h
 exact isTrue_plain (thn (ha pins s σ H _ I h) fun v s1 ⟨x,H1,I1,r1,q1⟩=>tru_ok pins s1 σ H1 x v Q I1 r1 q1) (he _)
theorem op_add_str:OpR X (binaryOp .Add) (fun x y H Q=>∃ i j,x = .str i ∧ y = .str j ∧ i.length + j.length ≤ sizeLine ∧ Q (.str (i ++ j)) H):=by
 intro pins s σ H x y v u Q I rx ry h
 obtain ⟨i,j,rfl,rfl,hz,q⟩:=h
 obtain ⟨t,rfl⟩:=rx
 obtain ⟨t',rfl⟩:=ry
 exact add_str (fun t' tk=>⟨.str (i ++ j),H,I.tok _,⟨_,rfl⟩,q⟩) hz
theorem vals1 {x:V} {us:List Value} (r:Vals [x] us):∃ u,us = [u] ∧ RelV x u:=by
 cases r with
 | cons r1 r2=>cases r2; exact ⟨_,rfl,r1⟩
theorem vals2 {x y:V} {us:List Value} (r:Vals [x,y] us):∃ u w',us = [u,w'] ∧ RelV x u ∧ RelV y w':=by
 cases r with
 | cons r1 r2 =>
  cases r2 with
  | cons r3 r4=>cases r4; exact ⟨_,_,rfl,r1,r3⟩
theorem call_max2 (hc:X.calm = true):CallR X (.builtin "max") (fun xs H Q=>∃ i j,xs = [.int i,.int j] ∧ Q (.int (if j > i then j else i)) H):=by
 intro pins s σ H xs us Q I r h
 obtain ⟨i,j,rfl,q⟩:=h
 obtain ⟨u,w',rfl,⟨t,rfl⟩,⟨t',rfl⟩⟩:=vals2 r
 refine max_two_ints (I.ok.hd hc) fun h' tk k=>⟨_,H,I.kept k,?_,q⟩
 by_cases hj:j > i
 ·rw [if_pos hj,if_pos hj]; exact ⟨_,rfl⟩
 ·rw [if_neg hj,if_neg hj]; exact ⟨_,rfl⟩
theorem call_int1:CallR X (.type "int") (fun xs H Q=>(∃ i,xs = [.int i] ∧ Q (.int i) H) ∨ ∃ k,xs = [.bl k] ∧ Q (.int (if k then 1 else 0)) H):=by
 intro pins s σ H xs us Q I r h
 rcases h with ⟨i,rfl,q⟩ | ⟨k,rfl,q⟩
 ·obtain ⟨u,rfl,t,rfl⟩:=vals1 r
  exact call_int_int ⟨.int i,H,I,⟨_,rfl⟩,q⟩
 ·obtain ⟨u,rfl,r1⟩:=vals1 r
  cases r1
  exact call_int_bool ⟨.int (if k then 1 else 0),H,I.tok _,⟨_,rfl⟩,q⟩
end
end L2
namespace L2
open PySem PySem.Spec PyProof.Rows
structure Room (k:Nat) (A:Around):Prop where
 hd:A.handled = none
 dp:A.depth + 3 * k + 5 < recursionLimit
 un:A.units + 16 * k + 200 < cLine
 gd:A.guards = some []
theorem Room.mono {j k:Nat} {A:Around} (r:Room k A) (h:j ≤ k):Room j A:=⟨r.hd,by have:=r.dp; omega,by have:=r.un; omega,r.gd⟩
theorem Room.deeper {k:Nat} {A:Around} (r:Room (k + 1) A) (env:Env):Room k (A.deeper env) :=
 ⟨r.hd,by have:=r.dp; show A.depth + 1 + 3 * k + 5 < _; omega,by have:=r.un; show A.units + 3 + 16 * k + 200 < _; omega,r.gd⟩
theorem Room.depth {k:Nat} {A:Around} (r:Room k A):A.depth < recursionLimit:=by have:=r.dp; omega
noncomputable def tNil:TA:=fun _ H Q=>Q [] H
noncomputable def tCons (ta:TE) (tr:TA):TA:=fun σ H Q=>ta σ H fun x H1=>tr σ H1 fun xs H2=>Q (x :: xs) H2
section
variable {X:Cx} {e:Expr} {es:List Expr} {te:TE} {t:TA} {pos:Pos}
theorem pa_nil:PA X [] tNil:=fun _ _ _ _ H Q I h=>Calls.spliced_nil ⟨[],H,I,.nil,h⟩
theorem pa_cons (ha:PE X e te) (hr:PA X es t) (hs:starEach (e :: es) X.env = (false,eval e X.env) :: starEach es X.env:=by rfl):PA X (e :: es) (tCons te t):=by
 intro pos pins s σ H Q I h
 rw [hs]
 show wpAny _ _ (spliced ((false,eval e X.env) :: backTo pos (starEach es X.env))) _ _ s
 refine Calls.spliced_cons (thn (ha pins s σ H _ I h) fun u s1 ⟨x,H1,I1,r1,q1⟩=>?_)
 exact thn (hr pos pins s1 σ H1 _ I1 q1) fun us s2 ⟨xs,H2,I2,r2,q2⟩=>⟨x :: xs,H2,I2,.cons r1 r2,q2⟩
noncomputable def tTup (t:TA):TE:=fun σ H Q=>t σ H fun xs H1=>xs.length ≤ sizeLine ∧ ∀ p,H1 p = none → Q (.ref p) (upd H1 p (.tup xs))
noncomputable def tLst (t:TA):TE:=fun σ H Q=>t σ H fun xs H1=>xs.length ≤ sizeLine ∧ ∀ p,H1 p = none → Q (.ref p) (upd H1 p (.lst xs))
theorem pe_tup {x1} (h:PA X es t):PE X (.Tuple es x1 pos) (tTup t):=by
 intro pins s σ H Q I hq
 refine wpAny_Tuple_spliced (thn (h pos pins s σ H _ I hq) fun us s1 ⟨xs,H1,I1,r,z,q⟩=>⟨by rw [← r.length]; exact z,?_⟩)
 have hf:H1 s1.heap.objs.size = none:=I1.hok.fresh (Nat.le_refl _)
 refine ⟨.ref s1.heap.objs.size,upd H1 s1.heap.objs.size (.tup xs),I1.laid (t':=s1.toks) (fun b u e=>Heap.get?_push_of_some _ e) (Nat.le_refl _) ?_,rfl,q _ hf⟩
 exact ⟨z,us,r,⟨_,Heap.get?_push_size _ rfl,rfl,⟨_,rfl⟩,rfl⟩⟩
theorem pe_lst (h:PA X es t):PE X (.List es pos) (tLst t):=by
 intro pins s σ H Q I hq
 refine wpAny_List_spliced (thn (h pos pins s σ H _ I hq) fun us s1 ⟨xs,H1,I1,r,z,q⟩=>⟨by rw [← r.length]; exact z,?_⟩)
 have hf:H1 s1.heap.objs.size = none:=I1.hok.fresh (Nat.le_refl _)
 refine ⟨.ref s1.heap.objs.size,upd H1 s1.heap.objs.size (.lst xs),I1.laid (t':=s1.toks) (fun b u e=>Heap.get?_push_of_some _ e) (Nat.le_refl _) ?_,rfl,q _ hf⟩
 exact ⟨z,us,0,r,Heap.get?_push_size _ rfl⟩
end
noncomputable abbrev Sp:=List V → Hp → VK → XK → Prop
noncomputable abbrev CXT:=List Env → Hp → Shared → XK → Value → Shared → Prop
structure Env0 (P:Program) (w:World) (K:PySem.W.Frag) (mg:Str → Option Value) (base:Heap) (A:Around) (outer:List Env) (s:Shared) (H:Hp):Prop where
 frames:A.frames = some outer
 mod:Mod K mg base
 bs:∀ b o,base.get? b = some o → s.heap.get? b = some o ∧ H b = none
 bsz:base.objs.size ≤ s.heap.objs.size
 funs:s.heap.FunFrames base outer
 frf:∀ b ∈ frs outer,H b = none
 hok:HOk P w H s.heap
 bare:AllBare s.gens
noncomputable def CE (outer:List Env) (P:Program) (w:World) (H:Hp) (s:Shared) (Q:VK) (u:Value) (s':Shared):Prop :=
 ∃ v H',s'.os = s.os ∧ AllBare s'.gens ∧ Un (frs outer) [] H H' s.heap s'.heap ∧ HOk P w H' s'.heap ∧ RelV v u ∧ Q v H'
noncomputable def CR (CX:CXT) (outer:List Env) (P:Program) (w:World) (H:Hp) (s:Shared) (Q:VK) (E:XK) (r:Result) (s':Shared):Prop :=
 match r with
 | .ok (.ret u)=>CE outer P w H s Q u s'
 | .ok _=>False
 | .error e=>CX outer H s E e s'
structure FnOk (P:Program) (w:World) (K:PySem.W.Frag) (mg:Str → Option Value) (base:Heap) (CX:CXT) (k:Nat) (f:Addr) (fd:FuncData) (ps:List Str) (sp:Sp):Prop where
 len:∀ vs H Q E,sp vs H Q E → vs.length = ps.length
 run:∀ (A:Around) (outer:List Env) (s:Shared) (H:Hp) (args:Args) (us:List Value) (vs:List V) (Q:VK) (E:XK),Room k A → Env0 P w K mg base A outer s H → BindsTo s fd args (ps.zip us) → Vals vs us → sp vs H Q E →
  codeAny (model P w) A (.call (.ref f) args) (CR CX outer P w H s Q E) s
theorem FnOk.mono {P:Program} {w:World} {K:PySem.W.Frag} {mg:Str → Option Value} {base:Heap} {CX:CXT} {j k:Nat} {f:Addr} {fd:FuncData} {ps:List Str} {sp:Sp} (F:FnOk P w K mg base CX j f fd ps sp) (h:j ≤ k) :
  FnOk P w K mg base CX k f fd ps sp:=⟨F.len,fun A outer s H args us vs Q E hr=>F.run A outer s H args us vs Q E (hr.mono h)⟩
section
variable {X:Cx} {pins:List (Addr × Obj)} {σ:St} {H:Hp} {s s':Shared}
theorem Inv.env0 (I:Inv X pins σ H s):Env0 X.prog X.w X.K X.mg X.base X.A X.stack s H :=
 ⟨I.ok.frames,I.ok.mod,I.bs,Nat.le_trans I.ok.bsz I.sz,I.stack,I.stkFree,I.hok,I.bare⟩
theorem Inv.after {Q:VK} {u:Value} (I:Inv X pins σ H s) (h:CE X.stack X.prog X.w H s Q u s'):EP X pins σ Q u s':=by
 obtain ⟨v,H',os,bare,un,hok,r,q⟩:=h
 obtain ⟨hh,g,d,t,os'⟩:=s'
 obtain rfl:os' = s.os:=os
 exact ⟨v,H',I.call (h':=hh) (g':=g) (d':=d) (t':=t) (ch:=[]) un hok bare (fun b z=>absurd z (by simp)),r,q⟩
end
noncomputable def tCall (sp:Sp) (dvs:List V) (E:XK) (t:TA):TE:=fun σ H Q=>t σ H fun vs H1=>sp (vs ++ dvs) H1 Q E
noncomputable def Binds (K:PySem.W.Frag) (fd:FuncData) (ps:List Str) (ds:List Value):Prop :=
 ∀ (s:Shared) (us:List Value),K.In s.heap → (us ++ ds).length = ps.length → BindsTo s fd ⟨us,[]⟩ (ps.zip (us ++ ds))
theorem Binds.all {K:PySem.W.Frag} {fd:FuncData} {ps:List Str} (h:∀ us:List Value,us.length = ps.length → bindArgs fd ⟨us,[]⟩ = pure (ps.zip us)):Binds K fd ps []:=fun s us _ hl=>by
 rw [List.append_nil] at hl ⊢
 exact .of_eq (h us hl)
noncomputable def Passes (CX:CXT) (X:Cx) (E:XK):Prop:=∀ (pins:List (Addr × Obj)) (σ:St) (H:Hp) (s:Shared) (e:Value) (s':Shared),Inv X pins σ H s → CX X.stack H s E e s' → X.xe e s'
section
variable {X:Cx} {CX:CXT} {k:Nat} {f C:Addr} {fd:FuncData} {ps:List Str} {sp:Sp} {dvs:List V} {ds:List Value} {E:XK} {x m:Str} {p pos apos:Pos} {e o:Expr} {es:List Expr} {ta:TE} {t:TA}
theorem run_fn {pins:List (Addr × Obj)} {σ:St} {H:Hp} {s:Shared} {Q:VK} {us:List Value} {vs:List V} (F:FnOk X.prog X.w X.K X.mg X.base CX k f fd ps sp) (hr:Room k X.A) (hb:Binds X.K fd ps ds) (hd:Vals dvs ds) (hx:Passes CX X E)
  (I:Inv X pins σ H s) (r:Vals vs us) (h:sp (vs ++ dvs) H Q E):wpAny (model X.prog X.w) X.A (call (.ref f) us) (EP X pins σ Q) X.xe s:=by
 have r2:Vals (vs ++ dvs) (us ++ ds):=r.append hd
 have hl:(us ++ ds).length = ps.length:=by rw [← r2.length]; exact F.len _ _ _ _ h
 refine wpAny_call (codeAny_mono (F.run X.A X.stack s H ⟨us,[]⟩ (us ++ ds) (vs ++ dvs) Q E hr I.env0 (hb s us I.kIn hl) r2 h) fun r s' hq=>?_)
 cases r with
 | error e=>exact hx pins σ H s e s' I hq
 | ok fl =>
  cases fl with
  | ret u=>exact I.after hq
  | next=>exact False.elim hq
  | brk=>exact False.elim hq
  | cont=>exact False.elim hq
theorem pe_call (F:FnOk X.prog X.w X.K X.mg X.base CX k f fd ps sp) (hr:Room k X.A) (hg:Gl X x) (hm:X.mg x = some (.ref f)) (hk:PySem.W.keepIn X.K (.ref f) = true) (hb:Binds X.K fd ps ds) (hd:Vals dvs ds) (hx:Passes CX X E)
  (ha:PA X (e :: es) t) (hdb:(x == ("__debug__":Str)) = false:=by decide) (he:starEach (e :: es) X.env = (false,eval e X.env) :: starEach es X.env:=by rfl) (hpl:(backTo pos (starEach es X.env)).any (·.1) = false:=by rfl) :
  PE X (.Call (.Name x p) (e :: es) [] pos) (tCall sp dvs E t):=by
 intro pins s σ H Q I h
 refine wpAny_Call_Name_kw (ld_glob I hg hm ?_ hdb)
 refine PySem.W.callWith_K (h₀:=X.base) I.ok.mod.kin hk (thn (ha pos pins s σ H _ I h) fun us s1 ⟨vs,H1,I1,r,q⟩=>⟨I1.kIn,?_⟩) he hpl
 exact run_fn F hr hb hd hx I1 r q
end
noncomputable def PK (X:Cx) (kws:List Keyword) (t:TA):Prop :=
 ∀ (pos:Pos) (pins:List (Addr × Obj)) (s:Shared) (σ:St) (H:Hp) (Q:List V → Hp → Prop),Inv X pins σ H s → t σ H Q → wpAny (model X.prog X.w) X.A (evalAll ((backToKw pos (keywordEach kws X.env)).map (·.2))) (AP X pins σ Q) X.xe s
section
variable {X:Cx} {CX:CXT} {k:Nat} {f C:Addr} {fd:FuncData} {ps ks:List Str} {sp:Sp} {E:XK} {x m:Str} {p pos apos kpos:Pos} {e o:Expr} {es:List Expr} {kws:List Keyword} {te ta:TE} {t tk:TA} {nm:Option Str}
theorem pk_nil:PK X [] tNil:=fun _ _ _ _ H Q I h=>wpAny_evalAll_nil ⟨[],H,I,.nil,h⟩
theorem pk_cons (ha:PE X e te) (hr:PK X kws t):PK X (⟨nm,e,kpos⟩ :: kws) (tCons te t):=by
 intro pos pins s σ H Q I h
 show wpAny _ _ (evalAll ((do let v ← eval e X.env; standAt pos; pure v) :: (backToKw pos (keywordEach kws X.env)).map (·.2))) _ _ s
 refine wpAny_evalAll_cons (wpAny_bind (thn (ha pins s σ H _ I h) fun u s1 ⟨x,H1,I1,r1,q1⟩=>wpAny_bind (wpAny_standAt (wpAny_pure ?_))))
 exact thn (hr pos pins s1 σ H1 _ I1 q1) fun us s2 ⟨xs,H2,I2,r2,q2⟩=>⟨x :: xs,H2,I2,.cons r1 r2,q2⟩
variable {g:List Value → List Value → List Value} {gV:List V → List V → List V}
end
structure FnScope (N P:List Str) (sc:Scope):Prop where
 kind:sc.kind = .function
 co:sc.isCoroutine = false
 gen:sc.isGenerator = false
 nd:N.Nodup
 pre:N.take P.length = P
 par:∀ x ∈ P,sc.names.lookup x = some .local ∨ sc.names.lookup x = some .cell
 nofree:∀ y ∈ sc.names,y.2 ≠ .free
theorem bindL_out {kindOf:Str → Option NameKind} {x:Str}:∀ {binds:List (Str × Value)} {m:Str → Option Value},(∀ v,(x,v) ∉ binds) → bindL kindOf binds m x = m x
 | [],_,_=>rfl
 | (n,v) :: r,m,h=>by
  unfold bindL
  rw [bindL_out fun w hw=>h w (List.mem_cons_of_mem _ hw)]
  split
  ·have:x ≠ n:=by rintro rfl; exact h v List.mem_cons_self
   simp [this]
  ·rfl
theorem bindC_out {kindOf:Str → Option NameKind} {x:Str}:∀ {binds:List (Str × Value)} {m:Str → Option Value},(∀ v,(x,v) ∉ binds) → bindC kindOf binds m x = m x
 | [],_,_=>rfl
 | (n,v) :: r,m,h=>by
  unfold bindC
  rw [bindC_out fun w hw=>h w (List.mem_cons_of_mem _ hw)]
  split
  ·rfl
  ·have:x ≠ n:=by rintro rfl; exact h v List.mem_cons_self
   simp [this]
theorem bindL_get {kindOf:Str → Option NameKind} {x:Str} {v:Value}:∀ {P:List Str} {vs:List Value} {i:Nat} {m:Str → Option Value},P.Nodup → P[i]? = some x → vs[i]? = some v → kindOf x = some .local →
  bindL kindOf (P.zip vs) m x = some v
 | [],_,_,_,_,h,_,_=>by simp at h
 | _ :: _,[],_,_,_,_,h,_=>by simp at h
 | p :: P,w :: vs,0,m,nd,h1,h2,hk=>by
  simp at h1 h2; subst h1; subst h2
  show bindL kindOf ((p,w) :: P.zip vs) m p = _
  unfold bindL
  rw [bindL_out fun v hv=>(List.nodup_cons.mp nd).1 (List.of_mem_zip hv).1,if_pos hk]
  simp
 | p :: P,w :: vs,i + 1,m,nd,h1,h2,hk=>by
  show bindL kindOf ((p,w) :: P.zip vs) m x = _
  unfold bindL
  exact bindL_get (i:=i) (List.nodup_cons.mp nd).2 (by simpa using h1) (by simpa using h2) hk
theorem bindC_get {kindOf:Str → Option NameKind} {x:Str} {v:Value}:∀ {P:List Str} {vs:List Value} {i:Nat} {m:Str → Option Value},P.Nodup → P[i]? = some x → vs[i]? = some v → kindOf x ≠ some .local →
  bindC kindOf (P.zip vs) m x = some v
 | [],_,_,_,_,h,_,_=>by simp at h
 | _ :: _,[],_,_,_,_,h,_=>by simp at h
 | p :: P,w :: vs,0,m,nd,h1,h2,hk=>by
  simp at h1 h2; subst h1; subst h2
  show bindC kindOf ((p,w) :: P.zip vs) m p = _
  unfold bindC
  rw [bindC_out fun v hv=>(List.nodup_cons.mp nd).1 (List.of_mem_zip hv).1,if_neg hk]
  simp
 | p :: P,w :: vs,i + 1,m,nd,h1,h2,hk=>by
  show bindC kindOf ((p,w) :: P.zip vs) m x = _
  unfold bindC
  exact bindC_get (i:=i) (List.nodup_cons.mp nd).2 (by simpa using h1) (by simpa using h2) hk
noncomputable def start (N:List Str) (vs:List V):St:=vs.map some ++ List.replicate (N.length - vs.length) none
noncomputable def cxOf (CX:CXT) (P:Program) (w:World) (K:PySem.W.Frag) (mg:Str → Option Value) (base:Heap) (N:List Str) (qual:Str) (scope:Scope) (f:Addr) (cd:Value) (A:Around) (outer:List Env) (s:Shared) (H:Hp) (E:XK):Cx where
 prog:=P
 w:=w
 K:=K
 mg:=mg
 base:=base
 A:=A.deeper (envOfC qual scope s.heap.objs.size f cd)
 N:=N
 s₀:=s
 H₀:=H
 env:=envOfC qual scope s.heap.objs.size f cd
 outer:=outer
 stack:=envOfC qual scope s.heap.objs.size f cd :: outer
 ex:=[]
 calm:=true
 fn:=fun _=>true
 pn:=[]
 xe:=fun e s'=>wpAny (model P w) (A.deeper (envOfC qual scope s.heap.objs.size f cd)) (leaving (envOfC qual scope s.heap.objs.size f cd) e) (fun _ s''=>CX outer H s E e s'') (fun e' s''=>CX outer H s E e' s'') s'
theorem cell_has {sc:Scope} {n:Nat} {x:Str} (h:sc.names.lookup x = some .cell):∃ c,(cellsFrom n sc.names []).lookup x = some c:=by
 have q:=PySem.W.cellsFrom_some sc.names n [] (.inl h)
 exact Option.isSome_iff_exists.mp q
theorem inv_start {CX:CXT} {P:Program} {w:World} {K:PySem.W.Frag} {mg:Str → Option Value} {base:Heap} {N ps:List Str} {qual:Str} {scope:Scope} {f:Addr} {cd:Value} {A:Around} {outer:List Env} {s s1:Shared} {H:Hp} {E:XK} {us:List Value} {vs:List V}
  (S:FnScope N ps scope) (hd:A.handled = none) (e0:Env0 P w K mg base A outer s H) (hl:vs.length = ps.length) (r:Vals vs us)
  (x:InCallC s s.heap.objs.size (bindL (envOfC qual scope s.heap.objs.size f cd).kindOf (ps.zip us) fun _=>none) (cellsFrom (s.heap.objs.size + 1) scope.names []) (bindC (envOfC qual scope s.heap.objs.size f cd).kindOf (ps.zip us) fun _=>none) s1) :
  Inv (cxOf CX P w K mg base N qual scope f cd A outer s H E) [] (start N vs) H s1:=by
 have hpl:ps.length ≤ N.length:=by have:=congrArg List.length S.pre; rw [List.length_take] at this; omega
 obtain ⟨h1,tk,rfl,hk⟩:=x.done
 have noA:∀ b:Addr,b ∉ (cxOf CX P w K mg base N qual scope f cd A outer s H E).ex:=fun b z=>absurd (show b ∈ ([]:List Addr) from z) (by simp)
 refine ⟨⟨e0.mod,S.kind,rfl,rfl,Nat.le_refl _,fun y z c h1 h2=>?_,fun y hy=>?_,fun y c _ h=>?_,fun _=>hd,Around.frames_deeper e0.frames,.inr ⟨rfl,rfl⟩,fun b z=>absurd z (noA b),e0.bs,e0.bsz,fun b _ _=>noA b,fun b z=>absurd z (noA b),e0.funs,e0.frf⟩,
  rfl,e0.bare,Un.kept hk,⟨_,x.toInCall.ns,fun i y v h1 h2 h3=>?_⟩,fun y c h=>⟨_,x.cell y c h⟩,e0.hok.fresh (Nat.le_refl _),fun y c h=>?_,fun p hp=>absurd (show p ∈ ([]:List (Addr × Obj)) from hp) (by simp),e0.hok.kept hk,?_⟩
 ·exact name_of_addr x.apart (PySem.mem_of_lookup h1) (PySem.mem_of_lookup h2)
 ·have hy:scope.names.lookup y = some .cell ∨ scope.names.lookup y = some .free:=hy
  rcases hy with hy | hy
  ·exact cell_has hy
  ·exact absurd rfl (S.nofree _ (PySem.mem_of_lookup hy))
 ·exact Nat.le_of_lt (x.above y c (PySem.mem_of_lookup h))
 ·have hi:i < vs.length:=by
   unfold start at h2
   by_cases hi:i < vs.length
   ·exact hi
   ·rw [List.getElem?_append_right (by simpa using hi)] at h2
    rw [List.getElem?_replicate] at h2
    split at h2 <;> cases h2
  have ha:vs[i]? = some v:=by
   unfold start at h2
   rw [List.getElem?_append_left (by simpa using hi),List.getElem?_map] at h2
   cases e:vs[i]? with
   | none=>rw [e] at h2; cases h2
   | some a=>rw [e] at h2; cases h2; rfl
  obtain ⟨u,hu,rv⟩:=r.get ha
  have hp:ps[i]? = some y:=by
   rw [← S.pre,List.getElem?_take_of_lt (by omega)]; exact h1
  have ndP:ps.Nodup:=by rw [← S.pre]; exact S.nd.sublist (List.take_sublist _ _)
  refine ⟨u,rv,?_⟩
  rcases S.par y (List.mem_of_getElem? hp) with k | k
  ·exact .inl ⟨k,bindL_get ndP hp hu k⟩
  ·obtain ⟨c,e⟩:=cell_has (n:=s.heap.objs.size + 1) k
   refine .inr ⟨.inl k,c,e,?_⟩
   have q:=x.cell y c e
   rw [bindC_get ndP hp hu (by show scope.names.lookup y ≠ _; rw [k]; decide)] at q
   exact q
 ·exact e0.hok.fresh (Nat.le_of_lt (x.above y c (PySem.mem_of_lookup h)))
 ·unfold start
  show _ = N.length
  rw [List.length_append,List.length_map,List.length_replicate]
  omega
theorem fn_of {CX:CXT} {P:Program} {w:World} {K:PySem.W.Frag} {mg:Str → Option Value} {base:Heap} {k:Nat} {f:Addr} {name qual:Str} {params:Arguments} {body:List Stmt} {scope:Scope} {dV kV doc pm cdv ct oc:Value} {an od:Option Addr}
  {osl:Array (Option Value)} {N ps:List Str} {sp:Sp} (lk:K.lookup f = some ⟨oc,od,.func (PySem.W.fnOf name qual params body scope dV kV doc pm an cdv ct),osl⟩) (hcd:PySem.W.codeIn K cdv qual = true) (S:FnScope N ps scope)
  (len:∀ vs H Q E,sp vs H Q E → vs.length = ps.length)
  (hbody:∀ (A:Around) (outer:List Env) (s:Shared) (H:Hp) (vs:List V) (Q:VK) (E:XK),Room k (A.deeper (envOfC qual scope s.heap.objs.size f cdv)) → sp vs H Q E →
   ∃ t,PSs (cxOf CX P w K mg base N qual scope f cdv A outer s H E) body t ∧ t { nx:=fun _ H'=>Q .non H',rt:=Q } (start N vs) H) :
  FnOk P w K mg base CX (k + 1) f (PySem.W.fnOf name qual params body scope dV kV doc pm an cdv ct) ps sp:=by
 refine ⟨len,fun A outer s H args us vs Q E hr e0 hb r hsp=>?_⟩
 have hl:=len _ _ _ _ hsp
 have KX:K.In s.heap:=e0.mod.kin.keeps fun b o e=>(e0.bs b o e).1
 have lim:s.heap.NoLimit:=e0.mod.nolimit.keeps fun b o e=>(e0.bs b o e).1
 have hkind:∀ y ∈ ps.zip us,scope.names.lookup y.1 = some .local ∨ (scope.names.lookup y.1 = some .cell ∧ ((cellsFrom (s.heap.objs.size + 1) scope.names []).lookup y.1).isSome = true):=fun ⟨n,v⟩ hy=>by
  rcases S.par n (List.of_mem_zip hy).1 with q | q
  ·exact .inl q
  ·exact .inr ⟨q,PySem.W.cellsFrom_some _ _ _ (.inl q)⟩
 refine codeAny_call_function hr.depth (KX _ _ lk) rfl S.co S.gen rfl (PySem.W.codeRec_of KX hcd) (hb _ _ _ _ ?_)
 refine wpAny_newFunctionEnv_cells S.kind hkind fun env he s1 x=>?_
 subst he
 refine ⟨lim.keeps x.toInCall.keep,codeAny_func ?_⟩
 obtain ⟨t,ht,hq⟩:=hbody A outer s H vs Q E (hr.deeper _) hsp
 have I:Inv (cxOf CX P w K mg base N qual scope f cdv A outer s H E) [] (start N vs) H s1:=inv_start S hr.hd e0 hl r x
 refine wpAny_mono (ht [] s1 (start N vs) H _ I hq) (fun fl s' hs=>?_) fun e s' hs=>hs
 have fin:∀ {σ':St} {H':Hp} {v:V} {u:Value},Inv (cxOf CX P w K mg base N qual scope f cdv A outer s H E) [] σ' H' s' → RelV v u → Q v H' → CE outer P w H s Q u s' :=
  fun {σ' H' v u} J rv q=>⟨v,H',J.os,J.bare,J.base,J.hok,rv,q⟩
 cases fl with
 | ret u =>
  obtain ⟨v,σ',H',J,rv,q⟩:=hs
  exact fin J rv q
 | next =>
  obtain ⟨σ',H',J,q⟩:=hs
  exact fin (v:=V.non) (u:=Value.none) J rfl q
 | brk =>
  obtain ⟨_,_,_,q⟩:=hs
  exact False.elim q
 | cont =>
  obtain ⟨_,_,_,q⟩:=hs
  exact False.elim q
end L2
namespace L2
open PySem PySem.Spec PyProof.Rows
section
variable {X:Cx} {x:Str} {p pos:Pos} {e:Expr} {es:List Expr} {t:TA} {id T:String} {r:List V → Hp → VK → Prop}
noncomputable def tCB (r:List V → Hp → VK → Prop) (t:TA):TE:=fun σ H Q=>t σ H fun vs H1=>r vs H1 Q
theorem pe_callB (hc:CallR X (.builtin id) r) (hg:Gl X x) (hm:X.mg x = none) (hv:bootBuiltins x = some (.builtin id)) (ha:PA X (e :: es) t) (hn:x ≠ "__name__":=by decide) (hdb:(x == ("__debug__":Str)) = false:=by decide)
  (he:starEach (e :: es) X.env = (false,eval e X.env) :: starEach es X.env:=by rfl) (hpl:(backTo pos (starEach es X.env)).any (·.1) = false:=by rfl):PE X (.Call (.Name x p) (e :: es) [] pos) (tCB r t):=by
 intro pins s σ H Q I h
 refine wpAny_Call_Name_kw (ld_blt I hg hm hv ?_ hn hdb)
 exact PyProof.Rows.callWith_builtin1 (thn (ha pos pins s σ H _ I h) fun us s1 ⟨vs,H1,I1,r1,q1⟩=>hc pins s1 σ H1 vs us Q I1 r1 q1) he hpl
theorem pe_callTy (hc:CallR X (.type T) r) (hg:Gl X x) (hm:X.mg x = none) (hv:bootBuiltins x = some (.type T)) (ha:PA X (e :: es) t) (hn:x ≠ "__name__":=by decide) (hdb:(x == ("__debug__":Str)) = false:=by decide)
  (he:starEach (e :: es) X.env = (false,eval e X.env) :: starEach es X.env:=by rfl) (hpl:(backTo pos (starEach es X.env)).any (·.1) = false:=by rfl):PE X (.Call (.Name x p) (e :: es) [] pos) (tCB r t):=by
 intro pins s σ H Q I h
 refine wpAny_Call_Name_kw (ld_blt I hg hm hv ?_ hn hdb)
 exact PyProof.Rows.callWith_type1 (thn (ha pos pins s σ H _ I h) fun us s1 ⟨vs,H1,I1,r1,q1⟩=>hc pins s1 σ H1 vs us Q I1 r1 q1) he hpl
end
end L2
namespace HT
open PySem PyProof.Rows
noncomputable def lexLt:List Int → List Int → Bool
 | [],[]=>false
 | [],_ :: _=>true
 | _ :: _,[]=>false
 | x :: xs,y :: ys=>if x = y then lexLt xs ys else decide (x < y)
section
open PySem.SeqAt
open PySem.AutoSeq1 (wpAny_loadPart')
open PySem.MeetsSeq PySem.MeetsSeq2 PySem.MeetsSeq3
end
section
variable {prog:Program} {w:World} {A:Around} {E:Value → Shared → Prop} {s:Shared}
theorem cat_tup {t b:Addr} {vs ws:List Value} {Q:Value → Shared → Prop} (ht:IsTup s.heap t vs.toArray) (hb:IsTup s.heap b ws.toArray) (hv:vs ≠ [])
  (h1:ws = [] → Q (.ref t) s) (h2:ws ≠ [] → Q (.ref s.heap.objs.size) { s with heap:=s.heap.push { cls:=.type "tuple",data:=.seq (vs ++ ws).toArray } })
  (hsz:vs.length + ws.length ≤ sizeLine):wpAny (model prog w) A (binaryOp .Add (.ref t) (.ref b)) Q E s:=by
 obtain ⟨⟨cls,dd,data,sl⟩,ho,hc,n,hd⟩:=id ht
 obtain ⟨⟨cls2,dd2,data2,sl2⟩,ho2,hc2,n2,hd2⟩:=id hb
 simp only at hc hd hc2 hd2
 subst hc hd hc2 hd2
 have e:vs.toArray ++ ws.toArray = (vs ++ ws).toArray:=by simp
 by_cases hw:ws = []
 ·exact concat_meets ⟨_,ho,rfl⟩ ⟨_,ho2,rfl⟩ noFill_tuple_add seq_tuple_add PySem.F.slot_tuple_add PySem.F.entry_tuple_add (PySem.F.args_tuple_add_2 _ _)
   (tuple_addW1 t b vs.toArray ws.toArray n n2 dd dd2 sl sl2 (by simpa using hv) (by simp [hw])) ⟨ho,ho2,h1 hw⟩
 ·refine concat_meets ⟨_,ho,rfl⟩ ⟨_,ho2,rfl⟩ noFill_tuple_add seq_tuple_add PySem.F.slot_tuple_add PySem.F.entry_tuple_add (PySem.F.args_tuple_add_2 _ _)
   (tuple_addW2 t b vs.toArray ws.toArray n n2 dd dd2 sl sl2 (by simpa using hv) (by simpa using hw) (by rw [List.size_toArray,List.size_toArray]; exact hsz)) ⟨ho,ho2,?_⟩
  rw [e]
  exact h2 hw
noncomputable def sIx (n d:Nat):Option Int → Nat
 | none=>d
 | some v=>if v < 0 then (v + (n:Int)).toNat else min v.toNat n
theorem sIx_none (n d:Nat):sIx n d none = d:=rfl
theorem sIx_nat (n d k:Nat):sIx n d (some (k:Int)) = min k n:=by
 show (if (k:Int) < 0 then ((k:Int) + (n:Int)).toNat else min (k:Int).toNat n) = min k n
 rw [if_neg (by omega),Int.toNat_natCast]
theorem sIx_le (n d:Nat) (hd:d ≤ n) (o:Option Int):sIx n d o ≤ n:=by
 cases o with
 | none=>exact hd
 | some v =>
  show (if v < 0 then (v + (n:Int)).toNat else min v.toNat n) ≤ n
  by_cases hv:v < 0
  ·rw [if_pos hv]; omega
  ·rw [if_neg hv]; exact Nat.min_le_right _ _
theorem clip_eq (v:Int) (n d:Nat):(if v < 0 then max (v + (n:Int)) 0 else min v (n:Int)) = ((sIx n d (some v):Nat):Int):=by
 show (if v < 0 then max (v + (n:Int)) 0 else min v (n:Int)) = (((if v < 0 then (v + (n:Int)).toNat else min v.toNat n):Nat):Int)
 by_cases hv:v < 0
 ·simp only [if_pos hv]; omega
 ·simp only [if_neg hv]; omega
theorem adjust_gen (lo hi:Option Int) (n:Nat):Builtin.Slice.sliceAdjust lo hi 1 (n:Int) = (((sIx n 0 lo:Nat):Int),((sIx n n hi:Nat):Int)):=by
 have h1:¬ ((1:Int) < 0):=by omega
 unfold Builtin.Slice.sliceAdjust
 simp only [h1,if_false]
 refine Prod.ext ?_ ?_
 ·cases lo with
  | none=>rfl
  | some v=>exact clip_eq v n 0
 ·cases hi with
  | none=>rfl
  | some v=>exact clip_eq v n n
theorem places_gen (i j:Nat):Builtin.Slice.slicePlaces (i:Int) (j:Int) 1 = j - i:=by
 unfold Builtin.Slice.slicePlaces
 have h1:(1:Int) > 0:=by omega
 simp only [h1,if_true,Int.ediv_one]
 split <;> omega
theorem slicePart_ {v:Value} {o:Option Int} {Q:Option Int → Shared → Prop} (p:IsPart v o) (h:Q o s):wpAny (model prog w) A (Builtin.Slice.slicePartIndex v) Q E s:=by
 cases p with
 | none=>exact slicePart_none h
 | int i t=>exact slicePart_int h
theorem sliceApplied_gen {sl:Addr} {vl vu:Value} {lo hi:Option Int} {n:Nat} {Q:Int × Int × Nat → Shared → Prop} (hs:s.heap.IsSliceOf sl vl vu .none) (pl:IsPart vl lo) (pu:IsPart vu hi)
  (h:Q (((sIx n 0 lo:Nat):Int),1,sIx n n hi - sIx n 0 lo) s):wpAny (model prog w) A (Builtin.Slice.sliceApplied (.ref sl) (pure (n:Int))) Q E s:=by
 obtain ⟨os,hos,hcs,hds⟩:=id hs
 unfold Builtin.Slice.sliceApplied Builtin.Slice.sliceFields
 refine wpAny_bind (wpAny_bind (wpAny_field hos hds (x:=vl) rfl (wpAny_bind (wpAny_field hos hds (x:=vu) rfl (wpAny_bind (wpAny_field hos hds (x:=.none) rfl (wpAny_pure ?_)))))))
 refine wpAny_bind (slicePart_none ?_)
 show wpAny _ _ (if ((1:Int) == 0) = true then _ else _) _ _ s
 rw [if_neg (by decide)]
 refine wpAny_bind (slicePart_ pl (wpAny_bind (slicePart_ pu (wpAny_bind (wpAny_pure ?_)))))
 show wpAny _ _ (match Builtin.Slice.sliceAdjust lo hi 1 (n:Int) with | (lo,hi)=>pure (lo,(1:Int),Builtin.Slice.slicePlaces lo hi 1)) _ _ s
 rw [adjust_gen lo hi n]
 show wpAny _ _ (pure (((sIx n 0 lo:Nat):Int),(1:Int),Builtin.Slice.slicePlaces ((sIx n 0 lo:Nat):Int) ((sIx n n hi:Nat):Int) 1)) _ _ s
 rw [places_gen]
 exact wpAny_pure h
theorem pick_gen (xs:Array Value) (i k:Nat):((List.range k).filterMap fun (m:Nat)=>xs[((i:Int) + (m:Int) * 1).toNat]?).toArray = ((xs.toList.drop i).take k).toArray:=by
 have e:(fun (m:Nat)=>xs[((i:Int) + (m:Int) * 1).toNat]?) = fun m=>xs[i + m]?:=by
  funext m
  have:((i:Int) + (m:Int) * 1).toNat = i + m:=by omega
  rw [this]
 rw [e]
 have:=pick_run xs i k
 rw [List.filterMap_map] at this
 have e2:((fun x=>xs[x]?) ∘ fun x=>i + x) = fun m=>xs[i + m]?:=rfl
 rw [e2] at this
 rw [this]
theorem getItem_tuple_cut {t sl:Addr} {items:Array Value} {vl vu:Value} {lo hi:Option Int} {Q:Value → Shared → Prop} (ht:IsTup s.heap t items) (hs:s.heap.IsSliceOf sl vl vu .none) (pl:IsPart vl lo) (pu:IsPart vu hi)
  (hw:¬ (sIx items.size 0 lo = 0 ∧ sIx items.size items.size hi = items.size))
  (h:Q (.ref s.heap.objs.size) { s with heap:=s.heap.push { cls:=.type "tuple",data:=.seq ((items.toList.drop (sIx items.size 0 lo)).take (sIx items.size items.size hi - sIx items.size 0 lo)).toArray } })
  (hsz:items.size ≤ sizeLine):wpAny (model prog w) A (getItem (.ref t) (.ref sl)) Q E s:=by
 have htake:sizeOk (.seq ((items.toList.drop (sIx items.size 0 lo)).take (sIx items.size items.size hi - sIx items.size 0 lo)).toArray):=by
  show ((items.toList.drop (sIx items.size 0 lo)).take (sIx items.size items.size hi - sIx items.size 0 lo)).toArray.size ≤ sizeLine
  rw [List.size_toArray,List.length_take,List.length_drop,Array.length_toList]
  omega
 have hj:sIx items.size items.size hi ≤ items.size:=sIx_le _ _ (Nat.le_refl _) hi
 obtain ⟨os,hos,hcs,hds⟩:=id hs
 have hTs:s.TypeIs (.ref sl) "slice":=⟨os,hos,hcs⟩
 unfold getItem
 try with_reducible refine wpAny_holding ?_
 first | refine wpAny_bind (wpAny_pure ?_) | skip
 refine wpAny_bind (wpAny_sequenceKey ht.typeIs (by decide) ?_)
 refine wpAny_bind (wpAny_callSpecial?_slot (name:=Str.ofString "__getitem__") ht.typeIs PyProof.Rows.slot_tuple_getitem
  (wpAny_call_entry PyProof.Rows.slot_tuple_getitem ht.typeIs entry_tuple_getitem ?_ (args_tuple_getitem _ _)))
 show wpAny _ _ (Builtin.Tuple.tupleItemsOf (.ref t) >>= _) _ _ s
 refine wpAny_bind (tupleItemsOf_ ht ?_)
 refine wpAny_bind (wpAny_typeOf hTs ?_)
 rw [if_pos (by decide)]
 refine wpAny_bind (sliceApplied_gen hs pl pu ?_)
 have hno:¬ ((((sIx items.size 0 lo:Nat):Int) == 0 && (1:Int) == 1 && (sIx items.size items.size hi - sIx items.size 0 lo) == items.size) = true):=by
  intro q
  rw [Bool.and_eq_true,Bool.and_eq_true] at q
  have q1:((sIx items.size 0 lo:Nat):Int) = 0:=eq_of_beq q.1.1
  have q2:sIx items.size items.size hi - sIx items.size 0 lo = items.size:=eq_of_beq q.2
  exact hw ⟨by omega,by omega⟩
 show wpAny _ _ (if (((sIx items.size 0 lo:Nat):Int) == 0 && (1:Int) == 1 && (sIx items.size items.size hi - sIx items.size 0 lo) == items.size) = true then _ else _) _ _ s
 rw [if_neg hno,pick_gen]
 first
  | exact wpAny_bind (m:=Builtin.Tuple.tupleExact _) (wpAny_newObj_type (wpAny_pure ⟨_,rfl,wpAny_pure h⟩) htake)
  | exact wpAny_bind (m:=Builtin.Tuple.tupleExact _) (wpAny_newObj_type (wpAny_bind (wpAny_pure (wpAny_pure ⟨_,rfl,wpAny_pure h⟩))) htake)
  | exact wpAny_bind (wpAny_bind (m:=Builtin.Tuple.tupleExact _) (wpAny_newObj_type (wpAny_pure (wpAny_pure ⟨_,rfl,wpAny_pure h⟩)) htake))
  | exact wpAny_bind (wpAny_bind (m:=Builtin.Tuple.tupleExact _) (wpAny_newObj_type (wpAny_pure ⟨_,rfl,wpAny_pure h⟩) htake))
end
end HT
namespace L2
open PySem PySem.Spec PyProof.Rows
noncomputable abbrev TO:=St → Hp → (Option Int → Hp → Prop) → Prop
noncomputable def PO (X:Cx) (e:Option Expr) (t:TO):Prop :=
 ∀ (pins:List (Addr × Obj)) (s:Shared) (σ:St) (H:Hp) (Q:Option Int → Hp → Prop),Inv X pins σ H s → t σ H Q →
  wpAny (model X.prog X.w) X.A (evalPart e X.env) (fun u s'=>∃ o H',Inv X pins σ H' s' ∧ IsPart u o ∧ Q o H') X.xe s
noncomputable def tNoPart:TO:=fun _ H Q=>Q none H
noncomputable def tPart (t:TE):TO:=fun σ H Q=>t σ H fun x H1=>∃ i,x = .int i ∧ Q (some i) H1
theorem intsAre_of {ns:List Int}:∀ {us:List Value},Vals (ns.map V.int) us → IntsAre us ns:=by
 induction ns with
 | nil=>intro us r; rw [List.map_nil] at r; cases r; exact .nil
 | cons n ns ih =>
  intro us r
  rw [List.map_cons] at r
  cases r with
  | cons r1 r2 =>
   obtain ⟨t,e⟩:=r1
   subst e
   exact .cons n t (ih r2)
section
variable {X:Cx} {e:Expr} {te:TE} {lo hi:Option Expr} {tl th:TO} {pos p2:Pos}
theorem po_none:PO X none tNoPart:=by
 intro pins s σ H Q I h
 rw [evalPart_none]
 exact wpAny_pure ⟨none,H,I,.none,h⟩
theorem po_some (h:PE X e te):PO X (some e) (tPart te):=by
 intro pins s σ H Q I hw
 rw [evalPart_some]
 refine thn (h pins s σ H _ I hw) fun u s1 ⟨x,H1,I1,r1,q1⟩=>?_
 obtain ⟨i,rfl,q⟩:=q1
 obtain ⟨t,rfl⟩:=r1
 exact ⟨some i,H1,I1,.int i t,q⟩
noncomputable def SlR (X:Cx) (r:V → Option Int → Option Int → Hp → VK → Prop):Prop :=
 ∀ (pins:List (Addr × Obj)) (s:Shared) (σ:St) (H:Hp) (x:V) (v vl vu:Value) (lo hi:Option Int) (sl:Addr) (Q:VK),Inv X pins σ H s → RelV x v → s.heap.IsSliceOf sl vl vu .none → IsPart vl lo → IsPart vu hi → r x lo hi H Q →
  ∃ T id,typeLookup (.type T) "__getitem__" = pure (some (.builtin id)) ∧ s.TypeIs v T ∧ wpAny (model X.prog X.w) X.A (getItem v (.ref sl)) (EP X pins σ Q) X.xe s
theorem SlR.or {r r':V → Option Int → Option Int → Hp → VK → Prop} (h:SlR X r) (h':SlR X r'):SlR X (fun x lo hi H Q=>r x lo hi H Q ∨ r' x lo hi H Q):=by
 intro pins s σ H x v vl vu lo hi sl Q I rx hs pl pu q
 rcases q with q | q
 ·exact h pins s σ H x v vl vu lo hi sl Q I rx hs pl pu q
 ·exact h' pins s σ H x v vl vu lo hi sl Q I rx hs pl pu q
noncomputable def tSl (r:V → Option Int → Option Int → Hp → VK → Prop) (te:TE) (tl th:TO):TE:=fun σ H Q=>te σ H fun x H1=>tl σ H1 fun l H2=>th σ H2 fun u H3=>r x l u H3 Q
theorem pe_slice {r:V → Option Int → Option Int → Hp → VK → Prop} (hr:SlR X r) (he:PE X e te) (hl:PO X lo tl) (hu:PO X hi th):PE X (.Subscript e (.Slice lo hi none p2) pos) (tSl r te tl th):=by
 intro pins s σ H Q I h
 refine Subscript_ (thn (he pins s σ H _ I h) fun v s1 ⟨x,H1,I1,r1,q1⟩=>?_)
 refine wpAny_Slice (thn (hl pins s1 σ H1 _ I1 q1) fun vl s2 ⟨l,H2,I2,pl,q2⟩=>thn (hu pins s2 σ H2 _ I2 q2) fun vu s3 ⟨u,H3,I3,pu,q3⟩=>?_)
 rw [evalPart_none]
 refine wpAny_pure ?_
 have I4:Inv X pins σ H3 { s3 with heap:=s3.heap.push { cls:=.type "slice",data:=.fields #[vl,vu,.none] } }:=I3.kept (t':=s3.toks) fun b ob q=>Heap.get?_push_of_some _ q
 obtain ⟨T,id,hT,ht,hg⟩:=hr pins { s3 with heap:=s3.heap.push { cls:=.type "slice",data:=.fields #[vl,vu,.none] } } σ H3 x v vl vu l u s3.heap.objs.size Q I4 r1 (Heap.IsSliceOf.new ..) pl pu q3
 show wpAny (model X.prog X.w) X.A (subscriptTail e (.Slice lo hi none p2) v (.ref s3.heap.objs.size)) (EP X pins σ Q) X.xe { s3 with heap:=s3.heap.push { cls:=.type "slice",data:=.fields #[vl,vu,.none] } }
 exact tail_any (ops:=[.ref s3.heap.objs.size,v]) ht hT hg (by with_unfolding_all rfl)
noncomputable def cutV (xs:List V) (lo hi:Option Int):List V:=(xs.drop (HT.sIx xs.length 0 lo)).take (HT.sIx xs.length xs.length hi - HT.sIx xs.length 0 lo)
theorem cutV_length (xs:List V) (lo hi:Option Int):(cutV xs lo hi).length ≤ xs.length:=by
 unfold cutV
 rw [List.length_take,List.length_drop]
 omega
end
end L2
namespace L2
open PySem PySem.Spec PyProof.Rows
noncomputable def ixN (n:Nat) (i:Int):Option Nat:=if 0 ≤ i then (if i < n then some i.toNat else none) else if -(n:Int) ≤ i then some (i + n).toNat else none
noncomputable def atI {α:Type} (xs:List α) (i:Int):Option α:=(ixN xs.length i).bind fun j=>xs[j]?
theorem ixN_seq {n:Nat} {i:Int} {j:Nat} (h:ixN n i = some j):seqIndex? i n = some j ∧ j < n ∧ -(n:Int) ≤ i ∧ i < n:=by
 unfold ixN at h
 by_cases h0:0 ≤ i
 ·rw [if_pos h0] at h
  by_cases h1:i < n
  ·rw [if_pos h1] at h
   have e:i.toNat = j:=Option.some.inj h
   exact ⟨by rw [seqIndex_of h0 h1,e],by omega,by omega,h1⟩
  ·rw [if_neg h1] at h; cases h
 ·rw [if_neg h0] at h
  by_cases h1:-(n:Int) ≤ i
  ·rw [if_pos h1] at h
   have e:(i + n).toNat = j:=Option.some.inj h
   exact ⟨by rw [seqIndex_neg (by omega) h1,e],by omega,h1,by omega⟩
  ·rw [if_neg h1] at h; cases h
theorem atI_get {α:Type} {xs:List α} {i:Int} {v:α} (h:atI xs i = some v):∃ j,seqIndex? i xs.length = some j ∧ xs[j]? = some v ∧ j < xs.length ∧ -(xs.length:Int) ≤ i ∧ i < xs.length:=by
 unfold atI at h
 cases e:ixN xs.length i with
 | none=>rw [e] at h; cases h
 | some j =>
  rw [e] at h
  obtain ⟨h1,h2,h3,h4⟩:=ixN_seq e
  exact ⟨j,h1,h,h2,h3,h4⟩
noncomputable def PlainIx (b:Expr):Prop:=∀ o i,subscripted b false o i = operate [o,i] (getItem o i)
noncomputable def IxR (X:Cx) (r:R2):Prop :=
 ∀ (value slice:Expr) (pins:List (Addr × Obj)) (s:Shared) (σ:St) (H:Hp) (x y:V) (v u:Value) (Q:VK),Inv X pins σ H s → RelV x v → RelV y u → r x y H Q →
  subscripted slice false v u = operate [v,u] (getItem v u) → wpAny (model X.prog X.w) X.A (subscriptTail value slice v u) (EP X pins σ Q) X.xe s
noncomputable def MtR (X:Cx) (id:String) (r:V → List V → Hp → VK → Prop):Prop :=
 ∀ (pins:List (Addr × Obj)) (s:Shared) (σ:St) (H:Hp) (x:V) (xs:List V) (v:Value) (us:List Value) (Q:VK),Inv X pins σ H s → RelV x v → Vals xs us → r x xs H Q →
  wpAny (model X.prog X.w) X.A (call (.builtin id) (v :: us)) (EP X pins σ Q) X.xe s
section
variable {X:Cx} {a b:Expr} {ta tb:TE} {pos:Pos}
theorem IxR.or {r r':R2} (h:IxR X r) (h':IxR X r'):IxR X (fun x y H Q=>r x y H Q ∨ r' x y H Q):=by
 intro value slice pins s σ H x y v u Q I rx ry q hs
 rcases q with q | q
 ·exact h value slice pins s σ H x y v u Q I rx ry q hs
 ·exact h' value slice pins s σ H x y v u Q I rx ry q hs
theorem pe_ix {r:R2} (hr:IxR X r) (ha:PE X a ta) (hb:PE X b tb) (hs:PlainIx b):PE X (.Subscript a b pos) (tOp r ta tb):=by
 intro pins s σ H Q I h
 exact Subscript_ (binT ha hb I h fun v u s2 x y H2 I2 rx ry q=>hr a b pins s2 σ H2 x y v u Q I2 rx ry q (hs _ _))
noncomputable def rIxL (K:PySem.W.Frag):R2:=fun x y H Q=>∃ p xs i v,x = .ref p ∧ y = .int i ∧ SqL K H p xs ∧ atI xs i = some v ∧ Q v H
noncomputable def rIxT (K:PySem.W.Frag):R2:=fun x y H Q=>∃ p xs i v,x = .ref p ∧ y = .int i ∧ SqT K H p xs ∧ atI xs i = some v ∧ Q v H
noncomputable def rIxS:R2:=fun x y H Q=>∃ z i c,x = .str z ∧ y = .int i ∧ z.length ≤ sizeLine ∧ atI z.cps.toList i = some c ∧ Q (.str ⟨#[c]⟩) H
theorem ix_list:IxR X (rIxL X.K):=by
 intro value slice pins s σ H x y v u Q I rx ry h hs
 obtain ⟨p,xs,i,z,rfl,rfl,hq,he,q⟩:=h
 cases rx
 obtain ⟨t,rfl⟩:=ry
 obtain ⟨its,r,pl,hz⟩:=I.list hq
 obtain ⟨j,h1,h2,h3,h4,h5⟩:=atI_get he
 obtain ⟨w,ew,rw'⟩:=r.get h2
 have hl:=r.length
 have hn:=line63
 have fin:EP X pins σ Q w s:=⟨z,H,I,rw',q⟩
 by_cases h0:0 ≤ i
 ·have hj:i.toNat = j:=by
   rw [seqIndex_of h0 h5] at h1
   exact Option.some.inj h1
  exact item_listR pl.isList h0 (by omega) (by rw [hj]; simpa using ew) fin hs
 ·have hj:(i + (its.toArray.size:Int)).toNat = j:=by
   rw [seqIndex_neg (by omega) h4] at h1
   rw [List.size_toArray,← hl]
   exact Option.some.inj h1
  exact subscriptTail_builtinR (x:=w) pl.isList.typeIs slot_list_getitem.lookup
   (wpAny_getItem_list_neg (Q:=fun r s'=>r = w ∧ EP X pins σ Q r s') pl.isList (by omega) (by rw [List.size_toArray] <;> omega) (by omega) (by rw [hj]; simpa using ew) ⟨rfl,fin⟩) hs
theorem ix_tup:IxR X (rIxT X.K):=by
 intro value slice pins s σ H x y v u Q I rx ry h hs
 obtain ⟨p,xs,i,z,rfl,rfl,hq,he,q⟩:=h
 cases rx
 obtain ⟨t,rfl⟩:=ry
 obtain ⟨its,r,pl,hz⟩:=I.tuple hq
 obtain ⟨j,h1,h2,h3,h4,h5⟩:=atI_get he
 obtain ⟨w,ew,rw'⟩:=r.get h2
 have hl:=r.length
 have hn:=line63
 have fin:EP X pins σ Q w s:=⟨z,H,I,rw',q⟩
 exact subscriptTail_builtinR (x:=w) pl.typeIs slot_tuple_getitem.lookup
  (getItem_tuple (j:=j) (Q:=fun r s'=>r = w ∧ EP X pins σ Q r s') pl (by omega) (by omega) (by rw [List.size_toArray,← hl]; exact h1) (by simpa using ew) ⟨rfl,fin⟩) hs
theorem ix_str:IxR X rIxS:=by
 intro value slice pins s σ H x y v u Q I rx ry h hs
 obtain ⟨z,i,c,rfl,rfl,hz,he,q⟩:=h
 obtain ⟨t,rfl⟩:=rx
 obtain ⟨t',rfl⟩:=ry
 obtain ⟨j,h1,h2,h3,h4,h5⟩:=atI_get he
 have hl:z.cps.toList.length = z.length:=by simp [Str.length]
 rw [hl] at h1 h4 h5
 have hn:=line63
 exact tail_any (typeIs_str s z t) slot_str_getitem.lookup (getItem_str (c:=c) (by
  have e1:decide (i < -(2 ^ 63:Int)) = false:=decide_eq_false (by omega)
  have e2:decide (i ≥ 2 ^ 63) = false:=decide_eq_false (by omega)
  rw [e1,e2,Bool.or_false]) (by rw [h1]; simpa using h2) ⟨.str ⟨#[c]⟩,H,I.tok _,⟨_,rfl⟩,q⟩) hs
noncomputable def rIx (K:PySem.W.Frag):R2:=fun x y H Q=>rIxL K x y H Q ∨ rIxT K x y H Q ∨ rIxS x y H Q
theorem ix_seq:IxR X (rIx X.K):=ix_list.or (ix_tup.or ix_str)
theorem mapSeq_set (its:List Value) (n j:Nat) (u:Value):Obj.mapSeq (·.setIfInBounds j u) { cls:=.type "list",data:=.seq its.toArray n } = { cls:=.type "list",data:=.seq (its.set j u).toArray n }:=by
 simp [Obj.mapSeq]
theorem Inv.lst {pins:List (Addr × Obj)} {σ:St} {H:Hp} {s:Shared} {p:Addr} {xs:List V} (I:Inv X pins σ H s) (h:H p = some (.lst xs)) :
  ∃ (its:List Value) (n:Nat),Vals xs its ∧ s.heap.get? p = some { cls:=.type "list",data:=.seq its.toArray n } ∧ xs.length ≤ sizeLine:=by
 obtain ⟨z,its,n,r,e⟩:=I.hok p _ h
 exact ⟨its,n,r,e,z⟩
theorem Inv.lstUpd {pins:List (Addr × Obj)} {σ:St} {H:Hp} {s:Shared} {p:Addr} {xs ys:List V} {its its':List Value} {n n':Nat} {f:Obj → Obj} (I:Inv X pins σ H s) (h:H p = some (.lst xs))
  (ho:s.heap.get? p = some { cls:=.type "list",data:=.seq its.toArray n }) (hf:f { cls:=.type "list",data:=.seq its.toArray n } = { cls:=.type "list",data:=.seq its'.toArray n' }) (r:Vals ys its') (hz:ys.length ≤ sizeLine) (t:Nat) :
  Inv X pins σ (upd H p (.lst ys)) { s with heap:=s.heap.update p f,toks:=t }:=by
 have e:(s.heap.update p f).get? p = some { cls:=.type "list",data:=.seq its'.toArray n' }:=by
  rw [Heap.get?_update_self f ho (by rw [hf] <;> rfl),hf]
 refine I.write (x:=p) (e:=p) (by rw [h]; trivial) (.inl rfl) (fun b u hb q=>(Heap.get?_update_other _ _ (Ne.symm hb)).trans q) ⟨_,e⟩ ?_
 exact ⟨hz,its',n',r,e⟩
noncomputable def rSetL:V → V → V → Hp → (Hp → Prop) → Prop:=fun o i v H Q=>∃ p xs k j,o = .ref p ∧ i = .int k ∧ H p = some (.lst xs) ∧ ixN xs.length k = some j ∧ Q (upd H p (.lst (xs.set j v)))
theorem set_list:PSet X rSetL:=by
 intro pins s σ H o i v ov iv u Q I ro ri rv h
 obtain ⟨p,xs,k,j,rfl,rfl,hp,hj,q⟩:=h
 cases ro
 obtain ⟨t,rfl⟩:=ri
 obtain ⟨its,n,r,ho,hz⟩:=I.lst hp
 obtain ⟨h1,h2,h3,h4⟩:=ixN_seq hj
 have hl:=r.length
 have hn:=line63
 have I':Inv X pins σ (upd H p (.lst (xs.set j v))) { s with heap:=s.heap.update p (Obj.mapSeq (·.setIfInBounds j u)) } :=
  I.lstUpd hp ho (mapSeq_set its n j u) (r.set rv j) (by rw [List.length_set]; exact hz) s.toks
 by_cases h0:0 ≤ k
 ·have hk:k.toNat = j:=by
   rw [seqIndex_of h0 h4] at h1
   exact Option.some.inj h1
  exact PySem.W.ki_setAt ho h0 (by omega) (by rw [List.size_toArray,← hl]; exact h4) (by rw [hk]; exact ⟨_,I',q⟩)
 ·have hk:(k + (its.toArray.size:Int)).toNat = j:=by
   rw [seqIndex_neg (by omega) h3] at h1
   rw [List.size_toArray,← hl]
   exact Option.some.inj h1
  exact PySem.W.ki_setBack ho (by omega) (by rw [List.size_toArray,← hl]; exact h3) (by omega) (by rw [hk]; exact ⟨_,I',q⟩)
theorem slice_bounds (lo hi:Option Int) (n:Nat):(sliceBounds lo hi none n).1 = ((HT.sIx n 0 lo:Nat):Int) ∧ (sliceBounds lo hi none n).2.1 = ((HT.sIx n n hi:Nat):Int) ∧ (sliceBounds lo hi none n).2.2 = 1:=by
 refine ⟨?_,?_,rfl⟩
 ·cases lo with
  | none=>simp [sliceBounds,HT.sIx]
  | some i =>
   simp only [sliceBounds,HT.sIx,Option.getD_none,show (1:Int) > 0 by decide,if_true]
   by_cases h:i < 0
   ·simp only [h,if_true] <;> omega
   ·simp only [h,if_false] <;> omega
 ·cases hi with
  | none=>simp [sliceBounds,HT.sIx]
  | some i =>
   simp only [sliceBounds,HT.sIx,Option.getD_none,show (1:Int) > 0 by decide,if_true]
   by_cases h:i < 0
   ·simp only [h,if_true] <;> omega
   ·simp only [h,if_false] <;> omega
theorem slicePick_cut (its:List Value) (lo hi:Option Int):slicePick its.toArray lo hi none = ((its.drop (HT.sIx its.length 0 lo)).take (HT.sIx its.length its.length hi - HT.sIx its.length 0 lo)).toArray:=by
 obtain ⟨h1,h2,h3⟩:=slice_bounds lo hi its.toArray.size
 unfold slicePick
 rw [h1,h2,h3]
 simp only [sliceRange_one,pick_run,List.size_toArray] <;> rfl
noncomputable def rSlL (K:PySem.W.Frag):V → Option Int → Option Int → Hp → VK → Prop:=fun x lo hi H Q=>∃ a xs,x = .ref a ∧ SqL K H a xs ∧ ∀ p,H p = none → Q (.ref p) (upd H p (.lst (cutV xs lo hi)))
theorem sl_list:SlR X (rSlL X.K):=by
 intro pins s σ H x v vl vu lo hi sl Q I rx hs pl pu h
 obtain ⟨a,xs,rfl,hx,q⟩:=h
 cases rx
 obtain ⟨its,r,ht,hz⟩:=I.list hx
 have hlen:=r.length
 refine ⟨"list",_,slot_list_getitem.lookup,ht.isList.typeIs,?_⟩
 refine wpAny_getItem_list_slice ht.isList hs pl pu .none (by simp) ?_ (by rw [List.size_toArray] <;> omega)
 rw [slicePick_cut,← hlen]
 refine ⟨.ref s.heap.objs.size,_,I.laid (t':=s.toks) (o:=.lst (cutV xs lo hi)) (fun b ob q=>Heap.get?_push_of_some _ q) (Nat.le_refl _) ?_,rfl,q _ (I.hok.fresh (Nat.le_refl _))⟩
 exact ⟨Nat.le_trans (cutV_length xs lo hi) hz,_,0,(r.drop (HT.sIx xs.length 0 lo)).take (HT.sIx xs.length xs.length hi - HT.sIx xs.length 0 lo),Heap.get?_push_size _ rfl⟩
noncomputable def flatV:V → Bool
 | .non=>true
 | .bl _=>true
 | .int _=>true
 | .str _=>true
 | _=>false
noncomputable def eqV:V → V → Bool
 | .non,.non=>true
 | .bl a,.bl b=>a == b
 | .bl a,.int b=>(if a then 1 else 0) == b
 | .int a,.bl b=>a == (if b then 1 else 0)
 | .int a,.int b=>a == b
 | .str a,.str b=>a == b
 | _,_=>false
theorem eqAt_V {A:Around} {s:Shared} {y x:V} {u v:Value} (ry:RelV y u) (rx:RelV x v) (fy:flatV y = true) (fx:flatV x = true):SeqAt.EqAt A s u v (eqV y x):=by
 cases y with
 | non =>
  cases ry
  cases x with
  | non=>cases rx; exact SeqAt.EqAt.same _
  | bl b=>cases rx; exact SeqAt.EqAt.none_bool b
  | int b=>obtain ⟨t,rfl⟩:=rx; exact SeqAt.EqAt.none_int b t
  | str b=>obtain ⟨t,rfl⟩:=rx; exact SeqAt.EqAt.none_str b t
  | _=>exact absurd (show false = true from fx) Bool.false_ne_true
 | bl a =>
  cases ry
  cases x with
  | non=>cases rx; exact SeqAt.EqAt.bool_none a
  | bl b=>cases rx; exact SeqAt.EqAt.bool_bool a b
  | int b=>obtain ⟨t,rfl⟩:=rx; exact SeqAt.EqAt.bool_int a b t
  | str b=>obtain ⟨t,rfl⟩:=rx; exact SeqAt.EqAt.bool_str a b t
  | _=>exact absurd (show false = true from fx) Bool.false_ne_true
 | int a =>
  obtain ⟨t',rfl⟩:=ry
  cases x with
  | non=>cases rx; exact SeqAt.EqAt.int_none a t'
  | bl b=>cases rx; exact SeqAt.EqAt.int_bool a t' b
  | int b=>obtain ⟨t,rfl⟩:=rx; exact SeqAt.EqAt.int_int a t' b t
  | str b=>obtain ⟨t,rfl⟩:=rx; exact SeqAt.EqAt.int_str a t' b t
  | _=>exact absurd (show false = true from fx) Bool.false_ne_true
 | str a =>
  obtain ⟨t',rfl⟩:=ry
  cases x with
  | non=>cases rx; exact SeqAt.EqAt.str_none a t'
  | bl b=>cases rx; exact SeqAt.EqAt.str_bool a t' b
  | int b=>obtain ⟨t,rfl⟩:=rx; exact SeqAt.EqAt.str_int a t' b t
  | str b=>obtain ⟨t,rfl⟩:=rx; exact SeqAt.EqAt.str_str a t' b t
  | _=>exact absurd (show false = true from fx) Bool.false_ne_true
 | _=>exact absurd (show false = true from fy) Bool.false_ne_true
noncomputable def eqU (x:V) (u:Value):Bool:=match u with
 | .none=>eqV .non x
 | .bool b=>eqV (.bl b) x
 | .int i _=>eqV (.int i) x
 | .str z _=>eqV (.str z) x
 | _=>false
theorem eqU_of {x y:V} {u:Value} (r:RelV y u) (f:flatV y = true):eqU x u = eqV y x:=by
 cases y with
 | non=>cases r; rfl
 | bl b=>cases r; rfl
 | int i=>obtain ⟨t,rfl⟩:=r; rfl
 | str z=>obtain ⟨t,rfl⟩:=r; rfl
 | _=>exact absurd (show false = true from f) Bool.false_ne_true
theorem any_eqU {x:V}:∀ {xs:List V} {us:List Value},Vals xs us → xs.all flatV = true → us.any (eqU x) = xs.any fun y=>eqV y x
 | _,_,.nil,_=>rfl
 | y :: xs,u :: us,.cons r t,f=>by
  rw [List.all_cons,Bool.and_eq_true] at f
  rw [List.any_cons,List.any_cons,eqU_of r f.1,any_eqU t f.2]
theorem mem_eqAt {A:Around} {s:Shared} {x:V} {v:Value} (rx:RelV x v) (fx:flatV x = true):∀ {xs:List V} {us:List Value},Vals xs us → xs.all flatV = true → ∀ u ∈ us,SeqAt.EqAt A s u v (eqU x u)
 | _,_,.nil,_=>fun u hu=>by cases hu
 | y :: xs,u :: us,.cons r t,f=>fun u' hu=>by
  rw [List.all_cons,Bool.and_eq_true] at f
  rcases List.mem_cons.mp hu with rfl | hu
  ·rw [eqU_of r f.1]; exact eqAt_V r rx f.1 fx
  ·exact mem_eqAt rx fx t f.2 u' hu
noncomputable def inV (x:V) (xs:List V):Bool:=xs.any fun y=>eqV y x
noncomputable def rIn (K:PySem.W.Frag) (neg:Bool):R2:=fun x y H Q=>∃ p xs,y = .ref p ∧ (SqL K H p xs ∨ SqT K H p xs) ∧ flatV x = true ∧ xs.all flatV = true ∧ Q (.bl (if neg then !inV x xs else inV x xs)) H
theorem op_in_seq:OpR X (compareOp .In) (rIn X.K false):=by
 intro pins s σ H x y v u Q I rx ry h
 obtain ⟨p,xs,rfl,hq,fx,fs,q⟩:=h
 cases ry
 rcases hq with hq | hq
 ·obtain ⟨its,r,pl,hz⟩:=I.list hq
  refine SeqAt.in_listAt (eqU x) pl.isList (fun w hw=>mem_eqAt rx fx r fs w (by simpa using hw)) ⟨.bl _,H,I,rfl,?_⟩
  rw [show its.toArray.any (eqU x) = its.any (eqU x) by simp,any_eqU r fs]
  exact q
 ·obtain ⟨its,r,pl,hz⟩:=I.tuple hq
  refine SeqAt.in_tupleAt (eqU x) pl (fun w hw=>mem_eqAt rx fx r fs w (by simpa using hw)) ⟨.bl _,H,I,rfl,?_⟩
  rw [show its.toArray.any (eqU x) = its.any (eqU x) by simp,any_eqU r fs]
  exact q
theorem call_len_seq:CallR X (.builtin "len") (fun xs H Q=>∃ p ys,xs = [.ref p] ∧ (SqL X.K H p ys ∨ SqT X.K H p ys) ∧ Q (.int ys.length) H):=by
 intro pins s σ H xs us Q I r h
 obtain ⟨p,ys,rfl,hq,q⟩:=h
 obtain ⟨u,rfl,rx⟩:=vals1 r
 cases rx
 have hn:=line63
 rcases hq with hq | hq
 ·obtain ⟨its,r',pl,hz⟩:=I.list hq
  have hlen:=r'.length
  exact Calls.call_len_list pl.isList (by simp only [List.size_toArray] <;> omega) ⟨.int ys.length,H,I.tok _,⟨s.toks + 1,by rw [List.size_toArray,hlen]⟩,q⟩
 ·obtain ⟨its,r',pl,hz⟩:=I.tuple hq
  have hlen:=r'.length
  exact len_tuple pl (by simp only [List.size_toArray] <;> omega) ⟨.int ys.length,H,I.tok _,⟨s.toks + 1,by rw [List.size_toArray,hlen]⟩,q⟩
theorem call_len_str:CallR X (.builtin "len") (fun xs H Q=>∃ z,xs = [.str z] ∧ z.length ≤ sizeLine ∧ Q (.int z.length) H):=by
 intro pins s σ H xs us Q I r h
 obtain ⟨z,rfl,hz,q⟩:=h
 obtain ⟨u,rfl,t,rfl⟩:=vals1 r
 have hn:=line63
 exact len_str (by omega) ⟨.int z.length,H,I.tok _,⟨_,rfl⟩,q⟩
theorem CallR.or {f:Value} {r r':List V → Hp → VK → Prop} (h:CallR X f r) (h':CallR X f r'):CallR X f (fun xs H Q=>r xs H Q ∨ r' xs H Q):=by
 intro pins s σ H xs us Q I rs q
 rcases q with q | q
 ·exact h pins s σ H xs us Q I rs q
 ·exact h' pins s σ H xs us Q I rs q
theorem call_tuple_of:CallR X (.type "tuple") (fun xs H Q=>∃ p ys,xs = [.ref p] ∧ ((SqL X.K H p ys ∧ ∀ l,H l = none → Q (.ref l) (upd H l (.tup ys))) ∨ (SqT X.K H p ys ∧ Q (.ref p) H))):=by
 intro pins s σ H xs us Q I r h
 obtain ⟨p,ys,rfl,h⟩:=h
 obtain ⟨u,rfl,rx⟩:=vals1 r
 cases rx
 rcases h with ⟨hq,q⟩ | ⟨hq,q⟩
 ·obtain ⟨its,r',pl,hz⟩:=I.list hq
  have hlen:=r'.length
  refine call_tuple_list pl.isList (fun h' kp=>?_) (by simp only [List.size_toArray] <;> omega)
  have I1:Inv X pins σ H { s with heap:=h' }:=I.kept (t':=s.toks) kp
  have I2:Inv X pins σ (upd H h'.objs.size (.tup ys)) { s with heap:=h'.push { cls:=.type "tuple",data:=.seq its.toArray } } :=
   I1.laid (t':=s.toks) (fun b o e=>Heap.get?_push_of_some _ e) (Nat.le_refl _) (show ObjOk X.prog X.w _ _ _ (.tup ys) from ⟨hz,its,r',TupD.new _ _⟩)
  exact ⟨.ref h'.objs.size,_,I2,rfl,q _ (I1.hok.fresh (Nat.le_refl _))⟩
 ·obtain ⟨its,r',pl,hz⟩:=I.tuple hq
  exact call_tuple_same pl ⟨.ref p,H,I,rfl,q⟩
noncomputable def tyV (K:PySem.W.Frag) (T:String) (x:V) (H:Hp):Prop:=match x with
 | .str _=>T = "str"
 | .int _=>T = "int"
 | .ref p=>(T = "list" ∧ ∃ xs,SqL K H p xs) ∨ (T = "tuple" ∧ ∃ o,K.lookup p = some o ∧ o.cls = .type "tuple" ∧ o.dict = none) ∨
   (T = "dict" ∧ ((∃ kvs,H p = some (.dK kvs)) ∨ ∃ kvs,H p = some (.dT kvs))) ∨ (T = "set" ∧ ∃ S n,H p = some (.set S n))
 | _=>False
theorem tyV_is {pins:List (Addr × Obj)} {σ:St} {H:Hp} {s:Shared} {T:String} {x:V} {v:Value} (I:Inv X pins σ H s) (r:RelV x v) (ty:tyV X.K T x H) :
  s.TypeIs v T ∧ ∀ a,v = .ref a → ∃ ob,s.heap.get? a = some ob ∧ ob.dict = none:=by
 cases x with
 | str z =>
  obtain ⟨t,rfl⟩:=r
  cases (show T = "str" from ty)
  exact ⟨typeIs_str s z t,fun _ e=>nomatch e⟩
 | int i =>
  obtain ⟨t,rfl⟩:=r
  cases (show T = "int" from ty)
  exact ⟨typeIs_int s i t,fun _ e=>nomatch e⟩
 | ref p =>
  cases r
  rcases ty with ⟨rfl,xs,hq⟩ | ⟨rfl,o,hk,hc,hd⟩ | ⟨rfl,hk⟩ | ⟨rfl,S,n,hk⟩
  ·obtain ⟨its,_,pl,_⟩:=I.list hq
   refine ⟨pl.isList.typeIs,fun a e=>?_⟩
   cases e
   obtain ⟨o,n,e,c,hd,_⟩:=pl
   exact ⟨o,e,hd⟩
  ·refine ⟨⟨o,I.kIn p o hk,hc⟩,fun a e=>?_⟩
   cases e
   exact ⟨o,I.kIn _ o hk,hd⟩
  ·have z:∃ o,s.heap.get? p = some o ∧ o.ExactDict:=by
    rcases hk with ⟨kvs,hk⟩ | ⟨kvs,hk⟩
    ·obtain ⟨_,_,_,_,o,_,_,e,ex,_⟩:=I.hok p _ hk
     exact ⟨o,e,ex⟩
    ·obtain ⟨_,_,_,_,o,_,_,e,ex,_⟩:=I.hok p _ hk
     exact ⟨o,e,ex⟩
   obtain ⟨o,e,ex⟩:=z
   refine ⟨⟨o,e,ex.1⟩,fun a e2=>?_⟩
   cases e2
   exact ⟨o,e,ex.2.1⟩
  ·obtain ⟨o,_,_,_,e,ex,_⟩:=I.hok p _ hk
   refine ⟨⟨o,e,ex.1⟩,fun a e2=>?_⟩
   cases e2
   exact ⟨o,e,ex.2.1⟩
 | _=>exact False.elim ty
noncomputable def tBM0 (K:PySem.W.Frag) (T:String) (r:V → List V → Hp → VK → Prop) (to:TE):TE:=fun σ H Q=>to σ H fun x H1=>tyV K T x H1 ∧ r x [] H1 Q
noncomputable def tBM (K:PySem.W.Frag) (T:String) (r:V → List V → Hp → VK → Prop) (to:TE) (t:TA):TE:=fun σ H Q=>to σ H fun x H1=>tyV K T x H1 ∧ t σ H1 fun xs H2=>r x xs H2 Q
variable {o e:Expr} {es:List Expr} {to:TE} {t:TA} {name:Str} {apos cpos:Pos} {T id:String} {r:V → List V → Hp → VK → Prop}
theorem pe_bm0 (pa:PlainAttrs T) (slot:Slot T name id) (hty:typeOf (.builtin id) = pure (.type "method_descriptor")) (hm:MtR X id r) (ho:PE X o to)
  (hbase:attributeBase o name X.env (eval o X.env) = eval o X.env:=by rfl) (hline:(apos.endLine == cpos.line) = true:=by rfl):PE X (.Call (.Attribute o name apos) [] [] cpos) (tBM0 X.K T r to):=by
 intro pins s σ H Q I h
 refine wpAny_Call_method0_late hbase hline (thn (ho pins s σ H _ I h) fun v s1 ⟨x,H1,I1,r1,ty,q1⟩=>?_)
 obtain ⟨h1,h2⟩:=tyV_is I1 r1 ty
 exact ⟨T,id,pa,slot,hty,h1,h2,Calls.callWith_builtin rfl (PySem.evalArgs_none (hm pins s1 σ H1 x [] v [] Q I1 r1 .nil q1))⟩
theorem pe_bm (pa:PlainAttrs T) (slot:Slot T name id) (hty:typeOf (.builtin id) = pure (.type "method_descriptor")) (hm:MtR X id r) (ho:PE X o to) (ha:PA X (e :: es) t)
  (hbase:attributeBase o name X.env (eval o X.env) = eval o X.env:=by rfl)
  (hfew:((backTo cpos (starEach (e :: es) X.env)).all (fun x=>!x.1) && (backToKw cpos (keywordEach [] X.env)).all (fun x=>x.1.isSome)
   && decide ((e :: es).length + ([]:List Keyword).length + (if ([]:List Keyword).isEmpty then 0 else 1) < 30)) = true:=by rfl)
  (hline:(apos.endLine == cpos.line) = true:=by rfl) (hs:starEach (e :: es) X.env = (false,eval e X.env) :: starEach es X.env:=by rfl) (hplain:(backTo cpos (starEach es X.env)).any (·.1) = false:=by rfl) :
  PE X (.Call (.Attribute o name apos) (e :: es) [] cpos) (tBM X.K T r to t):=by
 intro pins s σ H Q I h
 refine wpAny_Call_method_late hbase hfew hline rfl (thn (ho pins s σ H _ I h) fun v s1 ⟨x,H1,I1,r1,ty,q1⟩=>?_)
 obtain ⟨h1,h2⟩:=tyV_is I1 r1 ty
 refine ⟨T,id,pa,slot,hty,h1,h2,?_⟩
 have hA:=ha cpos pins s1 σ H1 _ I1 q1
 rw [hs] at hA ⊢
 refine Calls.callWith_builtin (by show (false || (backTo cpos (starEach es X.env)).any (·.1)) = false; rw [hplain] <;> rfl) (Calls.evalArgs_plain ?_)
 exact thn hA fun us s2 ⟨vs,H2,I2,r2,q2⟩=>hm pins s2 σ H2 x vs v us Q I2 r1 r2 q2
end
end L2
namespace L2
open PySem PySem.Spec PyProof.Rows
noncomputable def MtM (X:Cx) (id:String) (r:V → List V → Hp → VK → Prop):Prop :=
 ∀ (pins:List (Addr × Obj)) (s:Shared) (σ:St) (H:Hp) (x:V) (xs:List V) (v:Value) (us:List Value) (Q:VK),Inv X pins σ H s → RelV x v → Vals xs us → r x xs H Q →
  wpAny (model X.prog X.w) X.A (call (.builtin id) (v :: us)) (EP X pins σ Q) X.xe s
theorem Vals.one:∀ {x:V} {us:List Value},Vals [x] us → ∃ u,us = [u] ∧ RelV x u
 | _,_,.cons r .nil=>⟨_,rfl,r⟩
theorem Vals.zero:∀ {us:List Value},Vals [] us → us = []
 | _,.nil=>rfl
theorem Vals.dropLast {xs:List V} {us:List Value} (h:Vals xs us):Vals xs.dropLast us.dropLast:=by
 induction h with
 | nil=>exact .nil
 | cons r t ih =>
  cases t with
  | nil=>exact .nil
  | cons q t'=>exact .cons r ih
theorem Vals.rep {xs:List V} {us:List Value} (h:Vals xs us):∀ k:Nat,Vals (List.replicate k xs).flatten (List.replicate k us).flatten
 | 0=>.nil
 | k + 1=>by
  rw [List.replicate_succ,List.replicate_succ,List.flatten_cons,List.flatten_cons]
  exact Vals.append h (Vals.rep h k)
theorem erase_last {α:Type} (l:List α):l.eraseIdx (l.length - 1) = l.dropLast:=by
 induction l with
 | nil=>rfl
 | cons a r ih =>
  cases r with
  | nil=>rfl
  | cons b r =>
   have e:(a :: b :: r).length - 1 = ((b :: r).length - 1) + 1:=by
    have h1:(a :: b :: r).length = r.length + 2:=rfl
    have h2:(b :: r).length = r.length + 1:=rfl
    omega
   rw [e,List.eraseIdx_cons_succ,ih]
   all_goals rfl
theorem foldl_rep (its:List Value):∀ (k:Nat) (acc:List Value),
  List.foldl (fun x1 x2=>x1 ++ x2) acc.toArray (List.replicate k its.toArray) = (acc ++ (List.replicate k its).flatten).toArray
 | 0,acc=>by simp
 | k + 1,acc=>by
  have e:acc.toArray ++ its.toArray = (acc ++ its).toArray:=by simp
  have e2:(acc ++ its) ++ (List.replicate k its).flatten = acc ++ (List.replicate (k + 1) its).flatten:=by
   rw [List.replicate_succ,List.flatten_cons,List.append_assoc]
  rw [← e2,← foldl_rep its k (acc ++ its),← e,List.replicate_succ,List.foldl_cons]
section
variable {X:Cx} {pins:List (Addr × Obj)} {σ:St} {H:Hp} {s:Shared} {l b:Addr} {xs ys zs:List V}
theorem Inv.lset {its its':List Value} {n:Nat} {f:Array Value → Array Value} {t':Nat} (I:Inv X pins σ H s) (hH:H l = some (.lst xs))
  (e:s.heap.get? l = some { cls:=.type "list",data:=.seq its.toArray n }) (hf:f its.toArray = its'.toArray) (hv:Vals ys its') (hz:ys.length ≤ sizeLine) :
  Inv X pins σ (upd H l (.lst ys)) { s with heap:=s.heap.update l (Obj.mapSeq f),toks:=t' }:=by
 have q:=PySem.IsL.update e f
 rw [hf] at q
 refine I.write (x:=l) (e:=l) (by rw [hH]; exact trivial) (.inl rfl) (fun b' u hb hu=>(Heap.get?_update_other s.heap (Obj.mapSeq f) (Ne.symm hb)).trans hu) ⟨_,q⟩ ?_
 exact ⟨hz,its',_,hv,q⟩
theorem Inv.lnew {its:List Value} {t':Nat} (I:Inv X pins σ H s) (hv:Vals ys its) (hz:ys.length ≤ sizeLine) :
  Inv X pins σ (upd H s.heap.objs.size (.lst ys)) { s with heap:=s.heap.push { cls:=.type "list",data:=.seq its.toArray },toks:=t' } :=
 I.laid (fun _ _ q=>Heap.get?_push_of_some _ q) (Nat.le_refl _) ⟨hz,its,0,hv,Heap.get?_push_size _ rfl⟩
theorem Inv.fresh (I:Inv X pins σ H s):H s.heap.objs.size = none:=I.hok.fresh (Nat.le_refl _)
theorem Inv.lstM (I:Inv X pins σ H s) (hH:H l = some (.lst xs)):xs.length ≤ sizeLine ∧ ∃ (its:List Value) (n:Nat),Vals xs its ∧ xs.length = its.length ∧ s.heap.get? l = some { cls:=.type "list",data:=.seq its.toArray n }:=by
 obtain ⟨z,its,n,r,e⟩:=I.hok l _ hH
 exact ⟨z,its,n,r,r.length,e⟩
theorem notLongL {n:Nat} (h:n ≤ sizeLine):Builtin.List.listTooLong n = false:=by
 unfold Builtin.List.listTooLong
 exact decide_eq_false (by omega)
end
section
variable {X:Cx}
noncomputable def rAppend:V → List V → Hp → VK → Prop:=fun x vs H Q=>∃ l xs y,x = .ref l ∧ vs = [y] ∧ H l = some (.lst xs) ∧ xs.length < sizeLine ∧ Q .non (upd H l (.lst (xs ++ [y])))
theorem mt_append:MtM X "list.append" rAppend:=by
 intro pins s σ H x vs v us Q I rx rv h
 obtain ⟨l,xs,y,rfl,rfl,hH,hz,q⟩:=h
 cases rx
 obtain ⟨u,rfl,ru⟩:=rv.one
 obtain ⟨z,its,n,r,hl,e⟩:=I.lstM hH
 refine call_meets F.slot_list_append ⟨_,e,rfl⟩ F.entry_list_append (F.args_list_append_2 _ _) (PySem.list_append l its.toArray n u (by rw [List.size_toArray]; omega)) ⟨e,?_⟩
 refine ⟨.non,_,I.lset (its':=its ++ [u]) hH e (by simp) (r.append (.cons ru .nil)) ?_,rfl,q⟩
 rw [List.length_append,List.length_singleton]
 omega
noncomputable def rExtend:V → List V → Hp → VK → Prop:=fun x vs H Q=>∃ l b xs zs,x = .ref l ∧ vs = [.ref b] ∧ H l = some (.lst xs) ∧ H b = some (.lst zs) ∧ xs.length + zs.length ≤ sizeLine ∧ Q .non (upd H l (.lst (xs ++ zs)))
theorem mt_extend:MtM X "list.extend" rExtend:=by
 intro pins s σ H x vs v us Q I rx rv h
 obtain ⟨l,b,xs,zs,rfl,rfl,hH,hB,hz,q⟩:=h
 cases rx
 obtain ⟨u,rfl,ru⟩:=rv.one
 cases ru
 obtain ⟨z,its,n,r,hl,e⟩:=I.lstM hH
 obtain ⟨z2,its2,n2,r2,hl2,e2⟩:=I.lstM hB
 have hsz:its.toArray.size + its2.toArray.size ≤ sizeLine:=by rw [List.size_toArray,List.size_toArray]; omega
 have hlong:¬ (!its.toArray.isEmpty && Builtin.List.listTooLong (its.toArray.size + its2.toArray.size)) = true:=by
  rw [notLongL hsz,Bool.and_false]
  exact Bool.false_ne_true
 refine call_meets F.slot_list_extend ⟨_,e,rfl⟩ F.entry_list_extend (F.args_list_extend_2 _ _)
  (AutoSeq1.list_extend_list_list_0 l its.toArray n b its2.toArray n2 hlong (by rw [List.size_toArray]; omega) (by omega)) ⟨e,e2,?_⟩
 refine ⟨.non,_,I.lset (its':=its ++ its2) hH e (by simp) (r.append r2) ?_,rfl,q⟩
 rw [List.length_append]
 omega
noncomputable def rPop:V → List V → Hp → VK → Prop:=fun x vs H Q=>∃ l xs y,x = .ref l ∧ vs = [] ∧ H l = some (.lst xs) ∧ xs[xs.length - 1]? = some y ∧ Q y (upd H l (.lst xs.dropLast))
theorem mt_pop:MtM X "list.pop" rPop:=by
 intro pins s σ H x vs v us Q I rx rv h
 obtain ⟨l,xs,y,rfl,rfl,hH,hy,q⟩:=h
 cases rx
 have hus:=rv.zero
 subst hus
 obtain ⟨z,its,n,r,hl,e⟩:=I.lstM hH
 obtain ⟨u,hu,ru⟩:=r.get hy
 have hy':its.toArray[its.toArray.size - 1]? = some u:=by
  show its.toArray[its.length - 1]? = some u
  rw [← Array.getElem?_toList,← hl]
  exact hu
 refine call_meets F.slot_list_pop ⟨_,e,rfl⟩ F.entry_list_pop (F.args_list_pop_1 _) (MeetsSeq.list_pop_last l its.toArray n u hy' (by rw [List.size_toArray]; omega)) ⟨e,?_⟩
 refine ⟨y,_,I.lset (its':=its.dropLast) hH e ?_ r.dropLast ?_,ru,q⟩
 ·show its.toArray.eraseIdxIfInBounds (its.toArray.size - 1) = its.dropLast.toArray
  rw [List.size_toArray,List.eraseIdxIfInBounds_toArray,erase_last]
 ·rw [List.length_dropLast]
  omega
noncomputable def rCat:R2:=fun x y H Q=>∃ l b xs zs,x = .ref l ∧ y = .ref b ∧ H l = some (.lst xs) ∧ H b = some (.lst zs) ∧ xs.length + zs.length ≤ sizeLine ∧ ∀ p,H p = none → Q (.ref p) (upd H p (.lst (xs ++ zs)))
theorem op_cat:OpR X (binaryOp .Add) rCat:=by
 intro pins s σ H x y v u Q I rx ry h
 obtain ⟨l,b,xs,zs,rfl,rfl,hH,hB,hz,q⟩:=h
 cases rx
 cases ry
 obtain ⟨z,its,n,r,hl,e⟩:=I.lstM hH
 obtain ⟨z2,its2,n2,r2,hl2,e2⟩:=I.lstM hB
 refine PySem.P.add_list e e2 ?_ (by rw [List.size_toArray,List.size_toArray]; omega)
 have ea:its.toArray ++ its2.toArray = (its ++ its2).toArray:=by simp
 rw [ea]
 exact ⟨.ref _,_,I.lnew (t':=s.toks) (r.append r2) (by rw [List.length_append]; omega),rfl,q _ I.fresh⟩
noncomputable def rRep:R2:=fun x y H Q=>∃ l k xs,x = .ref l ∧ y = .int k ∧ H l = some (.lst xs) ∧ -(2 ^ 63) ≤ k ∧ k < 2 ^ 63 ∧ xs.length * k.toNat ≤ sizeLine ∧
 ∀ p,H p = none → Q (.ref p) (upd H p (.lst (List.replicate k.toNat xs).flatten))
theorem len_rep {α:Type} (xs:List α) (k:Nat):(List.replicate k xs).flatten.length = k * xs.length:=by
 induction k with
 | zero=>simp
 | succ k ih=>rw [List.replicate_succ,List.flatten_cons,List.length_append,ih,Nat.succ_mul,Nat.add_comm]
theorem op_rep:OpR X (binaryOp .Mult) rRep:=by
 intro pins s σ H x y v u Q I rx ry h
 obtain ⟨l,k,xs,rfl,rfl,hH,h1,h2,hz,q⟩:=h
 cases rx
 obtain ⟨t,rfl⟩:=ry
 obtain ⟨z,its,n,r,hl,e⟩:=I.lstM hH
 have hlen:its.toArray.size * k.toNat ≤ sizeLine:=by rw [List.size_toArray,← hl]; exact hz
 have hcap:¬ its.toArray.size * k.toNat > (2 ^ 63 - 1) / 8:=by
  have:(sizeLine:Nat) ≤ (2 ^ 63 - 1) / 8:=by decide
  omega
 have hfit:¬ (!Builtin.List.listFitsIndex k) = true:=by
  rw [fitsIndex_both h1 h2]
  exact Bool.false_ne_true
 have hlong:¬ Builtin.List.listTooLong (its.toArray.size * k.toNat) = true:=by
  rw [notLongL hlen]
  exact Bool.false_ne_true
 have hnew:List.foldl (fun x1 x2=>x1 ++ x2) #[] (List.replicate (if its.toArray.isEmpty = true then 0 else k.toNat) its.toArray) = (List.replicate k.toNat its).flatten.toArray:=by
  have f0:∀ m:Nat,List.foldl (fun x1 x2=>x1 ++ x2) #[] (List.replicate m its.toArray) = (List.replicate m its).flatten.toArray:=fun m=>by
   have:=foldl_rep its m []
   rw [List.nil_append] at this
   exact this
  rw [f0]
  cases its with
  | nil=>simp
  | cons a r'=>rw [if_neg (by simp)]
 refine wpAny_binaryOp_repeat_ref (T:="list") (U:="int") (by decide) ⟨_,e,rfl⟩ (fun s'=>typeIs_int s' k t) noFill_list_mul F.fills_int_mul F.slot_int_rmul repeat_list F.slot_int_index.lookup
  (call_meets F.slot_int_rmul (typeIs_int s k t) F.entry_int_rmul (F.args_int_rmul_2 _ _) (int___rmul___int_list k t l its.toArray n)
   ⟨e,rfl,⟨_,e,rfl⟩,call_meets F.slot_list_mul ⟨_,e,rfl⟩ F.entry_list_mul (F.args_list_mul_2 _ _) (AutoListH.list___mul___list_int_3 l its.toArray n k t hfit hcap hlong) ⟨e,?_⟩⟩)
 rw [hnew]
 exact ⟨.ref _,_,I.lnew (t':=s.toks) (r.rep k.toNat) (by rw [len_rep,Nat.mul_comm]; exact hz),rfl,q _ I.fresh⟩
end
end L2
namespace Att
open PySem PySem.W PySem.Calls PyProof.Rows
theorem ints_of_wellAll {P:Params} {h:Heap}:∀ (ns:List Int) (vs:List Value),WellAll P h vs (ns.map WData.int) → IntsAre vs ns:=by
 intro ns
 induction ns with
 | nil =>
  intro vs w
  rw [List.map_nil] at w
  cases w
  exact .nil
 | cons n ns ih =>
  intro vs w
  rw [List.map_cons] at w
  cases w with
  | cons a b =>
   cases a
   exact .cons _ _ (ih _ b)
theorem script_of {l:OpenLaw} {n:Nat} (hn:l.most = some n) {P:Params} {h:Heap} {args:List WData} {vals:List Value}
  (hpre:l.row.toRowW.claim.pre args = true) (hwl:WellAll P h vals args) :
  ∃ a vs ns,vals = [Value.ref a] ∧ args = [WData.list (ns.map WData.int)] ∧ h.get? a = some { cls:=.type "list",data:=.seq vs.toArray } ∧ IntsAre vs ns ∧ ns.length ≤ n:=by
 have hsh:WShape.hasAll [] args [.list .int] = true:=(pre_splitW hpre).1
 have hc:l.pre.holds [] { args:=args } = true:=(pre_splitW hpre).2
 obtain ⟨d,r,rfl,h1,h2⟩:=hasAllW_cons hsh
 obtain rfl:=hasAllW_nil h2
 obtain ⟨xs,rfl,h3⟩:=hasW_list h1
 obtain ⟨ns,rfl⟩:=items_int h3
 have hlen:ns.length ≤ n:=by
  unfold OpenLaw.pre at hc
  have h4:(WTm.not (.lt (.lit (.int (n:Int))) (.len (.arg 0)))).holds [] { args:=[.list (ns.map .int)] } = true:=by
   have h4:=(holds_andW hc).1
   rw [hn] at h4
   exact h4
  have h5:=condW_of h4 (w_not (w_lt w_lit (w_len_list (w_arg rfl))))
  rw [List.length_map] at h5
  refine Nat.le_of_not_lt fun q=>?_
  have q':(n:Int) < ((ns.length:Nat):Int):=by omega
  first
   | (rw [decide_eq_true q'] at h5; exact absurd h5 (by decide))
   | (simp at h5; omega)
 cases hwl with
 | cons w1 w2 =>
  cases w2
  cases w1 with
  | list ho hall=>exact ⟨_,_,ns,rfl,rfl,ho,ints_of_wellAll ns _ hall,hlen⟩
theorem post_true (l:OpenLaw) (args:List WData):l.row.toRowW.claim.post args (.bool true) args = true :=
 postW_of (r:=l.row.toRowW) (X:=(true == true))
  (show WShape.has [] (.bool true) .bool = true by first | rfl | decide | simp [WShape.has,WShape.arms,WShape.armsAll])
  (show (WTm.eq .res (.lit (.bool true))).value [] { args:=args,res:=some (.bool true),after:=args } = some (.bool (true == true)) from w_eq_bool (w_res rfl) w_lit) rfl
theorem attach_call {l:OpenLaw} {n:Nat} {q:Program} {loose:List Str} {XP:(Str → Option Value) → Heap → Prop} {YP:World → Heap → Prop} {d:DefRec}
  (hn:l.most = some n) (hdf:d.params.defaults = [])
  (call:∀ (w:World) (s₀ s₁:Shared) (mg mb:Str → Option Value) (fa:Addr) (o:Obj) (pm cd doc:Value) (a:Addr) (vs:List Value) (ns:List Int),
   Ground q loose [] XP w s₀ mg mb s₁.heap → YP w s₁.heap →
   s₁.heap.get? fa = some o → o.data = .func (docDef d.name d.params d.body d.scope pm cd doc) → s₁.heap.CodeRec cd d.name → mg d.name = some (.ref fa) →
   s₁.heap.get? a = some { cls:=.type "list",data:=.seq vs.toArray } → IntsAre vs ns → ns.length ≤ n → s₁.gens = #[] →
   codeAny (model l.prog w) callerA (.call (.ref fa) ⟨[.ref a],[]⟩) (fun r s'=>r = .ok (.ret (.bool true)) ∧ OldK s₁.heap s'.heap ∧ s'.os = s₁.os ∧ AllBare s'.gens) s₁) :
  WalkO q loose XP YP l.row.toRowW d [] (fun f vs=>PySem.call f vs):=by
 intro w s₀ s₁ mg mb G Y fa o pm cd doc dV kV ho hd hcd hD hmg hg args vals as hpre hlay hrd hwl hlo
 obtain rfl:dV = .none:=Dflts.none hD hdf
 obtain rfl:kV = .none:=Dflts.noKw hD
 obtain ⟨a,vs,ns,rfl,rfl,hobj,hints,hlen⟩:=script_of hn hpre hwl
 refine enter_call (codeAny_mono (call w s₀ s₁ mg mb fa o pm cd doc a vs ns G Y ho (fd_plain hd) hcd hmg hobj hints hlen hg) fun r s' hq=>?_)
 obtain ⟨rfl,h2,h3,h4⟩:=hq
 exact ⟨.inl ⟨.bool true,.bool true,[],rfl,fun _=>rfl,.bool true,post_true l _,fun _=>⟨List.Pairwise.nil,fun _ hm=>(nomatch hm)⟩⟩,h2,h3,h4⟩
end Att
namespace L2
open PySem PySem.Spec PyProof.Rows
theorem vals_ints:∀ {vs:List Value} {ns:List Int},IntsAre vs ns → Vals (ns.map V.int) vs
 | _,_,.nil=>.nil
 | _,_,.cons n t h=>.cons ⟨t,rfl⟩ (vals_ints h)
end L2
namespace L2
open PySem PySem.Spec PyProof.Rows
noncomputable def defArgs (s:Stmt):Arguments:=match s with
 | .FunctionDef _ a _ _ _ _ _ _ _ _=>a
 | _=>{ posonlyargs:=[],args:=[],vararg:=none,kwonlyargs:=[],kw_defaults:=[],kwarg:=none,defaults:=[] }
noncomputable def defBody (s:Stmt):List Stmt:=match s with
 | .FunctionDef _ _ b _ _ _ _ _ _ _=>b
 | _=>[]
noncomputable def defScope (s:Stmt):Scope:=match s with
 | .FunctionDef _ _ _ _ _ _ sc _ _ _=>sc
 | _=>{ kind:=.function,names:=[],isGenerator:=false,isCoroutine:=false }
noncomputable abbrev CX0:CXT:=fun _ _ _ _ _ _=>False
noncomputable abbrev E0:XK:=fun _ _ _=>False
theorem pass0 {X:Cx}:Passes CX0 X E0:=fun _ _ _ _ _ _ _ h=>h.elim
structure Fun (K:PySem.W.Frag) (x qual:Str) (st:Stmt) (f:Addr) (fd:FuncData):Prop where
 ex:∃ (oc:Value) (od:Option Addr) (kV doc pm:Value) (an:Option Addr) (cdv ct:Value) (osl:Array (Option Value)),
  fd = PySem.W.fnOf x qual (defArgs st) (defBody st) (defScope st) .none kV doc pm an cdv ct ∧ K.lookup f = some ⟨oc,od,.func fd,osl⟩ ∧ PySem.W.codeIn K cdv qual = true
 kp:PySem.W.keepIn K (.ref f) = true
section
variable {P:Program} {w:World} {K:PySem.W.Frag} {mg:Str → Option Value} {base:Heap}
theorem Fun.ok {x qual:Str} {st:Stmt} {f:Addr} {fd:FuncData} {N ps:List Str} {k:Nat} {sp:Sp} (F:Fun K x qual st f fd) (S:FnScope N ps (defScope st)) (len:∀ vs H Q E,sp vs H Q E → vs.length = ps.length)
  (hbody:∀ (cdv:Value) (A:Around) (outer:List Env) (s:Shared) (H:Hp) (vs:List V) (Q:VK) (E:XK),Room k (A.deeper (envOfC qual (defScope st) s.heap.objs.size f cdv)) → sp vs H Q E →
   ∃ t,PSs (cxOf CX0 P w K mg base N qual (defScope st) f cdv A outer s H E).nox (defBody st) t ∧ t { nx:=fun _ H'=>Q .non H',rt:=Q } (start N vs) H):FnOk P w K mg base CX0 (k + 1) f fd ps sp:=by
 obtain ⟨oc,od,kV,doc,pm,an,cdv,ct,osl,rfl,lk,hcd⟩:=F.ex
 refine fn_of lk hcd S len fun A outer s H vs Q E hr hsp=>?_
 obtain ⟨t,h,q⟩:=hbody cdv A outer s H vs Q E hr hsp
 exact ⟨t,h.nox,q⟩
theorem Fun.binds {x qual:Str} {st:Stmt} {f:Addr} {fd:FuncData} {ps:List Str} (F:Fun K x qual st f fd)
  (h:∀ (kV doc pm:Value) (an:Option Addr) (cdv ct:Value) (us:List Value),us.length = ps.length → bindArgs (PySem.W.fnOf x qual (defArgs st) (defBody st) (defScope st) .none kV doc pm an cdv ct) ⟨us,[]⟩ = pure (ps.zip us)):Binds K fd ps []:=by
 obtain ⟨oc,od,kV,doc,pm,an,cdv,ct,osl,rfl,lk,hcd⟩:=F.ex
 exact .all (h kV doc pm an cdv ct)
theorem fun_mk {x qual:Str} {st:Stmt} {f:Addr} {oc:Value} {od an:Option Addr} {osl:Array (Option Value)} {kV doc pm cdv ct:Value} (l:K.lookup f = some ⟨oc,od,.func (PySem.W.fnOf x qual (defArgs st) (defBody st) (defScope st) .none kV doc pm an cdv ct),osl⟩)
  (c:PySem.W.codeIn K cdv qual = true) (k:PySem.W.keepIn K (.ref f) = true):Fun K x qual st f (PySem.W.fnOf x qual (defArgs st) (defBody st) (defScope st) .none kV doc pm an cdv ct):=⟨⟨oc,od,kV,doc,pm,an,cdv,ct,osl,rfl,l,c⟩,k⟩
end
section
variable {X:Cx}
theorem pv (i:Nat) {x:Str} {pos:Pos} (hN:X.N[i]? = some x:=by rfl) (hv:Vis X.env.scope x:=by first | exact Or.inl rfl | exact Or.inr (Or.inl rfl) | exact Or.inr (Or.inr rfl)) (hd:(x == ("__debug__":Str)) = false:=by decide)
  (hcd:(x == ("__classdict__":Str)) = false:=by decide):PE X (.Name x pos) (tVar i):=pe_var hN hv hd hcd
end
noncomputable def Same (H H':Hp):Prop:=∀ b o,H b = some o → H' b = some o
theorem Same.refl (H:Hp):Same H H:=fun _ _ h=>h
end L2
set_option Elab.async false
set_option linter.all false
set_option maxRecDepth 100000
set_option maxHeartbeats 4000000
namespace L2
open PySem PySem.Spec PyProof.Rows
noncomputable def cloOf (cells:List (Str × Addr)):List (Str × NameKind) → List (Str × Addr) → List (Str × Addr)
 | [],acc=>acc
 | (n,k) :: r,acc=>if k == .free then cloOf cells r ((n,(cells.lookup n).getD 0) :: acc) else cloOf cells r acc
theorem closureFor_of {scope:Scope} {env:Env} (h:∀ x ∈ scope.names,x.2 = .free → ∃ c,env.cells.lookup x.1 = some c):closureFor scope env = pure (cloOf env.cells scope.names []):=by
 have go:∀ (names:List (Str × NameKind)) (acc:List (Str × Addr)),(∀ x ∈ names,x.2 = .free → ∃ c,env.cells.lookup x.1 = some c) →
   (forIn names acc fun (x:Str × NameKind) (cs:List (Str × Addr))=>if (x.2 == NameKind.free) = true then (do let c ← cellOf env x.1; pure (ForInStep.yield ((x.1,c) :: cs))) else (pure (ForInStep.yield cs):Sem _)) = (pure (cloOf env.cells names acc):Sem _):=by
  intro names
  induction names with
  | nil=>intro acc _; rfl
  | cons x r ih =>
   intro acc hx
   obtain ⟨n,k⟩:=x
   rw [List.forIn_cons]
   have hr:=fun acc=>ih acc fun y hy=>hx y (List.mem_cons_of_mem _ hy)
   unfold cloOf
   by_cases hk:(k == NameKind.free) = true
   ·obtain ⟨c,hc⟩:=hx (n,k) List.mem_cons_self (by simpa using hk)
    have hc':env.cells.lookup n = some c:=hc
    have e:cellOf env n = pure c:=by unfold cellOf; rw [hc']
    simp only [hk,if_true,e,hc',Option.getD_some,pure_bind]
    exact hr _
   ·simp only [hk,if_false,pure_bind]
    exact hr _
 unfold closureFor
 have:=go scope.names [] h
 simp only [bind_pure]
 exact this
theorem clo_lookup {cells:List (Str × Addr)} {x:Str} {c:Addr}:∀ (names:List (Str × NameKind)) (acc:List (Str × Addr)),(cloOf cells names acc).lookup x = some c → ((x,NameKind.free) ∈ names ∧ c = (cells.lookup x).getD 0) ∨ acc.lookup x = some c
 | [],acc,h=>.inr h
 | (n,k) :: r,acc,h=>by
  unfold cloOf at h
  by_cases hk:(k == NameKind.free) = true
  ·rw [if_pos hk] at h
   have hk':k = .free:=by simpa using hk
   subst hk'
   rcases clo_lookup r _ h with ⟨a,b⟩ | h'
   ·exact .inl ⟨List.mem_cons_of_mem _ a,b⟩
   ·clear h
    rw [List.lookup_cons] at h'
    cases e:x == n with
    | true =>
         rw [e] at h'; have q:x = n:=by simpa using e
         subst q
         have q2:(cells.lookup x).getD 0 = c:=Option.some.inj h'
         exact .inl ⟨List.mem_cons_self,q2.symm⟩
    | false=>rw [e] at h'; exact .inr h'
  ·rw [if_neg hk] at h
   rcases clo_lookup r _ h with ⟨a,b⟩ | h
   ·exact .inl ⟨List.mem_cons_of_mem _ a,b⟩
   ·exact .inr h
theorem clo_some {cells:List (Str × Addr)} {x:Str}:∀ (names:List (Str × NameKind)) (acc:List (Str × Addr)),((x,NameKind.free) ∈ names ∨ (acc.lookup x).isSome = true) → ((cloOf cells names acc).lookup x).isSome = true
 | [],acc,h=>h.elim (fun z=>nomatch z) id
 | (n,k) :: r,acc,h=>by
  unfold cloOf
  by_cases hk:(k == NameKind.free) = true
  ·rw [if_pos hk]
   refine clo_some r _ ?_
   by_cases e:x = n
   ·subst e; exact .inr (by simp)
   ·rcases h with h | h
    ·rcases List.mem_cons.mp h with h | h
     ·cases h; exact absurd rfl e
     ·exact .inl h
    ·refine .inr ?_
     rw [List.lookup_cons]
     have:(x == n) = false:=by simpa using e
     rw [this]; exact h
  ·rw [if_neg hk]
   refine clo_some r _ ?_
   rcases h with h | h
   ·rcases List.mem_cons.mp h with h | h
    ·cases h; exact absurd rfl hk
    ·exact .inl h
   ·exact .inr h
theorem cf_lookup {x:Str} {c:Addr}:∀ (names:List (Str × NameKind)) (n:Nat) (acc:List (Str × Addr)),(cellsFrom n names acc).lookup x = some c → (n ≤ c ∧ (x,NameKind.cell) ∈ names) ∨ acc.lookup x = some c
 | [],_,acc,h=>.inr h
 | (y,k) :: r,n,acc,h=>by
  unfold cellsFrom at h
  by_cases hk:(k == NameKind.cell) = true
  ·rw [if_pos hk] at h
   have hk':k = .cell:=by simpa using hk
   subst hk'
   rcases cf_lookup r _ _ h with ⟨a,b⟩ | h'
   ·exact .inl ⟨by omega,List.mem_cons_of_mem _ b⟩
   ·clear h
    rw [List.lookup_cons] at h'
    cases e:x == y with
    | true =>
         rw [e] at h'; have q:x = y:=by simpa using e
         have q2:n = c:=Option.some.inj h'
         subst q q2; exact .inl ⟨Nat.le_refl _,List.mem_cons_self⟩
    | false=>rw [e] at h'; exact .inr h'
  ·rw [if_neg hk] at h
   rcases cf_lookup r _ _ h with ⟨a,b⟩ | h
   ·exact .inl ⟨a,List.mem_cons_of_mem _ b⟩
   ·exact .inr h
theorem cf_mem {x:Str} {c:Addr}:∀ (names:List (Str × NameKind)) (n:Nat) (acc:List (Str × Addr)),(x,c) ∈ cellsFrom n names acc → n ≤ c ∨ (x,c) ∈ acc
 | [],_,acc,h=>.inr h
 | (y,k) :: r,n,acc,h=>by
  unfold cellsFrom at h
  by_cases hk:(k == NameKind.cell) = true
  ·rw [if_pos hk] at h
   rcases cf_mem r _ _ h with a | h
   ·exact .inl (by omega)
   ·rcases List.mem_cons.mp h with h | h
    ·cases h; exact .inl (Nat.le_refl _)
    ·exact .inr h
  ·rw [if_neg hk] at h
   exact cf_mem r _ _ h
theorem cf_inj {x y:Str} {c:Addr}:∀ (names:List (Str × NameKind)) (n:Nat) (acc:List (Str × Addr)),(∀ p ∈ acc,p.2 < n) → n ≤ c → (x,c) ∈ cellsFrom n names acc → (y,c) ∈ cellsFrom n names acc → x = y
 | [],n,acc,ha,hc,h1,_=>by have q:c < n:=ha _ h1; exact absurd (Nat.lt_of_lt_of_le q hc) (Nat.lt_irrefl _)
 | (z,k) :: r,n,acc,ha,hc,h1,h2=>by
  unfold cellsFrom at h1 h2
  by_cases hk:(k == NameKind.cell) = true
  ·rw [if_pos hk] at h1 h2
   have ha':∀ p ∈ (z,n) :: acc,p.2 < n + 1:=fun p hp=>by
    rcases List.mem_cons.mp hp with h | h
    ·subst h; exact Nat.lt_succ_self _
    ·exact Nat.lt_succ_of_lt (ha p h)
   by_cases hcn:n + 1 ≤ c
   ·exact cf_inj r _ _ ha' hcn h1 h2
   ·have hcn':c = n:=Nat.le_antisymm (Nat.not_lt.mp hcn) hc
    subst hcn'
    have g:∀ w,(w,c) ∈ cellsFrom (c + 1) r ((z,c) :: acc) → w = z:=fun w hw=>by
     rcases cf_mem r _ _ hw with a | a
     ·exact absurd a (Nat.not_succ_le_self _)
     ·rcases List.mem_cons.mp a with a | a
      ·cases a; rfl
      ·have:=ha _ a; exact absurd this (Nat.lt_irrefl _)
    rw [g x h1,g y h2]
  ·rw [if_neg hk] at h1 h2
   exact cf_inj r _ _ ha hc h1 h2
theorem cf_cell {x:Str} {c:Addr}:∀ (names:List (Str × NameKind)) (h:Heap) (acc:List (Str × Addr)),(∀ p ∈ acc,∃ v,h.IsCell p.2 v) → (x,c) ∈ cellsFrom h.objs.size names acc → ∃ v,(pushCells h names).IsCell c v
 | [],_,acc,ha,hm=>ha _ hm
 | (z,k) :: r,h,acc,ha,hm=>by
  unfold cellsFrom at hm
  unfold pushCells
  by_cases hk:(k == NameKind.cell) = true
  ·rw [if_pos hk] at hm ⊢
   refine cf_cell r (h.push { cls:=.type "cell",data:=.cell none }) ((z,h.objs.size) :: acc) (fun p hp=>?_) (by rw [Heap.size_push]; exact hm)
   rcases List.mem_cons.mp hp with e | e
   ·subst e; exact ⟨none,_,Heap.get?_push_size _ rfl,rfl⟩
   ·obtain ⟨v,q⟩:=ha p e
    exact ⟨v,q.keeps fun b o e=>Heap.get?_push_of_some _ e⟩
  ·rw [if_neg hk] at hm ⊢
   exact cf_cell r h acc ha hm
theorem newEnv_comp {M:Model} {A:Around} {E:Value → Shared → Prop} {s:Shared} {scope:Scope} {globals:Addr} {cl:List (Str × Addr)} {qual:Str} {env:Env} {Q:Env → Shared → Prop}
  (hQ:Q (newEnv scope s.heap.objs.size globals (cellsFrom (s.heap.objs.size + 1) scope.names cl) qual none .none (some env) builtinsNs) { s with heap:=pushCells (s.heap.push { cls:=.type "dict",data:=.dict #[] }) scope.names }) :
  wpAny M A (newFunctionEnv scope globals cl [] qual none .none (some env)) Q E s:=by
 simp only [newFunctionEnv,Option.isSome_some,if_true]
 refine wpAny_bind (wpAny_alloc ?_)
 refine wpAny_bind (wpAny_layCells _ (fun name kind cells=>by cases hkc:kind == NameKind.cell <;> simp [hkc]) _ _ _ _ ?_)
 rw [show ({ s with heap:=s.heap.push { cls:=.type "dict",data:=.dict #[] } }:Shared).heap.objs.size = s.heap.objs.size + 1 from Heap.size_push ..]
 refine wpAny_bind ?_
 rw [List.forIn_nil]
 exact wpAny_pure (wpAny_pure hQ)
end L2
set_option Elab.async false
set_option linter.all false
set_option maxRecDepth 100000
set_option maxHeartbeats 4000000
namespace L2
open PySem PySem.Spec PyProof.Rows
noncomputable def compOk (N N':List Str) (ix:List (Option Nat)) (outer names:List (Str × NameKind)):Bool :=
 decide (N'.length = ix.length) && ((N'.zip ix).all fun p=>match p.2 with | none=>true | some j=>decide (N[j]? = some p.1) && names.contains (p.1,NameKind.free)) &&
 (names.all fun p=>(p.2 != .free || outer.lookup p.1 == some .cell || outer.lookup p.1 == some .free) && (p.2 != .local || names.lookup p.1 == some .local) && (p.2 != .cell || names.lookup p.1 == some .cell) && (p.2 != .free || names.lookup p.1 == some .free))
noncomputable def frm (ix:List (Option Nat)) (σ:St):St:=ix.map fun o=>o.bind fun j=>(σ[j]?).join
noncomputable def cxC (X:Cx) (N:List Str) (scope:Scope) (C:Addr) (cs:List (Str × Addr)) (s:Shared) (H:Hp) (ex:List Addr):Cx where
 prog:=X.prog
 w:=X.w
 K:=X.K
 mg:=X.mg
 base:=X.base
 A:=X.A
 N:=N
 s₀:=s
 H₀:=H
 env:=compEnvC scope cs C X.env
 outer:=X.stack
 stack:=X.stack
 ex:=ex
 fn:=fun x=>scope.names.lookup x == some .cell
 calm:=X.calm
 pn:=[]
 xe:=fun _ _=>False
structure CompOk (X:Cx) (N':List Str) (ix:List (Option Nat)) (scope:Scope):Prop where
 kind:scope.kind = .function
 ok:compOk X.N N' ix X.env.scope.names scope.names = true
section
variable {X:Cx} {N':List Str} {ix:List (Option Nat)} {scope:Scope}
theorem CompOk.len (S:CompOk X N' ix scope):N'.length = ix.length:=by
 have h:=S.ok; unfold compOk at h; simp only [Bool.and_eq_true,decide_eq_true_eq] at h; exact h.1.1
theorem CompOk.name (S:CompOk X N' ix scope) {p:Str × NameKind} (hp:p ∈ scope.names) :
  (p.2 = .free → X.env.scope.names.lookup p.1 = some .cell ∨ X.env.scope.names.lookup p.1 = some .free) ∧ (p.2 = .local → scope.names.lookup p.1 = some .local) ∧ (p.2 = .cell → scope.names.lookup p.1 = some .cell) ∧ (p.2 = .free → scope.names.lookup p.1 = some .free):=by
 have h:=S.ok; unfold compOk at h; simp only [Bool.and_eq_true] at h
 have q:=List.all_eq_true.mp h.2 p hp
 simp only [Bool.and_eq_true,Bool.or_eq_true,bne_iff_ne,beq_iff_eq,ne_eq] at q
 obtain ⟨⟨⟨a,b⟩,c⟩,d⟩:=q
 refine ⟨fun e=>?_,fun e=>?_,fun e=>?_,fun e=>?_⟩
 ·rcases a with (a | a) | a
  ·exact absurd e a
  ·exact .inl a
  ·exact .inr a
 ·exact b.resolve_left fun z=>z e
 ·exact c.resolve_left fun z=>z e
 ·exact d.resolve_left fun z=>z e
theorem CompOk.at (S:CompOk X N' ix scope) {i j:Nat} {x:Str} (h1:N'[i]? = some x) (h2:ix[i]? = some (some j)):X.N[j]? = some x ∧ (x,NameKind.free) ∈ scope.names:=by
 have h:=S.ok; unfold compOk at h; simp only [Bool.and_eq_true] at h
 have hz:(x,some j) ∈ N'.zip ix:=by
  have:(N'.zip ix)[i]? = some (x,some j):=by rw [List.getElem?_zip_eq_some]; exact ⟨h1,h2⟩
  exact List.mem_of_getElem? this
 have q:=List.all_eq_true.mp h.1.2 _ hz
 simp only [Bool.and_eq_true,decide_eq_true_eq,List.contains_iff_mem] at q
 exact q
theorem frm_at {σ:St} {i:Nat} {v:V} (h:(frm ix σ)[i]? = some (some v)):∃ j,ix[i]? = some (some j) ∧ σ[j]? = some (some v):=by
 unfold frm at h
 rw [List.getElem?_map] at h
 cases e:ix[i]? with
 | none=>rw [e] at h; cases h
 | some o =>
  rw [e] at h
  cases o with
  | none=>cases h
  | some j =>
   have h':(σ[j]?).join = some v:=Option.some.inj h
   refine ⟨j,rfl,?_⟩
   cases e2:σ[j]? with
   | none=>rw [e2] at h'; cases h'
   | some w=>rw [e2] at h'; rw [show w = some v from h']
theorem lookup_relabel {env:Env}:∀ (names:List (Str × NameKind)) (x:Str),
  (names.map fun (n,k)=>if (k == NameKind.free && env.scope.kind == .function && env.kindOf n == some .cell) then (n,NameKind.cell) else (n,k)).lookup x =
   match names.lookup x with
   | some .free=>if (env.scope.kind == .function && env.kindOf x == some .cell) then some NameKind.cell else some .free
   | o=>o
 | [],_=>rfl
 | (n,k) :: r,x=>by
  have ih:=lookup_relabel (env:=env) r x
  rw [List.map_cons]
  show List.lookup x ((if (k == NameKind.free && env.scope.kind == .function && env.kindOf n == some .cell) = true then (n,NameKind.cell) else (n,k)) :: _) = _
  cases hx:x == n with
  | true =>
   have e:x = n:=by simpa using hx
   subst e
   simp only [List.lookup_cons,beq_self_eq_true]
   cases k <;> by_cases hc:(env.scope.kind == .function && env.kindOf x == some .cell) = true <;> simp [List.lookup_cons,hc] <;> simp_all
  | false =>
   simp only [List.lookup_cons,hx]
   rw [← ih]
   split <;> simp only [List.lookup_cons,hx]
theorem kindC {cs:List (Str × Addr)} {C:Addr} (x:Str):(compEnvC scope cs C X.env).kindOf x =
   match scope.names.lookup x with
   | some .free=>if (X.env.scope.kind == .function && X.env.kindOf x == some .cell) then some NameKind.cell else some .free
   | o=>o:=lookup_relabel scope.names x
end
theorem inv_comp {X:Cx} {N':List Str} {ix:List (Option Nat)} {scope:Scope} (S:CompOk X N' ix scope) {pins:List (Addr × Obj)} {σ:St} {H:Hp} {s:Shared} {fp:List Addr} {D:Addr} {o:Obj}
  (I:Inv X pins σ H s) (hf:∀ b ∈ fp,FpOk X pins H b) (ho:∀ b ∈ fp,∃ o,s.heap.get? b = some o) (hc:X.calm = true) {h3:Heap} {C:Addr} (hk3:∀ b u,s.heap.get? b = some u → h3.get? b = some u) (hC:C = h3.objs.size) (hs3:s.heap.objs.size ≤ h3.objs.size) {h4:Heap}
  (h4e:h4 = pushCells (h3.push { cls:=.type "dict",data:=.dict #[] }) scope.names) {t4:Nat} :
  Inv (cxC X N' scope C (cellsFrom (C + 1) scope.names (cloOf X.env.cells scope.names [])) s H fp) [] (frm ix σ) H { s with heap:=h4,toks:=t4 }:=by
 have hsz:s.heap.objs.size ≤ C:=by rw [hC]; exact hs3
 have hk4:∀ b u,h3.get? b = some u → h4.get? b = some u:=fun b u e=>by rw [h4e]; exact pushCells_keeps _ _ b u (Heap.get?_push_of_some _ e)
 have hk:∀ b u,s.heap.get? b = some u → h4.get? b = some u:=fun b u e=>hk4 b u (hk3 b u e)
 have hpC:(h3.push { cls:=.type "dict",data:=.dict #[] }).objs.size = C + 1:=by rw [hC,Heap.size_push]
 have clo:∀ x c,(cloOf X.env.cells scope.names []).lookup x = some c → X.env.cells.lookup x = some c:=fun x c h=>by
  rcases clo_lookup scope.names [] h with ⟨hm,e⟩ | h
  ·obtain ⟨c',hc'⟩:=I.ok.has x ((S.name hm).1 rfl)
   rw [hc'] at e ⊢
   rw [e]; rfl
  ·cases h
 have cloM:∀ p ∈ cloOf X.env.cells scope.names [],∃ x,(x,NameKind.free) ∈ scope.names ∧ p.1 = x ∧ X.env.cells.lookup x = some p.2:=by
  have go:∀ (names:List (Str × NameKind)) (acc:List (Str × Addr)),(∀ q ∈ names,q ∈ scope.names) → (∀ p ∈ acc,∃ x,(x,NameKind.free) ∈ scope.names ∧ p.1 = x ∧ X.env.cells.lookup x = some p.2) →
    ∀ p ∈ cloOf X.env.cells names acc,∃ x,(x,NameKind.free) ∈ scope.names ∧ p.1 = x ∧ X.env.cells.lookup x = some p.2:=by
   intro names
   induction names with
   | nil=>intro acc _ ha; exact ha
   | cons q r ih =>
    intro acc hn ha
    obtain ⟨n,k⟩:=q
    unfold cloOf
    by_cases hkf:(k == NameKind.free) = true
    ·rw [if_pos hkf]
     have e:k = .free:=by simpa using hkf
     subst e
     refine ih _ (fun q hq=>hn q (List.mem_cons_of_mem _ hq)) fun p hp=>?_
     rcases List.mem_cons.mp hp with e | hp
     ·subst e
      have hm:=hn (n,.free) List.mem_cons_self
      obtain ⟨c',hc'⟩:=I.ok.has n ((S.name hm).1 rfl)
      refine ⟨n,hm,rfl,?_⟩
      show List.lookup n X.env.cells = some ((X.env.cells.lookup n).getD 0)
      rw [hc']; rfl
     ·exact ha p hp
    ·rw [if_neg hkf]
     exact ih _ (fun q hq=>hn q (List.mem_cons_of_mem _ hq)) ha
  exact go scope.names [] (fun _ h=>h) fun p hp=>nomatch hp
 have cellLt:∀ x c,X.env.cells.lookup x = some c → c < s.heap.objs.size:=fun x c h=>by
  obtain ⟨v,q⟩:=I.cell x c h; exact q.lt
 have split:∀ x c,(cellsFrom (C + 1) scope.names (cloOf X.env.cells scope.names [])).lookup x = some c → (C + 1 ≤ c ∧ (x,NameKind.cell) ∈ scope.names) ∨ X.env.cells.lookup x = some c:=fun x c h=>by
  rcases cf_lookup scope.names _ _ h with h | h
  ·exact .inl h
  ·exact .inr (clo x c h)
 have cells4:∀ x c,(cellsFrom (C + 1) scope.names (cloOf X.env.cells scope.names [])).lookup x = some c → ∃ v,h4.IsCell c v:=fun x c h=>by
  rw [h4e]
  refine cf_cell (x:=x) scope.names _ (cloOf X.env.cells scope.names []) (fun p hp=>?_) (by rw [hpC]; exact PySem.mem_of_lookup h)
  obtain ⟨y,_,_,e⟩:=cloM p hp
  obtain ⟨v,q⟩:=I.cell y p.2 e
  exact ⟨v,q.keeps fun b u e=>Heap.get?_push_of_some _ (hk3 b u e)⟩
 have bLt:∀ b ∈ fp,b < s.heap.objs.size:=fun b hb=>by obtain ⟨u,e⟩:=ho b hb; exact Heap.lt_size e
 have nfree:∀ b,s.heap.objs.size ≤ b → H b = none:=fun b hb=>I.hok.fresh hb
 have HC:C < h4.objs.size:=by
  have:h4.get? C = some { cls:=.type "dict",data:=.dict #[] }:=by
   rw [h4e]; refine pushCells_keeps _ _ _ _ ?_
   rw [hC]; exact Heap.get?_push_size _ rfl
  exact Heap.lt_size this
 refine ⟨⟨I.ok.mod,?_,I.ok.glob,I.ok.blt,hsz,fun x y c h1 h2=>?_,fun x hx=>?_,fun x c hx h=>?_,fun h=>I.ok.hd hc,I.ok.frames,.inl rfl,fun b hb=>⟨?_,fun x c h=>?_⟩,fun b u e=>I.bs b u e,Nat.le_trans I.ok.bsz I.sz,fun b u e hb=>?_,fun b hb hz=>?_,I.stack,I.stkFree⟩,
  rfl,I.bare,Un.kept hk,⟨fun _=>none,?_,fun i x v h1 h2 h3=>?_⟩,cells4,?_,fun x c h=>?_,fun p hp=>absurd (show p ∈ ([]:List (Addr × Obj)) from hp) (by simp),I.hok.kept hk,?_⟩
 ·exact S.kind
 ·-- injective
  have m1:=PySem.mem_of_lookup h1
  have m2:=PySem.mem_of_lookup h2
  rcases split x c h1 with ⟨a,_⟩ | a
  ·exact cf_inj scope.names (C + 1) _ (fun p hp=>by obtain ⟨y,_,_,e⟩:=cloM p hp; exact Nat.lt_succ_of_lt (Nat.lt_of_lt_of_le (cellLt y _ e) hsz)) a m1 m2
  ·rcases split y c h2 with ⟨b,_⟩ | b
   ·exact absurd (Nat.lt_of_lt_of_le (cellLt x c a) (Nat.le_trans hsz (Nat.le_of_succ_le b))) (Nat.lt_irrefl _)
   ·exact I.ok.inj x y c a b
 ·-- has
  have hx':(compEnvC scope (cellsFrom (C + 1) scope.names (cloOf X.env.cells scope.names [])) C X.env).kindOf x = some .cell ∨ (compEnvC scope (cellsFrom (C + 1) scope.names (cloOf X.env.cells scope.names [])) C X.env).kindOf x = some .free:=hx
  rw [kindC] at hx'
  have key:scope.names.lookup x = some .cell ∨ scope.names.lookup x = some .free:=by
   cases e:scope.names.lookup x with
   | none=>rw [e] at hx'; rcases hx' with z | z <;> cases z
   | some k =>
    rw [e] at hx'
    cases k <;> first | exact .inl rfl | exact .inr rfl | (rcases hx' with z | z <;> cases z)
  refine Option.isSome_iff_exists.mp (PySem.W.cellsFrom_some scope.names _ _ ?_)
  rcases key with k | k
  ·exact .inl k
  ·exact .inr (clo_some scope.names [] (.inl (PySem.mem_of_lookup k)))
 ·-- own cells are new
  have hx':(scope.names.lookup x == some NameKind.cell) = true:=hx
  have hx'':scope.names.lookup x = some .cell:=by simpa using hx'
  rcases cf_lookup scope.names _ _ h with ⟨a,_⟩ | a
  ·exact Nat.le_trans hsz (Nat.le_of_succ_le a)
  ·rcases clo_lookup scope.names [] a with ⟨hm,_⟩ | z
   ·have:=(S.name hm).2.2.2 rfl
    rw [hx''] at this; cases this
   ·cases z
 ·exact Nat.ne_of_lt (Nat.lt_of_lt_of_le (bLt b hb) hsz)
 ·rcases split x c h with ⟨a,_⟩ | a
  ·exact Nat.ne_of_gt (Nat.lt_of_lt_of_le (bLt b hb) (Nat.le_trans hsz (Nat.le_of_succ_le a)))
  ·exact (hf b hb).2.2.2.2.1 x c a
 ·rcases (hf b hb).2.2.2.1 with z | z
  ·exact I.ok.noex b u e z
  ·exact absurd (Nat.lt_of_lt_of_le (Heap.lt_size e) (Nat.le_trans I.ok.bsz z)) (Nat.lt_irrefl _)
 ·rcases List.mem_cons.mp (I.stkSub b hz) with e | e
  ·exact (hf b hb).2.1 e
  ·exact (hf b hb).2.2.1 e
 ·-- the block's names
  rw [h4e]
  show (pushCells (h3.push { cls:=.type "dict",data:=.dict #[] }) scope.names).Ns C (fun _=>none)
  rw [hC]
  exact (Heap.Ns.new h3 (.type "dict")).keeps (pushCells_keeps _ _)
 ·obtain ⟨j,e1,e2⟩:=frm_at h2
  obtain ⟨hn,hm⟩:=S.at h1 e1
  have hkx:=(S.name hm).2.2.2 rfl
  have hox:=(S.name hm).1 rfl
  obtain ⟨m,hns,hl⟩:=I.loc
  have vis:Vis X.env.scope x:=by rcases hox with z | z; exact .inr (.inl z); exact .inr (.inr z)
  obtain ⟨u,r,l⟩:=hl j x v hn e2 vis
  refine ⟨u,r,.inr ⟨?_,?_⟩⟩
  ·show (compEnvC scope _ C X.env).kindOf x = some .cell ∨ (compEnvC scope _ C X.env).kindOf x = some .free
   rw [kindC,hkx]
   dsimp only
   split
   ·exact .inl rfl
   ·exact .inr rfl
  ·rcases l with ⟨k,_⟩ | ⟨_,c,hc',hcell⟩
   ·have k':X.env.scope.names.lookup x = some .local:=k
    rcases hox with z | z <;> rw [z] at k' <;> cases k'
   ·have hs:((cellsFrom (C + 1) scope.names (cloOf X.env.cells scope.names [])).lookup x).isSome = true:=PySem.W.cellsFrom_some scope.names _ _ (.inr (clo_some scope.names [] (.inl hm)))
    obtain ⟨c',e'⟩:=Option.isSome_iff_exists.mp hs
    have:c' = c:=by
     rcases split x c' e' with ⟨_,q⟩ | q
     ·have:=(S.name q).2.2.1 rfl
      rw [show scope.names.lookup x = some .free from hkx] at this; cases this
     ·rw [hc'] at q; exact (Option.some.inj q).symm
    subst this
    exact ⟨c',e',hcell.keeps hk⟩
 ·exact nfree C hsz
 ·rcases split x c h with ⟨a,_⟩ | a
  ·exact nfree c (Nat.le_trans hsz (Nat.le_of_succ_le a))
  ·exact I.freeC x c a
 ·show (frm ix σ).length = N'.length
  unfold frm; rw [List.length_map,S.len]
end L2
set_option Elab.async false
set_option linter.all false
set_option maxRecDepth 100000
set_option maxHeartbeats 4000000
namespace L2
open PySem PySem.Spec PyProof.Rows
theorem compLoop_any {prog:Program} {w:World} {A:Around} {R:Result → Shared → Prop} {s:Shared} {elt target iter:Expr} {ifs:List Expr} {scope:Scope} {pos:Pos} {it acc:Value} {env:Env} (I:Nat → Shared → Prop)
  (turn:∀ n s,I n s → wpAny (model prog w) A (pyNext it) (fun r s₁=>match r with
   | none=>R (.ok .next) s₁
   | some v=>wpAny (model prog w) A (letOwnedTupleGo target it v) (fun _ s₁'=>wpAny (model prog w) A (assign target env v) (fun _ s₂ =>
     wpAny (model prog w) A (forIn ifs true fun c r=>if r = true then do let ok ← isTrue c env (eval c env); pure (ForInStep.yield ok) else pure (ForInStep.yield r)) (fun ok s₃ =>
      if ok = true then wpAny (model prog w) A (eval elt env) (fun x s₄ =>
       wpAny (model prog w) A (call (.builtin "list.append") [acc,x]) (fun _ s₅=>∃ m,m < n ∧ I m s₅) (fun _ _=>False) s₄) (fun _ _=>False) s₃
      else ∃ m,m < n ∧ I m s₃) (fun _ _=>False) s₂) (fun _ _=>False) s₁') (fun _ _=>False) s₁) (fun _ _=>False) s)
  (n:Nat) (h:I n s) :
  codeAny (model prog w) A (.compLoop (.ListComp elt [⟨target,iter,ifs,0⟩] scope pos) 0 it acc env) R s:=by
 refine codeAny_loop rfl I (fun n s hI=>?_) n h
 show wpAny _ A ((compTurn (.ListComp elt [⟨target,iter,ifs,0⟩] scope pos) 0 it acc env).onRaise (fun x=>do noteFrame x env; theTreesLotGoes x)) _ _ s
 refine wpAny_noted ?_
 rw [compTurn_list]
 refine wpAny_bind (wpAny_standAt (wpAny_bind (wpAny_mono (turn n s hI) (fun r s₁ h₁=>?_) fun _ _ h'=>h'.elim)))
 cases r with
 | none=>exact wpAny_pure h₁
 | some v =>
  refine wpAny_bind (wpAny_mono h₁ (fun _ s₁' h₁'=>?_) fun _ _ h'=>h'.elim)
  refine wpAny_bind (wpAny_mono h₁' (fun _ s₂ h₂=>wpAny_bind (wpAny_mono h₂ (fun ok s₃ h₃=>?_) fun _ _ h'=>h'.elim)) fun _ _ h'=>h'.elim)
  cases ok with
  | false=>exact wpAny_pure ⟨rfl,h₃⟩
  | true =>
   exact wpAny_bind (wpAny_bind (wpAny_mono h₃ (fun x s₄ h₄=>wpAny_bind (wpAny_mono h₄ (fun _ s₅ h₅=>wpAny_pure (wpAny_pure ⟨rfl,h₅⟩)) fun _ _ h'=>h'.elim)) fun _ _ h'=>h'.elim))
noncomputable def PTs (X:Cx) (ifs:List Expr) (t:TT):Prop :=
 ∀ (pins:List (Addr × Obj)) (s:Shared) (σ:St) (H:Hp) (Q:Bool → Hp → Prop),Inv X pins σ H s → t σ H Q →
  wpAny (model X.prog X.w) X.A (forIn ifs true fun c r=>if r = true then do let ok ← isTrue c X.env (eval c X.env); pure (ForInStep.yield ok) else pure (ForInStep.yield r)) (TP X pins σ Q) X.xe s
noncomputable def tYes:TT:=fun _ H Q=>Q true H
theorem pts_nil {X:Cx}:PTs X [] tYes:=fun _ _ _ H _ I h=>wpAny_tests_nil ⟨H,I,h⟩
theorem pts_one {X:Cx} {c:Expr} {t:TT} (h:PT X c t):PTs X [c] t:=fun pins s σ H Q I hw=>wpAny_tests_one (h pins s σ H Q I hw)
noncomputable def CompW (J:It) (ix:List (Option Nat)) (g:TG) (tc:TT) (te:TE) (σ:St) (H1:Hp) (Q:VK):Prop:=∃ W:Nat → Nat → List V → St → Hp → Prop,(∃ m,W 0 m [] (frm ix σ) H1) ∧
 ∀ i m ys σ' H',W i m ys σ' H' →
  (J.stop i H' ∧ ys.length ≤ sizeLine ∧ ∀ D,H' D = none → Q (.ref D) (upd H' D (.lst ys))) ∨
  (J.go i H' ∧ ys.length < sizeLine ∧ ∃ N:List V → St → Hp → Prop,(∀ ys' σ2 H2,N ys' σ2 H2 → ∃ m',m' < m ∧ W (i + 1) m' ys' σ2 H2) ∧
   ∀ x H2,J.yld i H' x H2 → g x σ' H2 fun σ2 H3=>tc σ2 H3 fun b H4=>if b = true then te σ2 H4 fun v H5=>N (ys ++ [v]) σ2 H5 else N ys σ2 H4)
noncomputable def tComp (wi:TI) (ix:List (Option Nat)) (g:TG) (tc:TT) (te:TE):TE:=fun σ H Q=>wi σ H fun J H1=>CompW J ix g tc te σ H1 Q
theorem HOk.adopt {P:Program} {w:World} {H:Hp} {h:Heap} {a:Addr} {o:HO} (x:HOk P w H h) (hn:H a = none) (new:ObjOk P w (upd H a o) h a o):HOk P w (upd H a o) h:=fun b u e=>by
 by_cases hb:b = a
 ·subst hb; rw [upd_same] at e; cases e; exact new
 ·rw [upd_ne hb] at e
  exact (x b u e).stay (fun c v _ q=>q) (fun c q=>by rw [upd_ne (ne_of_none q hn)]; exact q) fun c xs q=>by rw [upd_ne (ne_of_none q hn)]; exact q
section
variable {X:Cx} {N':List Str} {ix:List (Option Nat)} {scope:Scope} {elt tg iter:Expr} {ifs:List Expr} {pos:Pos} {wi:TI} {g:TG} {tc:TT} {te:TE}
theorem comp_core {use:Option (Value → Sem Unit)} {QQ:Value → Shared → Prop} (S:CompOk X N' ix scope) (hc:X.calm = true) (hi:PI X tg iter wi)
  (hg:∀ C cs s H ex,PG (cxC X N' scope C cs s H ex) tg g) (ht:∀ C cs s H ex,PTs (cxC X N' scope C cs s H ex) ifs tc) (he:∀ C cs s H ex,PE (cxC X N' scope C cs s H ex) elt te)
  {pins:List (Addr × Obj)} {s:Shared} {σ:St} {H:Hp} {Q:VK} (I:Inv X pins σ H s) (hw:tComp wi ix g tc te σ H Q)
  (fin:∀ (D C:Addr) (o:Obj) (H':Hp) (s':Shared),Inv X (pins ++ [(C,o)]) σ H' s' → (∃ m,s'.heap.Ns C m) → (X.s₀.heap.objs.size ≤ C) → (∀ x c,X.env.cells.lookup x = some c → c ≠ C) → (∀ p ∈ X.pn ++ pins,p.1 ≠ C) → Q (.ref D) H' → compPost (model X.prog X.w) X.A X.xe use QQ (.ref D) C (.ok .next) s')
  (hs:∀ x,foldedSetIterable iter X.env x = pure x:=by intro _; rfl) :
  wpAny (model X.prog X.w) X.A (comprehension (.ListComp elt [⟨tg,iter,ifs,0⟩] scope pos) scope X.env (firstIterPos [⟨tg,iter,ifs,0⟩] pos) (newList []) false (eval iter X.env) use) QQ X.xe s:=by
 refine wpAny_comprehension_free (cl:=cloOf X.env.cells scope.names []) rfl hs (closureFor_of fun x hx hk=>I.ok.has x.1 ((S.name hx).1 hk)) S.kind (fun x hx hl=>(S.name hx).2.1 hl) ?_
 refine thn (hi pins s σ H _ I hw) fun v s1 h1=>thn h1 fun itv s2 h2=>?_
 obtain ⟨it,fp,tn,J,H2,e,I2,T,st2,f2,W,⟨m0,w0⟩,turn⟩:=h2
 subst e
 refine wpAny_newObj_type ?_
 refine newEnv_comp ?_
 generalize hH3:s2.heap.push { cls:=.type "list",dict:=none,data:=.seq ([]:List Value).toArray } = h3
 have hD3:h3.get? s2.heap.objs.size = some { cls:=.type "list",dict:=none,data:=.seq ([]:List Value).toArray }:=by rw [← hH3]; exact Heap.get?_push_size _ rfl
 have hk3:∀ b u,s2.heap.get? b = some u → h3.get? b = some u:=fun b u e=>by rw [← hH3]; exact Heap.get?_push_of_some _ e
 have hz3:h3.objs.size = s2.heap.objs.size + 1:=by rw [← hH3,Heap.size_push]
 have ho2:∀ b ∈ fp,∃ o,s2.heap.get? b = some o:=fun b hb=>by obtain ⟨o,e,_⟩:=T.obj _ _ st2 b hb; exact ⟨o,e⟩
 show codeAny (model X.prog X.w) X.A (.compStart (.ListComp elt [⟨tg,iter,ifs,0⟩] scope pos) 0 (.ref it) (.ref s2.heap.objs.size) (compEnvC scope (cellsFrom (h3.objs.size + 1) scope.names (cloOf X.env.cells scope.names [])) h3.objs.size X.env)) (compPost (model X.prog X.w) X.A X.xe use QQ (.ref s2.heap.objs.size) h3.objs.size) { s2 with heap:=pushCells (h3.push { cls:=.type "dict",data:=.dict #[] }) scope.names }
 generalize hD:s2.heap.objs.size = D at hD3 hz3 ⊢
 generalize hC:h3.objs.size = C at hz3 ⊢
 generalize h4e:pushCells (h3.push { cls:=.type "dict",data:=.dict #[] }) scope.names = h4
 have hk4:∀ b u,h3.get? b = some u → h4.get? b = some u:=fun b u e=>by rw [← h4e]; exact pushCells_keeps _ _ b u (Heap.get?_push_of_some _ e)
 have I4:Inv (cxC X N' scope C (cellsFrom (C + 1) scope.names (cloOf X.env.cells scope.names [])) s2 H2 fp) [] (frm ix σ) H2 { s2 with heap:=h4,toks:=s2.toks } :=
  inv_comp (D:=D) (o:={ cls:=.none,data:=.dict #[] }) S I2 f2 ho2 hc hk3 hC.symm (by rw [hC,hz3,hD]; exact Nat.le_succ _) h4e.symm
 have hcellD:∀ x c,(cellsFrom (C + 1) scope.names (cloOf X.env.cells scope.names [])).lookup x = some c → c ≠ D:=fun x c h z=>by
  rcases cf_lookup scope.names _ _ h with ⟨a,_⟩ | a
  ·rw [z,hz3] at a; omega
  ·rcases clo_lookup scope.names [] a with ⟨hm,e⟩ | a
   ·obtain ⟨c',hc'⟩:=I2.ok.has x ((S.name hm).1 rfl)
    rw [hc'] at e
    obtain ⟨v,q⟩:=I2.cell x c' hc'
    have e':c = c':=e
    rw [← e',z,← hD] at q
    exact absurd q.lt (Nat.lt_irrefl _)
   ·cases a
 have hDC:D ≠ C:=by rw [hz3]; exact Nat.ne_of_lt (Nat.lt_succ_self _)
 have hDfp:D ∉ fp:=fun hb=>by obtain ⟨o,e⟩:=ho2 D hb; exact absurd (hD ▸ Heap.lt_size e) (Nat.lt_irrefl _)
 generalize hX':cxC X N' scope C (cellsFrom (C + 1) scope.names (cloOf X.env.cells scope.names [])) s2 H2 fp = X' at I4
 have hfpX:∀ {H':Hp} {oD:Obj},(∀ b ∈ fp,H' b = none) → ∀ b ∈ fp,FpOk X' [(D,oD)] H' b:=fun {H' oD} hn b hb=>by
  rw [← hX']
  refine ⟨hn b hb,fun z=>?_,fun z=>?_,.inl hb,fun x c h z=>?_,fun p hp=>?_⟩
  rotate_right
  ·have hp':p ∈ [(D,oD)]:=hp
   have e:p = (D,oD):=by simpa using hp'
   subst e
   exact fun z=>hDfp (by rw [show D = b from z]; exact hb)
  ·obtain ⟨o,e⟩:=ho2 b hb
   have z':b = C:=z
   have q:=Heap.lt_size e
   rw [z',hz3,hD] at q
   exact absurd (Nat.lt_trans (Nat.lt_succ_self D) q) (Nat.lt_irrefl _)
  ·have z':b ∈ frs X.stack:=z
   rcases List.mem_cons.mp (I2.stkSub b z') with e | e
   ·exact (f2 b hb).2.1 e
   ·exact (f2 b hb).2.2.1 e
  ·rw [← hX'] at I4
   exact (I4.ok.exf b hb).2 x c h z
 have HDnone:H2 D = none:=I2.hok.fresh (by rw [hD]; exact Nat.le_refl _)
 have key:∀ (s':Shared),s' = { s2 with heap:=h4,toks:=s2.toks } →
   codeAny (model X.prog X.w) X.A (.compLoop (.ListComp elt [⟨tg,iter,ifs,0⟩] scope pos) 0 (.ref it) (.ref D) X'.env) (compPost (model X.prog X.w) X.A X.xe use QQ (.ref D) C) s':=by
  rintro s' rfl
  refine compLoop_any (fun n s'=>∃ i ys σ' H' its,Inv X' [] σ' H' s' ∧ tn i s'.heap ∧ (∀ b ∈ fp,H' b = none) ∧ H' D = none ∧ s'.heap.PlainList D its ∧ Vals ys its.toList ∧ W i n ys σ' H') ?_ m0
   ⟨0,[],frm ix σ,H2,#[],I4,T.keep _ _ _ st2 fun b hb o e=>hk4 b o (hk3 b o e),fun b hb=>(f2 b hb).1,HDnone,⟨_,hk4 _ _ hD3⟩,.nil,w0⟩
  rintro n s3 ⟨i,ys,σ3,H3,its,I3,st3,fr3,hD3n,hpl,hv,w3⟩
  have hc':X'.calm = true:=by rw [← hX']; exact hc
  have xe':∀ e s,X'.xe e s → False:=by rw [← hX']; exact fun _ _ z=>z
  have pr:X'.prog = X.prog:=by rw [← hX']; rfl
  have pw:X'.w = X.w:=by rw [← hX']; rfl
  have pK:X'.K = X.K:=by rw [← hX']; rfl
  have pA:X'.A = X.A:=by rw [← hX']; rfl
  have p0:X'.s₀ = s2:=by rw [← hX']; rfl
  have pH:X'.H₀ = H2:=by rw [← hX']; rfl
  have px:X'.ex = fp:=by rw [← hX']; rfl
  have pf:X'.fs = frs X.stack:=by rw [← hX']; rfl
  have pL:X'.env.locals = C:=by rw [← hX']; rfl
  have pn0:X'.pn = []:=by rw [← hX']; rfl
  have pcs:X'.env.cells = cellsFrom (C + 1) scope.names (cloOf X.env.cells scope.names []):=by rw [← hX']; rfl
  obtain ⟨nD,hoD⟩:=id hpl
  have Dfs:D ∉ X'.fs:=fun z=>by
   rw [pf] at z
   rcases List.mem_cons.mp (I2.stkSub D z) with e | e
   ·have q:=I2.lt; rw [← e,hD] at q; exact Nat.lt_irrefl _ q
   ·exact I2.nofs (by rw [hD]; exact Nat.le_refl _) e
  have I3':Inv X' [(D,_)] σ3 H3 s3:=I3.pins_of fun p hp=>by
   have e:p = (D,_):=List.mem_singleton.mp hp
   subst e
   exact ⟨hoD,hD3n,by rw [pL]; exact hDC,Dfs,fun v z=>by cases z⟩
  have hg':PG X' tg g:=hX' ▸ hg _ _ _ _ _
  have ht':PTs X' ifs tc:=hX' ▸ ht _ _ _ _ _
  have he':PE X' elt te:=hX' ▸ he _ _ _ _ _
  have hsizes:its.toList.length = ys.length:=hv.length.symm
  rcases turn i n ys σ3 H3 w3 with ⟨stop,hlen,qn⟩ | ⟨go,hlt,N,hN,step⟩
  ·-- the end
   have T':=T.done X' pr pw pK hc' i _ s3 σ3 H3 (fun _ _=>False) I3' (hfpX fr3) st3 stop
   rw [pA] at T'
   refine thn T' fun r s4 ⟨hr,I5⟩=>?_
   subst hr
   obtain ⟨gD,nDn,_,_,_⟩:=I5.pin (D,_) (List.mem_append_right _ (List.mem_singleton.mpr rfl))
   have gD':s4.heap.get? D = some { cls:=.type "list",data:=.seq its nD }:=gD
   obtain ⟨m,hns,_⟩:=I5.loc
   rw [pL] at hns
   obtain ⟨oC,es,ep,hoC,hdC,_⟩:=id hns
   have ub:Un (frs X.stack) fp H2 H3 s2.heap s4.heap:=by
    have q:=I5.base
    rw [px,pH,p0] at q
    rw [← pf]; exact q
   have bLt:∀ b u,s2.heap.get? b = some u → b ≠ D:=fun b u e z=>by have q:=Heap.lt_size e; rw [z,hD] at q; exact Nat.lt_irrefl _ q
   have u':Un (frs X.stack) fp H2 (upd H3 D (.lst ys)) s2.heap s4.heap :=
    ⟨ub.keep,ub.slot,fun b o e n hx=>by rw [upd_ne (bLt b o e)]; exact ub.free b o e n hx,ub.there,fun b xs e=>by rw [upd_ne (ne_of_none (ub.tups b xs e) hD3n)]; exact ub.tups b xs e,
     fun b o u e=>by rw [upd_ne (ne_of_none (ub.frzs b o u e) hD3n)]; exact ub.frzs b o u e,fun b ps e=>by obtain ⟨more,q⟩:=ub.tbls b ps e; exact ⟨more,by rw [upd_ne (ne_of_none q hD3n)]; exact q⟩⟩
   have hok':HOk X.prog X.w (upd H3 D (.lst ys)) s4.heap:=by
    have q:=I5.hok
    rw [pr,pw] at q
    exact q.adopt hD3n ⟨hlen,its.toList,nD,hv,by simpa using gD'⟩
   have os':s4.os = s2.os:=by have q:=I5.os; rw [p0] at q; exact q
   have Iend:Inv X pins σ (upd H3 D (.lst ys)) s4:=I2.call' (ch:=fp) os' u' hok' I5.bare fun b hb=>⟨(f2 b hb).2.2.2.1,(f2 b hb).2.1,(f2 b hb).2.2.2.2.1,(f2 b hb).2.2.2.2.2⟩
   have hsC:s2.heap.objs.size ≤ C:=by rw [hz3,hD]; exact Nat.le_succ _
   have freeC:upd H3 D (.lst ys) C = none:=by rw [upd_ne (Ne.symm hDC)]; have q:=I5.free; rw [pL] at q; exact q
   have Iend':Inv X (pins ++ [(C,oC)]) σ (upd H3 D (.lst ys)) s4:=Iend.pins_of fun p hp=>by
    rcases List.mem_append.mp hp with hp | hp
    ·exact Iend.pin p (List.mem_append_right _ hp)
    ·have e:p = (C,oC):=List.mem_singleton.mp hp
     subst e
     exact ⟨hoC,freeC,Nat.ne_of_gt (Nat.lt_of_lt_of_le I2.lt hsC),I2.nofs hsC,fun v z=>by rw [show oC.data = Data.cell v from z] at hdC; cases hdC⟩
   exact fin D C oC _ s4 Iend' ⟨m,hns⟩ (Nat.le_trans I2.sz hsC) (fun x c h z=>by obtain ⟨v,q⟩:=I2.cell x c h; exact absurd (Nat.lt_of_lt_of_le q.lt hsC) (by rw [z]; exact Nat.lt_irrefl _))
    (fun p hp z=>by have q:=Heap.lt_size (I2.pin p hp).1; exact absurd (Nat.lt_of_lt_of_le q hsC) (by rw [z]; exact Nat.lt_irrefl _)) (qn D hD3n)
  ·have T':=T.item X' pr pw pK hc' i _ s3 σ3 H3 (fun _ _=>False) I3' (hfpX fr3) st3 go
   rw [pA] at T'
   refine thn T' fun r s4 ⟨u,hr,h4'⟩=>?_
   subst hr
   refine thn h4' fun _ s5 ⟨x,H5,I5,r5,y5,st5,fr5⟩=>?_
   have I5':=I5.pinned (hfpX fr5) (T.obj _ _ st5)
   have A1:=hg' _ s5 σ3 H5 x u _ I5' r5 (step x H5 y5)
   rw [pr,pw,pA] at A1
   refine wpAny_mono A1 (fun _ s6 ⟨σ6,H6,I6,q6⟩=>?_) xe'
   have A2:=ht' _ s6 σ6 H6 _ I6 q6
   rw [pr,pw,pA] at A2
   refine wpAny_mono A2 (fun b s7 ⟨H7,I7,q7⟩=>?_) xe'
   have pinD:∀ {σ':St} {H':Hp} {s':Shared},Inv X' ([(D,{ cls:=.type "list",data:=.seq its nD })] ++ pinsAt fp s5.heap) σ' H' s' → s'.heap.get? D = some { cls:=.type "list",data:=.seq its nD } ∧ H' D = none ∧ (∀ b ∈ fp,∀ o,s5.heap.get? b = some o → s'.heap.get? b = some o ∧ H' b = none):=fun {σ' H' s'} J=>by
    obtain ⟨a1,a2,_⟩:=J.pin (D,_) (List.mem_append_right _ (List.mem_append_left _ (List.mem_singleton.mpr rfl)))
    refine ⟨a1,a2,fun b hb o e=>?_⟩
    obtain ⟨b1,b2,_⟩:=J.pin (b,o) (List.mem_append_right _ (List.mem_append_right _ (mem_pinsAt hb e)))
    exact ⟨b1,b2⟩
   have frOf:∀ {σ':St} {H':Hp} {s':Shared},Inv X' ([(D,{ cls:=.type "list",data:=.seq its nD })] ++ pinsAt fp s5.heap) σ' H' s' → ∀ b ∈ fp,H' b = none:=fun {σ' H' s'} J b hb=>by
    obtain ⟨o,e,_⟩:=T.obj _ _ st5 b hb
    exact ((pinD J).2.2 b hb o e).2
   have bare:∀ {σ':St} {H':Hp} {s':Shared},Inv X' ([(D,{ cls:=.type "list",data:=.seq its nD })] ++ pinsAt fp s5.heap) σ' H' s' → Inv X' [] σ' H' s':=fun {σ' H' s'} J=>J.pins_of fun p hp=>nomatch hp
   cases b with
   | false =>
    obtain ⟨m',hm,w'⟩:=hN ys σ6 H7 q7
    exact ⟨m',hm,i + 1,ys,σ6,H7,its,bare I7,T.keep _ _ _ st5 fun b hb o e=>((pinD I7).2.2 b hb o e).1,frOf I7,(pinD I7).2.1,⟨nD,(pinD I7).1⟩,hv,w'⟩
   | true =>
    have A3:=he' _ s7 σ6 H7 _ I7 q7
    rw [pr,pw,pA] at A3
    refine wpAny_mono A3 (fun v s8 ⟨x8,H8,I8,r8,q8⟩=>?_) xe'
    refine wpAny_list_append_plain (items:=its) ⟨nD,(pinD I8).1⟩ (fun h9 hl9 hs9=>?_) (by
     have:its.size = its.toList.length:=by simp
     rw [this,hsizes]; exact Nat.le_of_lt hlt)
    obtain ⟨m',hm,w'⟩:=hN (ys ++ [x8]) σ6 H8 q8
    have I9:Inv X' [] σ6 H8 { s8 with heap:=h9,toks:=s8.toks }:=(bare I8).turned (t':=s8.toks) (it:=D) (fun b o hb e=>(hs9.2 b hb).trans e) (pinD I8).2.1 (by rw [pL]; exact hDC) (.inr (by rw [p0,hD]; exact Nat.le_refl _)) (by rw [pcs]; exact hcellD) (fun p hp=>by rw [pn0] at hp; exact nomatch hp)
    refine ⟨m',hm,i + 1,ys ++ [x8],σ6,H8,its.push v,I9,T.keep _ _ _ st5 fun b hb o e=>(hs9.2 b fun z=>hDfp (z ▸ hb)).trans ((pinD I8).2.2 b hb o e).1,frOf I8,(pinD I8).2.1,hl9,?_,w'⟩
    rw [Array.toList_push]
    exact hv.append (.cons r8 .nil)
 rw [← hX'] at key
 exact codeAny_compStart_list (key _ rfl) (T.self _ 0 _ _ _ (T.keep _ _ _ st2 fun b hb o e=>hk4 b o (hk3 b o e)) (key _ rfl))
theorem pe_comp (S:CompOk X N' ix scope) (hc:X.calm = true) (hi:PI X tg iter wi)
  (hg:∀ C cs s H ex,PG (cxC X N' scope C cs s H ex) tg g) (ht:∀ C cs s H ex,PTs (cxC X N' scope C cs s H ex) ifs tc) (he:∀ C cs s H ex,PE (cxC X N' scope C cs s H ex) elt te)
  (hs:∀ x,foldedSetIterable iter X.env x = pure x:=by intro _; rfl):PE X (.ListComp elt [⟨tg,iter,ifs,0⟩] scope pos) (tComp wi ix g tc te):=by
 intro pins s σ H Q I h
 rw [eval_ListComp]
 refine comp_core (use:=none) (QQ:=EP X pins σ Q) S hc hi hg ht he I h (fun D C o H' s' I' hns h1 h2 h3 q=>?_) hs
 obtain ⟨m,hns⟩:=hns
 refine ⟨m,hns,fun h' hs'=>⟨.ref D,H',?_,rfl,q⟩⟩
 obtain ⟨a1,a2,a3,a4,_⟩:=I'.pin (C,o) (List.mem_append_right _ (List.mem_append_right _ (List.mem_singleton.mpr rfl)))
 exact I'.unpinned.turned (t':=s'.toks) (it:=C) (fun b u hb e=>(hs'.2 b hb).trans e) a2 a3 (.inr h1) h2 h3
theorem ps_setC {i:Nat} {x:Str} {pos' spos:Pos} (hN:X.N.Nodup) (hi':X.N[i]? = some x) (hx:Loc X.env.scope x) (S:CompOk X N' ix scope) (hc:X.calm = true) (hi:PI X tg iter wi)
  (hg:∀ C cs s H ex,PG (cxC X N' scope C cs s H ex) tg g) (ht:∀ C cs s H ex,PTs (cxC X N' scope C cs s H ex) ifs tc) (he:∀ C cs s H ex,PE (cxC X N' scope C cs s H ex) elt te)
  (hsw:swapsWith (.ListComp elt [⟨tg,iter,ifs,0⟩] scope pos) (some (.Name x pos')) spos.line X.env = pure true:=by rfl)
  (hf:X.fn x = true ∨ X.env.scope.names.lookup x = some .local:=by first | exact .inl rfl | exact .inr rfl | assumption)
  (hs:∀ x,foldedSetIterable iter X.env x = pure x:=by intro _; rfl):PS X (.Assign [.Name x pos'] (.ListComp elt [⟨tg,iter,ifs,0⟩] scope pos) spos) (tAsg (tComp wi ix g tc te) (gName i)):=by
 intro pins s σ H D I h
 rw [exec_Assign_Name_used _ _ _ _ hsw]
 refine wpAny_bind (wpAny_standAt (wpAny_bind ?_))
 show wpAny _ X.A (do let _ ← comprehension (.ListComp elt [⟨tg,iter,ifs,0⟩] scope pos) scope X.env _ (newList []) false (eval iter X.env) (some (assign (.Name x pos') X.env))) _ _ s
 refine wpAny_bind (thn (comp_core (use:=some (assign (.Name x pos') X.env)) (QQ:=fun _ s'=>SP X pins D .next s') S hc hi hg ht he I h (fun E C o H' s' I' hns h1 h2 h3 q=>?_) hs) fun _ s' q=>wpAny_pure (wpAny_pure q))
 obtain ⟨m,hns⟩:=hns
 have P:=pg_name (pos:=pos') hN hi' hx hf
 refine thn (P _ s' σ H' (.ref E) (.ref E) _ I' rfl q) fun _ s2 ⟨σ2,H2,I2,q2⟩=>?_
 obtain ⟨a1,_⟩:=I'.pin (C,o) (List.mem_append_right _ (List.mem_append_right _ (List.mem_singleton.mpr rfl)))
 obtain ⟨b1,b2,b3,b4,_⟩:=I2.pin (C,o) (List.mem_append_right _ (List.mem_append_right _ (List.mem_singleton.mpr rfl)))
 refine ⟨m,?_,fun h' hs'=>⟨σ2,H2,I2.unpinned.turned (t':=s2.toks) (it:=C) (fun b u hb e=>(hs'.2 b hb).trans e) b2 b3 (.inr h1) h2 h3,q2⟩⟩
 obtain ⟨oC,es,ep,hoC,r⟩:=hns
 have e:oC = o:=by
  have q:=hoC.symm.trans a1
  exact Option.some.inj q
 subst e
 exact ⟨oC,es,ep,b1,r⟩
end
end L2
set_option Elab.async false
set_option linter.all false
set_option maxRecDepth 100000
set_option maxHeartbeats 4000000
set_option Elab.async false
set_option linter.all false
set_option maxRecDepth 100000
set_option maxHeartbeats 4000000
set_option Elab.async false
set_option linter.all false
set_option maxRecDepth 100000
set_option maxHeartbeats 4000000
namespace L2
open PySem PySem.Spec PyProof.Rows
open AutoSeq1 (wpAny_loadPart')
section
variable {X:Cx}
theorem vals_bools {bs:List Bool}:∀ {us:List Value},Vals (bs.map V.bl) us → LSm.BoolsAre us bs:=by
 induction bs with
 | nil=>intro us h; cases h; exact .nil
 | cons b bs ih=>intro us h; cases h with
  | cons r t=>cases r; exact .cons b (ih t)
theorem call_all (hc:X.calm = true):CallR X (.builtin "all") (fun xs H Q=>∃ (p:Addr) (bs:List Bool),xs = [.ref p] ∧ SqL X.K H p (bs.map V.bl) ∧ Q (.bl (bs.all id)) H):=by
 intro pins s σ H xs us Q I r h
 obtain ⟨p,bs,rfl,hq,q⟩:=h
 obtain ⟨u,rfl,rx⟩:=vals1 r
 cases rx
 obtain ⟨its,rv,pl,hz⟩:=I.list hq
 have hb:=vals_bools rv
 have hl:=pl.isList
 have hlt:p < s.heap.objs.size:=by obtain ⟨_,e,_⟩:=hl; exact Heap.lt_size e
 refine call_all_walk (wpAny_pyIter_list hl ?_)
 refine ⟨s.heap.objs.size,[s.heap.objs.size,p],[s.heap.objs.size],its.toArray.size,_,_,fun i=>(bs[i]?).getD true,rfl,Walks.list (A:=X.A.in1) (I.ok.hd hc) _ p (Nat.ne_of_lt hlt) its.toArray,⟨⟨_,Heap.get?_push_size _ rfl,rfl,rfl⟩,hl.push _⟩,fun i v s' Q' E' hP hQ=>?_,fun h' tk hk=>?_⟩
 ·obtain ⟨b,e,rfl⟩:=hb.get i v (by simpa using hP)
  simp only [e,Option.getD_some] at hQ
  exact wpAny_truthy_bool hQ
 ·have e:((List.range its.toArray.size).all fun i=>(bs[i]?).getD true) = bs.all id:=by rw [List.size_toArray,hb.length]; exact LSm.range_all bs
  rw [e]
  exact ⟨.bl (bs.all id),H,I.kept (LSm.kept_iter hk),rfl,q⟩
end
end L2
set_option Elab.async false
set_option linter.all false
set_option maxRecDepth 100000
set_option maxHeartbeats 4000000
namespace L2
open PySem PySem.Spec PyProof.Rows
open AutoSeq1 (wpAny_loadPart')
end L2
set_option Elab.async false
set_option linter.all false
set_option maxRecDepth 100000
set_option maxHeartbeats 4000000
namespace L2
open PySem PySem.Spec PyProof.Rows
section
variable {X:Cx}
theorem Same.upd {H:Hp} {p:Addr} {o:HO} (h:H p = none):Same H (upd H p o):=fun b u e=>by rw [upd_ne (ne_of_none e h)]; exact e
end
theorem pe_ty {X:Cx} {x:Str} {T:String} {pos:Pos} (hg:Gl X x) (hm:X.mg x = none) (hv:bootBuiltins x = some (.type T)) (hn:x ≠ "__name__":=by decide) (hd:(x == ("__debug__":Str)) = false:=by decide):PE X (.Name x pos) (tC (.ty T)):=pe_bltn (v:=.ty T) hg hm hv rfl hn hd
end L2
set_option Elab.async false
set_option linter.all false
set_option maxRecDepth 100000
set_option maxHeartbeats 4000000
set_option Elab.async false
set_option linter.all false
set_option maxRecDepth 100000
set_option maxHeartbeats 4000000
set_option Elab.async false
set_option linter.all false
set_option maxRecDepth 100000
set_option maxHeartbeats 4000000
namespace L2
open PySem PySem.Spec PyProof.Rows
theorem vals_of_ints:∀ {us:List Value} {ns:List Int},IntsAre us ns → Vals (ns.map V.int) us
 | _,_,.nil=>.nil
 | _,_,.cons _ t r=>.cons ⟨t,rfl⟩ (vals_of_ints r)
end L2
set_option Elab.async false
set_option linter.all false
set_option maxRecDepth 100000
set_option maxHeartbeats 4000000
namespace L2
open PySem PySem.Spec PyProof.Rows
section
variable {prog:Program} {w:World} {A:Around} {E:Value → Shared → Prop} {s:Shared}
theorem getItem_tuple_whole {t sl:Addr} {items:Array Value} {vl vu:Value} {lo hi:Option Int} {Q:Value → Shared → Prop} (ht:IsTup s.heap t items) (hs:s.heap.IsSliceOf sl vl vu .none) (pl:IsPart vl lo) (pu:IsPart vu hi)
  (hw:HT.sIx items.size 0 lo = 0 ∧ HT.sIx items.size items.size hi = items.size) (h:Q (.ref t) s):wpAny (model prog w) A (getItem (.ref t) (.ref sl)) Q E s:=by
 obtain ⟨os,hos,hcs,hds⟩:=id hs
 have hTs:s.TypeIs (.ref sl) "slice":=⟨os,hos,hcs⟩
 unfold getItem; try with_reducible refine wpAny_holding ?_
 first | refine wpAny_bind (wpAny_pure ?_) | skip
 refine wpAny_bind (wpAny_sequenceKey ht.typeIs (by decide) ?_); refine wpAny_bind (wpAny_callSpecial?_slot (name:=Str.ofString "__getitem__") ht.typeIs PyProof.Rows.slot_tuple_getitem (wpAny_call_entry PyProof.Rows.slot_tuple_getitem ht.typeIs entry_tuple_getitem ?_ (args_tuple_getitem _ _)))
 show wpAny _ _ (Builtin.Tuple.tupleItemsOf (.ref t) >>= _) _ _ s; refine wpAny_bind (tupleItemsOf_ ht ?_); refine wpAny_bind (wpAny_typeOf hTs ?_)
 rw [if_pos (by decide)]; refine wpAny_bind (HT.sliceApplied_gen hs pl pu ?_)
 have hyes:((((HT.sIx items.size 0 lo:Nat):Int) == 0 && (1:Int) == 1 && (HT.sIx items.size items.size hi - HT.sIx items.size 0 lo) == items.size) = true):=by
  rw [hw.1,hw.2]; simp
 show wpAny _ _ (if (((HT.sIx items.size 0 lo:Nat):Int) == 0 && (1:Int) == 1 && (HT.sIx items.size items.size hi - HT.sIx items.size 0 lo) == items.size) = true then _ else _) _ _ s
 rw [if_pos hyes]
 refine wpAny_bind ?_
 unfold Builtin.Tuple.tupleIsExact
 refine wpAny_bind (wpAny_typeOf ht.typeIs (wpAny_pure ?_))
 rw [if_pos (by decide)]
 exact wpAny_bind (wpAny_rule (wpAny_pure ⟨_,rfl,wpAny_pure h⟩))
end
end L2
set_option Elab.async false
set_option linter.all false
set_option maxRecDepth 100000
set_option maxHeartbeats 4000000
namespace D
open PySem L2
noncomputable abbrev Fg:=PySem.W.Frag
structure Lam where
 params:Arguments
 body:Expr
 scope:Scope
 qual:Str
 x:Str
inductive T where
 | a (v:V)
 | t (xs:List T)
 | l (xs:List T)
 | f (n:Str)
 | x (c:Str) (fs:List (Str × V))
 | m (L:Lam) (ts:List T)
noncomputable abbrev Dk:=Sum (List (Key × T)) (List (List Key × T))
inductive G where
 | v (t:T)
 | l (xs:List T)
 | r (xs:List T)
 | k (xs:List T)
 | d (kvs:Dk)
 | e (kvs:Dk)
noncomputable def isMut:G → Bool
 | .l _=>true
 | .d _=>true
 | _=>false
inductive S where
 | v (t:T)
 | l (xs:List T)
 | s (i:Nat)
 | d (kvs:Dk)
noncomputable abbrev En:=List (Option G)
noncomputable abbrev DE:=En → Option (S × En)
noncomputable abbrev DT:=En → Option (Bool × En)
noncomputable abbrev DA:=En → Option (List S × En)
inductive O where
 | nx (g:En) | rt (s:S) (g:En) | bk (g:En) | ct (g:En)
noncomputable abbrev DS:=En → Option O
noncomputable def cOk:List V → Bool
 | .int _ :: _=>true
 | .ref _ :: _=>true
 | [.str x]=>decide (x = "yes") || decide (x = "no")
 | _=>false
noncomputable def KT (K:Fg) (a:Addr) (xs:List V):Prop:=∃ (o:Obj) (its:Array Value) (n:Nat),K.lookup a = some o ∧ o.cls = .type "tuple" ∧ o.dict = none ∧ o.data = .seq its n ∧ its.size ≤ sizeLine ∧ Vals xs its.toList ∧ cOk xs = true
noncomputable def Tp (K:Fg) (H:Hp) (p:Addr) (vs:List V):Prop:=H p = some (.tup vs) ∨ KT K p vs
theorem Tp.sq {K:Fg} {H:Hp} {p:Addr} {vs:List V} (h:Tp K H p vs):SqT K H p vs:=by
 rcases h with h | ⟨o,its,n,a,b,c,d,e,f,_⟩
 ·exact SqT.of h
 ·exact .inr ⟨o,its,n,a,b,d,e,f⟩
theorem Tp.of {K:Fg} {H:Hp} {p:Addr} {vs:List V} (h:H p = some (.tup vs)):Tp K H p vs:=.inl h
noncomputable def KL (K:Fg) (a:Addr) (xs:List V):Prop:=∃ (o:Obj) (its:Array Value) (n:Nat),K.lookup a = some o ∧ o.cls = .type "list" ∧ o.dict = none ∧ o.data = .seq its n ∧ its.size ≤ sizeLine ∧ Vals xs its.toList
noncomputable def KF (K:Fg) (H:Hp) (p:Addr) (vs:List V):Prop:=(∃ o,H p = some (.frz o (.lst vs))) ∨ KL K p vs
noncomputable def XOk (K:Fg) (H:Hp) (p:Addr) (c:Str) (fs:List (Str × V)):Prop:=∃ (C:Addr) (d:Option Addr),PySem.W.nsIn K mainGlobals c = some (some (.ref C)) ∧
 H p = some (.ext fun h=>∃ o,h.get? p = some o ∧ o.cls = .ref C ∧ o.dict = d ∧ PySem.W.notCls o = true) ∧ ((d = none ∧ fs = []) ∨ ∃ dx,d = some dx ∧ H dx = some (.xd fs))
noncomputable def FOk (K:Fg) (v:V) (n:Str):Prop:=∃ p,v = .ref p ∧ PySem.W.nsIn K mainGlobals n = some (some (.ref p))
noncomputable def lamO (L:Lam) (f c c':Addr):Heap → Prop:=fun h=>∃ pm ct,h.get? f = some (PySem.W.kla_obj "<lambda>" L.qual L.params L.body L.scope [(L.x,c)] pm c' ct)
noncomputable def cellO (c:Addr) (v:V) (o:Obj):Heap → Prop:=fun h=>h.get? c = some o ∧ ∃ u,RelV v u ∧ o.data = .cell (some u)
noncomputable def LOk (H:Hp) (f:Addr) (L:Lam) (vs:List V):Prop:=∃ (c c':Addr) (v:V) (o:Obj),vs = [v] ∧ H f = some (.ext (lamO L f c c')) ∧ H c = some (.ext (cellO c v o)) ∧ H c' = some (.cod L.qual)
mutual
noncomputable def Im (K:Fg) (H:Hp):V → T → Prop
 | v,.a u=>v = u
 | v,.t ts=>∃ p vs,v = .ref p ∧ Tp K H p vs ∧ Ims K H vs ts
 | v,.l ts=>∃ p vs,v = .ref p ∧ KF K H p vs ∧ Ims K H vs ts
 | v,.f n=>FOk K v n
 | v,.x c fs=>∃ p,v = .ref p ∧ XOk K H p c fs
 | v,.m L ts=>∃ p vs,v = .ref p ∧ LOk H p L vs ∧ Ims K H vs ts
noncomputable def Ims (K:Fg) (H:Hp):List V → List T → Prop
 | vs,[]=>vs = []
 | vs,t :: ts=>∃ v r,vs = v :: r ∧ Im K H v t ∧ Ims K H r ts
end
structure W where
 L:List Addr
 R:Addr → Prop
structure Fr where
 H0:Hp
 fx:List Addr
 pins:List (Nat × Addr)
noncomputable def Evo (L:List Addr) (H H':Hp):Prop:=∀ b o,H b = some o → b ∉ L → H' b = some o
noncomputable def Mu:HO → Prop
 | .lst _=>True
 | .dK _=>True
 | .dT _=>True
 | _=>False
noncomputable def LL (L:List Addr) (H:Hp):Prop:=∀ p ∈ L,∃ o,H p = some o ∧ Mu o
theorem Evo.refl {L:List Addr} {H:Hp}:Evo L H H:=fun _ _ h _=>h
theorem Evo.trans {L:List Addr} {H H1 H2:Hp} (a:Evo L H H1) (b:Evo L H1 H2):Evo L H H2:=fun c o h n=>b c o (a c o h n) n
theorem Evo.wide {L L':List Addr} {H H':Hp} (a:Evo L' H H') (h:∀ p ∈ L',p ∈ L):Evo L H H':=fun c o e n=>a c o e fun z=>n (h c z)
theorem Evo.new {L:List Addr} {H:Hp} {p:Addr} {o:HO} (h:H p = none):Evo L H (upd H p o):=fun b u e _=>by rw [upd_ne (ne_of_none e h)]; exact e
theorem Evo.of_same {L:List Addr} {H H':Hp} (h:Same H H'):Evo L H H':=fun b u e _=>h b u e
theorem tp_evo {K:Fg} {L:List Addr} {H H':Hp} {p:Addr} {vs:List V} (e:Evo L H H') (hL:LL L H) (h:Tp K H p vs):Tp K H' p vs:=by
 rcases h with h | h
 ·refine .inl (e _ _ h fun z=>?_)
  obtain ⟨o,q,m⟩:=hL p z
  rw [h] at q; cases q; exact m
 ·exact .inr h
theorem LOk.evo {L:List Addr} {H H':Hp} {f:Addr} {M:Lam} {vs:List V} (e:Evo L H H') (hL:LL L H) (h:LOk H f M vs):LOk H' f M vs:=by
 obtain ⟨c,c',v,o,h0,h1,h2,h3⟩:=h
 have n:∀ {b o},H b = some o → ¬ Mu o → b ∉ L:=fun {b o} q m z=>by
  obtain ⟨u,q',m'⟩:=hL b z
  rw [q] at q'; cases q'; exact m m'
 exact ⟨c,c',v,o,h0,e _ _ h1 (n h1 id),e _ _ h2 (n h2 id),e _ _ h3 (n h3 id)⟩
noncomputable def TabOk (K:Fg) (H:Hp):Prop:=∀ c P,PySem.W.tabIn K "is_so" = some (c,P) → H P = some (.tbq "is_so.<locals>.<lambda>")
theorem TabOk.evo {K:Fg} {L:List Addr} {H H':Hp} (e:Evo L H H') (hL:LL L H) (h:TabOk K H):TabOk K H':=fun c P z=>e _ _ (h c P z) fun m=>by
 obtain ⟨o,q,mu⟩:=hL P m
 rw [h c P z] at q; cases q; exact mu
theorem KF.evo {K:Fg} {L:List Addr} {H H':Hp} {p:Addr} {vs:List V} (e:Evo L H H') (hL:LL L H) (h:KF K H p vs):KF K H' p vs:=by
 rcases h with ⟨o,h⟩ | h
 ·refine .inl ⟨o,e _ _ h fun z=>?_⟩
  obtain ⟨o,q,m⟩:=hL p z
  rw [h] at q; cases q; exact m
 ·exact .inr h
theorem XOk.evo {K:Fg} {L:List Addr} {H H':Hp} {p:Addr} {c:Str} {fs:List (Str × V)} (e:Evo L H H') (hL:LL L H) (h:XOk K H p c fs):XOk K H' p c fs:=by
 obtain ⟨C,d,h1,h2,h3⟩:=h
 refine ⟨C,d,h1,e _ _ h2 fun z=>?_,h3.imp id fun ⟨dx,a,b⟩=>⟨dx,a,e _ _ b fun z=>?_⟩⟩
 ·obtain ⟨o,q,m⟩:=hL p z
  rw [h2] at q; cases q; exact m
 ·obtain ⟨o,q,m⟩:=hL dx z
  rw [b] at q; cases q; exact m
mutual
theorem Im.evo {K:Fg} {L:List Addr} {H H':Hp} (e:Evo L H H') (hL:LL L H):∀ {v:V} {t:T},Im K H v t → Im K H' v t
 | _,.a _,h=>h
 | _,.t _,h=>by
  unfold Im at h ⊢
  obtain ⟨p,vs,rfl,hs,hi⟩:=h
  exact ⟨p,vs,rfl,tp_evo e hL hs,Ims.evo e hL hi⟩
 | _,.l _,h=>by
  unfold Im at h ⊢
  obtain ⟨p,vs,rfl,hs,hi⟩:=h
  exact ⟨p,vs,rfl,hs.evo e hL,Ims.evo e hL hi⟩
 | _,.f _,h=>by
  unfold Im at h ⊢
  exact h
 | _,.x _ _,h=>by
  unfold Im at h ⊢
  obtain ⟨p,rfl,hs⟩:=h
  exact ⟨p,rfl,hs.evo e hL⟩
 | _,.m _ _,h=>by
  unfold Im at h ⊢
  obtain ⟨p,vs,rfl,hs,hi⟩:=h
  exact ⟨p,vs,rfl,hs.evo e hL,Ims.evo e hL hi⟩
theorem Ims.evo {K:Fg} {L:List Addr} {H H':Hp} (e:Evo L H H') (hL:LL L H):∀ {vs:List V} {ts:List T},Ims K H vs ts → Ims K H' vs ts
 | _,[],h=>h
 | _,_ :: _,h=>by
  unfold Ims at h ⊢
  obtain ⟨v,r,rfl,h1,h2⟩:=h
  exact ⟨v,r,rfl,Im.evo e hL h1,Ims.evo e hL h2⟩
end
section
variable {K:Fg} {H H':Hp}
theorem Ims.nil:Ims K H [] []:=by unfold Ims; rfl
theorem Ims.cons {v:V} {vs:List V} {t:T} {ts:List T} (h:Im K H v t) (hs:Ims K H vs ts):Ims K H (v :: vs) (t :: ts):=by unfold Ims; exact ⟨v,vs,rfl,h,hs⟩
theorem Ims.inv {vs:List V} {t:T} {ts:List T} (h:Ims K H vs (t :: ts)):∃ v r,vs = v :: r ∧ Im K H v t ∧ Ims K H r ts:=by unfold Ims at h; exact h
theorem Ims.inv0 {vs:List V} (h:Ims K H vs []):vs = []:=by unfold Ims at h; exact h
theorem Ims.len:∀ {vs:List V} {ts:List T},Ims K H vs ts → vs.length = ts.length
 | _,[],h=>by rw [h.inv0]; rfl
 | _,_ :: _,h=>by obtain ⟨v,r,rfl,_,h2⟩:=h.inv; simp [h2.len]
theorem Ims.app:∀ {vs us:List V} {ts ss:List T},Ims K H vs ts → Ims K H us ss → Ims K H (vs ++ us) (ts ++ ss)
 | _,_,[],_,h,h'=>by rw [h.inv0]; exact h'
 | _,_,_ :: _,_,h,h'=>by obtain ⟨v,r,rfl,h1,h2⟩:=h.inv; exact .cons h1 (h2.app h')
theorem Ims.one {v:V} {t:T} (h:Im K H v t):Ims K H [v] [t]:=.cons h .nil
theorem Ims.get:∀ {vs:List V} {ts:List T} {i:Nat} {t:T},Ims K H vs ts → ts[i]? = some t → ∃ v,vs[i]? = some v ∧ Im K H v t
 | _,[],_,_,_,e=>by simp at e
 | _,_ :: _,0,_,h,e=>by obtain ⟨v,r,rfl,h1,h2⟩:=h.inv; simp at e; subst e; exact ⟨v,rfl,h1⟩
 | _,_ :: _,i + 1,_,h,e=>by obtain ⟨v,r,rfl,h1,h2⟩:=h.inv; simpa using h2.get (i:=i) (by simpa using e)
theorem Ims.take:∀ (n:Nat) {vs:List V} {ts:List T},Ims K H vs ts → Ims K H (vs.take n) (ts.take n)
 | 0,_,_,_=>by simp; exact .nil
 | _ + 1,_,[],h=>by rw [h.inv0]; exact .nil
 | n + 1,_,_ :: _,h=>by obtain ⟨v,r,rfl,h1,h2⟩:=h.inv; exact .cons h1 (h2.take n)
theorem Ims.drop:∀ (n:Nat) {vs:List V} {ts:List T},Ims K H vs ts → Ims K H (vs.drop n) (ts.drop n)
 | 0,_,_,h=>h
 | _ + 1,_,[],h=>by rw [h.inv0]; exact .nil
 | n + 1,_,_ :: _,h=>by obtain ⟨v,r,rfl,h1,h2⟩:=h.inv; exact h2.drop n
theorem Ims.set:∀ {vs:List V} {ts:List T} (i:Nat) {v:V} {t:T},Ims K H vs ts → Im K H v t → Ims K H (vs.set i v) (ts.set i t)
 | _,[],_,_,_,h,_=>by rw [h.inv0]; exact .nil
 | _,_ :: _,0,_,_,h,h'=>by obtain ⟨v,r,rfl,h1,h2⟩:=h.inv; exact .cons h' h2
 | _,_ :: _,i + 1,_,_,h,h'=>by obtain ⟨v,r,rfl,h1,h2⟩:=h.inv; exact .cons h1 (h2.set i h')
theorem Ims.rev:∀ {vs:List V} {ts:List T},Ims K H vs ts → Ims K H vs.reverse ts.reverse
 | _,[],h=>by rw [h.inv0]; exact .nil
 | _,_ :: _,h=>by obtain ⟨v,r,rfl,h1,h2⟩:=h.inv; simp only [List.reverse_cons]; exact h2.rev.app (.one h1)
theorem Ims.atoms:∀ (vs:List V),Ims K H vs (vs.map T.a)
 | []=>.nil
 | v :: r=>.cons (by unfold Im; rfl) (Ims.atoms r)
theorem Ims.of_atoms:∀ {vs:List V} {us:List V},Ims K H vs (us.map T.a) → vs = us
 | _,[],h=>h.inv0
 | _,_ :: _,h=>by obtain ⟨v,r,rfl,h1,h2⟩:=h.inv; unfold Im at h1; rw [h1,Ims.of_atoms h2]
theorem Im.atom {v:V}:Im K H v (.a v):=by unfold Im; rfl
theorem Im.tup {p:Addr} {vs:List V} {ts:List T} (h:H p = some (.tup vs)) (hs:Ims K H vs ts):Im K H (.ref p) (.t ts):=by unfold Im; exact ⟨p,vs,rfl,Tp.of h,hs⟩
theorem Im.inv {v:V} {ts:List T} (h:Im K H v (.t ts)):∃ p vs,v = .ref p ∧ Tp K H p vs ∧ Ims K H vs ts:=by unfold Im at h; exact h
theorem Im.invl {v:V} {ts:List T} (h:Im K H v (.l ts)):∃ p vs,v = .ref p ∧ KF K H p vs ∧ Ims K H vs ts:=by unfold Im at h; exact h
theorem Im.fn {v:V} {n:Str} (h:FOk K v n):Im K H v (.f n):=by unfold Im; exact h
theorem Im.invf {v:V} {n:Str} (h:Im K H v (.f n)):FOk K v n:=by unfold Im at h; exact h
theorem Im.lam {p:Addr} {L:Lam} {vs:List V} {ts:List T} (h:LOk H p L vs) (hs:Ims K H vs ts):Im K H (.ref p) (.m L ts):=by unfold Im; exact ⟨p,vs,rfl,h,hs⟩
theorem Im.invm {v:V} {L:Lam} {ts:List T} (h:Im K H v (.m L ts)):∃ p vs,v = .ref p ∧ LOk H p L vs ∧ Ims K H vs ts:=by unfold Im at h; exact h
theorem Im.inva {v u:V} (h:Im K H v (.a u)):v = u:=by unfold Im at h; exact h
end
theorem KF.sq {K:Fg} {H:Hp} {p:Addr} {vs:List V} (h:KF K H p vs):SqL K H p vs:=by
 rcases h with h | h
 ·exact .inl (.inr h)
 ·exact .inr h
theorem KF.of {K:Fg} {H:Hp} {p:Addr} {vs:List V} (h:SqL K H p vs) (n:∀ us,H p ≠ some (.lst us)):KF K H p vs:=by
 rcases h with (h | h) | h
 ·exact absurd h (n vs)
 ·exact .inl h
 ·exact .inr h
noncomputable def DOk (K:Fg) (H:Hp):HO → Dk → Prop
 | .dK l,.inl kvs=>Paired (fun (a:Key × V) (b:Key × T)=>a.1 = b.1 ∧ Im K H a.2 b.2) l kvs
 | .dT l,.inr kvs=>Paired (fun (a:List Key × V) (b:List Key × T)=>a.1 = b.1 ∧ Im K H a.2 b.2) l kvs
 | _,_=>False
theorem DOk.mu {K:Fg} {H:Hp} {o:HO} {kvs:Dk} (h:DOk K H o kvs):Mu o:=by
 unfold DOk at h
 split at h
 ·trivial
 ·trivial
 ·exact h.elim
theorem DOk.evo {K:Fg} {L:List Addr} {H H':Hp} {o:HO} {kvs:Dk} (e:Evo L H H') (hL:LL L H) (h:DOk K H o kvs):DOk K H' o kvs:=by
 unfold DOk at h ⊢
 split at h
 ·exact Paired.mapP h fun _ _ z=>⟨z.1,z.2.evo e hL⟩
 ·exact Paired.mapP h fun _ _ z=>⟨z.1,z.2.evo e hL⟩
 ·exact h.elim
noncomputable def GOk (K:Fg) (w:W) (H:Hp) (v:V):G → Prop
 | .v t=>Im K H v t
 | .l xs=>∃ p vs,v = .ref p ∧ p ∈ w.L ∧ H p = some (.lst vs) ∧ Ims K H vs xs
 | .r xs=>∃ p vs,v = .ref p ∧ Ims K H vs xs ∧ H p = some (.lst vs) ∧ p ∉ w.L ∧ w.R p
 | .k xs=>∃ p vs,v = .ref p ∧ Ims K H vs xs ∧ KF K H p vs
 | .d kvs=>∃ p o,v = .ref p ∧ p ∈ w.L ∧ H p = some o ∧ DOk K H o kvs
 | .e kvs=>∃ p o,v = .ref p ∧ DOk K H o kvs ∧ H p = some o ∧ p ∉ w.L ∧ w.R p
theorem GOk.own {K:Fg} {w:W} {H:Hp} {v:V} {g:G} (m:isMut g = true) (h:GOk K w H v g):∃ p,v = .ref p ∧ p ∈ w.L:=by
 cases g with
 | l xs=>obtain ⟨p,vs,e,m,_⟩:=h; exact ⟨p,e,m⟩
 | d xs=>obtain ⟨p,vs,e,m,_⟩:=h; exact ⟨p,e,m⟩
 | v _=>cases m
 | r _=>cases m
 | k _=>cases m
 | e _=>cases m
noncomputable def Ow (C:Fr) (p:Addr):Prop:=p ∈ C.fx ∨ C.H0 p = none
structure Rep (K:Fg) (C:Fr) (w:W) (Γ:En) (σ:St) (H:Hp):Prop where
 len:σ.length = Γ.length
 val:∀ (i:Nat) g,Γ[i]? = some (some g) → ∃ v,σ[i]? = some (some v) ∧ GOk K w H v g
 apart:∀ (i j:Nat) p g g',isMut g = true → isMut g' = true → Γ[i]? = some (some g) → Γ[j]? = some (some g') → σ[i]? = some (some (.ref p)) → σ[j]? = some (some (.ref p)) → i = j
 lst:LL w.L H
 own:∀ p ∈ w.L,Ow C p
 ra:∀ p,w.R p → ∃ o,H p = some o
 rl:∀ p,w.R p → p ∉ w.L
 frame:∀ b o,C.H0 b = some o → b ∉ C.fx → H b = some o
 tab:TabOk K H
 pin:∀ q ∈ C.pins,σ[q.1]? = some (some (.ref q.2)) ∧ ∃ xs,Γ[q.1]? = some (some (.l xs))
noncomputable def SOk (K:Fg) (C:Fr) (w:W) (σ:St) (H:Hp) (v:V):S → Prop
 | .v t=>Im K H v t
 | .l xs=>∃ p vs,v = .ref p ∧ p ∉ w.L ∧ ¬ w.R p ∧ Ow C p ∧ H p = some (.lst vs) ∧ Ims K H vs xs
 | .s i=>σ[i]? = some (some v)
 | .d kvs=>∃ p o,v = .ref p ∧ p ∉ w.L ∧ ¬ w.R p ∧ Ow C p ∧ H p = some o ∧ DOk K H o kvs
section
variable {K:Fg} {C:Fr} {w:W} {Γ Γ':En} {σ:St} {H H':Hp}
theorem GOk.evo {v:V} {g:G} (e:Evo w.L H H') (hL:LL w.L H) (hl:isMut g = false) (h:GOk K w H v g):GOk K w H' v g:=by
 cases g with
 | v t=>exact Im.evo e hL h
 | l xs=>cases hl
 | d xs=>cases hl
 | e kvs =>
  obtain ⟨p,o,rfl,hi,h⟩:=h
  exact ⟨p,o,rfl,hi.evo e hL,e _ _ h.1 h.2.1,h.2⟩
 | r xs =>
  obtain ⟨p,vs,rfl,hi,h⟩:=h
  exact ⟨p,vs,rfl,hi.evo e hL,e _ _ h.1 h.2.1,h.2⟩
 | k xs =>
  obtain ⟨p,vs,rfl,hi,h⟩:=h
  exact ⟨p,vs,rfl,hi.evo e hL,h.evo e hL⟩
theorem SOk.evo {v:V} {s:S} (e:Evo w.L H H') (hL:LL w.L H) (h:SOk K C w σ H v s):SOk K C w σ H' v s:=by
 cases s with
 | v t=>exact Im.evo e hL h
 | l xs =>
  obtain ⟨p,vs,rfl,n1,n2,o,h1,h2⟩:=h
  exact ⟨p,vs,rfl,n1,n2,o,e _ _ h1 n1,h2.evo e hL⟩
 | s i=>exact h
 | d kvs =>
  obtain ⟨p,o,rfl,n1,n2,ow,h1,h2⟩:=h
  exact ⟨p,o,rfl,n1,n2,ow,e _ _ h1 n1,h2.evo e hL⟩
theorem SOk.atom {v:V}:SOk K C w σ H v (.v (.a v)):=by show Im K H v (.a v); exact Im.atom
theorem SOk.inva {v u:V} (h:SOk K C w σ H v (.v (.a u))):v = u:=by
 have h':Im K H v (.a u):=h
 exact h'.inva
theorem SOk.invt {v:V} {ts:List T} (h:SOk K C w σ H v (.v (.t ts))):∃ p vs,v = .ref p ∧ Tp K H p vs ∧ Ims K H vs ts:=by
 have h':Im K H v (.t ts):=h
 exact h'.inv
theorem Rep.evo0 (r:Rep K C w Γ σ H) (e:∀ b o,H b = some o → H' b = some o):Rep K C w Γ σ H' where
 len:=r.len
 val:=fun i g h=>by
  obtain ⟨v,e1,e2⟩:=r.val i g h
  refine ⟨v,e1,?_⟩
  cases g with
  | l xs =>
   obtain ⟨p,vs,rfl,hp,h1,h2⟩:=e2
   exact ⟨p,vs,rfl,hp,e _ _ h1,h2.evo (L:=w.L) (fun b o h _=>e b o h) r.lst⟩
  | d xs =>
   obtain ⟨p,o,rfl,hp,h1,h2⟩:=e2
   exact ⟨p,o,rfl,hp,e _ _ h1,h2.evo (L:=w.L) (fun b o h _=>e b o h) r.lst⟩
  | v t=>exact GOk.evo (fun b o h _=>e b o h) r.lst rfl e2
  | r xs=>exact GOk.evo (fun b o h _=>e b o h) r.lst rfl e2
  | k xs=>exact GOk.evo (fun b o h _=>e b o h) r.lst rfl e2
  | e xs=>exact GOk.evo (fun b o h _=>e b o h) r.lst rfl e2
 apart:=r.apart
 lst:=fun p hp=>by obtain ⟨o,h,m⟩:=r.lst p hp; exact ⟨o,e _ _ h,m⟩
 own:=r.own
 ra:=fun p hp=>by obtain ⟨o,h⟩:=r.ra p hp; exact ⟨o,e _ _ h⟩
 rl:=r.rl
 frame:=fun b o h n=>e _ _ (r.frame b o h n)
 tab:=fun c P z=>e _ _ (r.tab c P z)
 pin:=r.pin
theorem Rep.same (r:Rep K C w Γ σ H) (e:Same H H'):Rep K C w Γ σ H':=r.evo0 e
theorem Rep.new {p:Addr} {o:HO} (r:Rep K C w Γ σ H) (h:H p = none):Rep K C w Γ σ (upd H p o):=r.evo0 fun b u e=>by rw [upd_ne (ne_of_none e h)]; exact e
theorem Rep.fresh {p:Addr} (r:Rep K C w Γ σ H) (h:H p = none):p ∉ w.L ∧ ¬ w.R p ∧ Ow C p:=by
 refine ⟨fun z=>?_,fun z=>?_,?_⟩
 ·obtain ⟨vs,e,_⟩:=r.lst p z; rw [h] at e; cases e
 ·obtain ⟨o,e⟩:=r.ra p z; rw [h] at e; cases e
 ·by_cases q:p ∈ C.fx
  ·exact .inl q
  ·refine .inr ?_
   cases e:C.H0 p with
   | none=>rfl
   | some o=>rw [r.frame p o e q] at h; cases h
theorem Rep.newl {p:Addr} {vs:List V} {ts:List T} (r:Rep K C w Γ σ H) (h:H p = none) (hi:Ims K H vs ts):SOk K C w σ (upd H p (.lst vs)) (.ref p) (.l ts):=by
 obtain ⟨a,b,c⟩:=r.fresh h
 exact ⟨p,vs,rfl,a,b,c,upd_same,hi.evo (Evo.new h) r.lst⟩
theorem Rep.newt {p:Addr} {vs:List V} {ts:List T} (r:Rep K C w Γ σ H) (h:H p = none) (hi:Ims K H vs ts):SOk K C w σ (upd H p (.tup vs)) (.ref p) (.v (.t ts)):=by
 exact Im.tup upd_same (hi.evo (L:=w.L) (Evo.new h) r.lst)
theorem Rep.put3 {i:Nat} {p:Addr} {g0 g1:G} {ob:HO} (r:Rep K C w Γ σ H) (m0:isMut g0 = true) (m1:isMut g1 = true) (hpin:∀ xs,g0 = .l xs → ∃ ys,g1 = .l ys) (hi:Γ[i]? = some (some g0)) (hp:σ[i]? = some (some (.ref p))) (ev1:Evo [p] H H') (hp':H' p = some ob) (mb:Mu ob) (hq:p ∈ w.L) (hu:GOk K w H' (.ref p) g1) :
  Rep K C w (Γ.set i (some g1)) σ H' ∧ Evo w.L H H':=by
 have hiΓ:i < Γ.length:=(List.getElem?_eq_some_iff.mp hi).1
 have ev:Evo w.L H H':=ev1.wide fun q hq'=>List.mem_singleton.mp hq' ▸ hq
 have ne:∀ {c:Addr} {o:HO},c ≠ p → H c = some o → H' c = some o:=fun n e=>ev1 _ _ e fun z=>n (List.mem_singleton.mp z)
 refine ⟨⟨by simpa using r.len,fun j g h=>?_,fun j k c g g' mg mg' h1 h2 h3 h4=>?_,fun c hc=>?_,r.own,fun c hc=>?_,r.rl,fun b o h n=>?_,r.tab.evo ev r.lst,fun c hc=>?_⟩,ev⟩
 ·by_cases hj:j = i
  ·subst hj
   rw [List.getElem?_set_self hiΓ] at h
   cases h
   exact ⟨_,hp,hu⟩
  ·rw [List.getElem?_set_ne (Ne.symm hj)] at h
   obtain ⟨v,e1,e2⟩:=r.val j g h
   refine ⟨v,e1,?_⟩
   cases g with
   | l zs =>
    obtain ⟨c,vs',rfl,hc,h1,h2⟩:=e2
    have:c ≠ p:=fun z=>hj (r.apart j i p _ _ rfl m0 h hi (z ▸ e1) hp)
    exact ⟨c,vs',rfl,hc,ne this h1,h2.evo ev r.lst⟩
   | d zs =>
    obtain ⟨c,vs',rfl,hc,h1,h2⟩:=e2
    have:c ≠ p:=fun z=>hj (r.apart j i p _ _ rfl m0 h hi (z ▸ e1) hp)
    exact ⟨c,vs',rfl,hc,ne this h1,h2.evo ev r.lst⟩
   | v t=>exact GOk.evo ev r.lst rfl e2
   | r zs=>exact GOk.evo ev r.lst rfl e2
   | k zs=>exact GOk.evo ev r.lst rfl e2
   | e zs=>exact GOk.evo ev r.lst rfl e2
 ·have back:∀ (m:Nat) (g:G),isMut g = true → (Γ.set i (some g1))[m]? = some (some g) → ∃ g',isMut g' = true ∧ Γ[m]? = some (some g'):=fun m g mg h=>by
   by_cases hm:m = i
   ·subst hm; exact ⟨g0,m0,hi⟩
   ·rw [List.getElem?_set_ne (Ne.symm hm)] at h; exact ⟨g,mg,h⟩
  obtain ⟨z1,y1,g1⟩:=back j g mg h1
  obtain ⟨z2,y2,g2⟩:=back k g' mg' h2
  exact r.apart j k c z1 z2 y1 y2 g1 g2 h3 h4
 ·by_cases hcp:c = p
  ·subst hcp; exact ⟨ob,hp',mb⟩
  ·obtain ⟨o,e,m⟩:=r.lst c hc; exact ⟨o,ne hcp e,m⟩
 ·have:c ≠ p:=fun z=>r.rl c hc (z ▸ hq)
  obtain ⟨o,e⟩:=r.ra c hc
  exact ⟨o,ne this e⟩
 ·by_cases hb:b = p
  ·subst hb
   rcases r.own b hq with z | z
   ·exact absurd z n
   ·rw [z] at h; cases h
  ·exact ne hb (r.frame b o h n)
 ·obtain ⟨h1,zs,h2⟩:=r.pin c hc
  refine ⟨h1,?_⟩
  by_cases hm:c.1 = i
  ·rw [hm,hi] at h2
   cases h2
   obtain ⟨ys,e⟩:=hpin zs rfl
   exact ⟨ys,by rw [hm,List.getElem?_set_self hiΓ,e]⟩
  ·exact ⟨zs,by rw [List.getElem?_set_ne (Ne.symm hm)]; exact h2⟩
theorem Rep.put2 {i:Nat} {p:Addr} {xs ys:List T} {us:List V} (r:Rep K C w Γ σ H) (hi:Γ[i]? = some (some (.l xs))) (hp:σ[i]? = some (some (.ref p))) (ev1:Evo [p] H H') (hp':H' p = some (.lst us)) (hu:Ims K H' us ys) :
  Rep K C w (Γ.set i (some (.l ys))) σ H' ∧ Evo w.L H H':=by
 obtain ⟨v,e1,q,vs,rfl,hq,hv,_⟩:=r.val i _ hi
 rw [hp] at e1; cases e1
 exact r.put3 rfl rfl (fun _ _=>⟨ys,rfl⟩) hi hp ev1 hp' trivial hq ⟨p,us,rfl,hq,hp',hu⟩
theorem Rep.put {i:Nat} {p:Addr} {xs ys:List T} {us:List V} (r:Rep K C w Γ σ H) (hi:Γ[i]? = some (some (.l xs))) (hp:σ[i]? = some (some (.ref p))) (hu:Ims K H us ys) :
  Rep K C w (Γ.set i (some (.l ys))) σ (upd H p (.lst us)) ∧ Evo w.L H (upd H p (.lst us)):=by
 obtain ⟨v,e1,q,vs,rfl,hq,hv,_⟩:=r.val i _ hi
 rw [hp] at e1; cases e1
 have ev1:Evo [p] H (upd H p (.lst us)):=fun b o e n=>by rw [upd_ne (show b ≠ p from fun z=>n (List.mem_singleton.mpr z))]; exact e
 exact r.put2 hi hp ev1 upd_same (hu.evo (ev1.wide fun q hq'=>List.mem_singleton.mp hq' ▸ hq) r.lst)
theorem Rep.temp {p:Addr} (r:Rep K C w Γ σ H) (n1:p ∉ w.L) (n2:¬ w.R p) (ow:Ow C p) (hl:∃ o,H p = some o ∧ Mu o) (ev1:Evo [p] H H'):Rep K C w Γ σ H':=by
 have ne:∀ {c:Addr} {o:HO},c ≠ p → H c = some o → H' c = some o:=fun n e=>ev1 _ _ e fun z=>n (List.mem_singleton.mp z)
 have hL:LL [p] H:=fun q hq=>by rw [List.mem_singleton.mp hq]; exact hl
 refine ⟨r.len,fun j g h=>?_,r.apart,fun c hc=>?_,r.own,fun c hc=>?_,r.rl,fun b o h n=>?_,r.tab.evo ev1 hL,r.pin⟩
 ·obtain ⟨v,e1,e2⟩:=r.val j g h
  refine ⟨v,e1,?_⟩
  cases g with
  | v t=>exact Im.evo ev1 hL e2
  | l zs =>
   obtain ⟨c,vs',rfl,hc,h1,h2⟩:=e2
   exact ⟨c,vs',rfl,hc,ne (fun z=>n1 (z ▸ hc)) h1,h2.evo ev1 hL⟩
  | r zs =>
   obtain ⟨c,vs',rfl,h1,h2⟩:=e2
   exact ⟨c,vs',rfl,h1.evo ev1 hL,ne (fun z=>n2 (z ▸ h2.2.2)) h2.1,h2.2⟩
  | k zs =>
   obtain ⟨c,vs',rfl,h1,h2⟩:=e2
   exact ⟨c,vs',rfl,h1.evo ev1 hL,h2.evo ev1 hL⟩
  | d zs =>
   obtain ⟨c,vs',rfl,hc,h1,h2⟩:=e2
   exact ⟨c,vs',rfl,hc,ne (fun z=>n1 (z ▸ hc)) h1,h2.evo ev1 hL⟩
  | e zs =>
   obtain ⟨c,vs',rfl,h1,h2⟩:=e2
   exact ⟨c,vs',rfl,h1.evo ev1 hL,ne (fun z=>n2 (z ▸ h2.2.2)) h2.1,h2.2⟩
 ·obtain ⟨o,e,m⟩:=r.lst c hc; exact ⟨o,ne (fun z=>n1 (z ▸ hc)) e,m⟩
 ·obtain ⟨o,e⟩:=r.ra c hc; exact ⟨o,ne (fun z=>n2 (z ▸ hc)) e⟩
 ·by_cases hb:b = p
  ·subst hb
   rcases ow with z | z
   ·exact absurd z n
   ·rw [z] at h; cases h
  ·exact ne hb (r.frame b o h n)
theorem Rep.setv {i:Nat} {v:V} {g:G} (r:Rep K C w Γ σ H) (hg:isMut g = false) (h:GOk K w H v g) (hn:∀ q ∈ C.pins,q.1 ≠ i):Rep K C w (Γ.set i (some g)) (σ.set i (some v)) H where
 len:=by simpa using r.len
 val:=fun j g' hj=>by
  by_cases hji:j = i
  ·subst hji
   have hjl:j < Γ.length:=by
    rcases Nat.lt_or_ge j Γ.length with z | z
    ·exact z
    ·rw [List.getElem?_eq_none (by simpa using z)] at hj; cases hj
   rw [List.getElem?_set_self hjl] at hj
   cases hj
   exact ⟨v,by rw [List.getElem?_set_self (by rw [r.len]; exact hjl)],h⟩
  ·rw [List.getElem?_set_ne (Ne.symm hji)] at hj
   rw [List.getElem?_set_ne (Ne.symm hji)]
   exact r.val j g' hj
 apart:=fun j k p ga gb ma mb h1 h2 h3 h4=>by
  have ne:∀ (m:Nat) (gc:G),isMut gc = true → (Γ.set i (some g))[m]? = some (some gc) → m ≠ i ∧ Γ[m]? = some (some gc):=fun m gc mc hm=>by
   by_cases e:m = i
   ·subst e
    rcases Nat.lt_or_ge m Γ.length with z | z
    ·rw [List.getElem?_set_self z] at hm; cases hm; rw [hg] at mc; cases mc
    ·rw [List.getElem?_eq_none (by simpa using z)] at hm; cases hm
   ·rw [List.getElem?_set_ne (Ne.symm e)] at hm; exact ⟨e,hm⟩
  obtain ⟨n1,g1⟩:=ne j ga ma h1
  obtain ⟨n2,g2⟩:=ne k gb mb h2
  rw [List.getElem?_set_ne (Ne.symm n1)] at h3
  rw [List.getElem?_set_ne (Ne.symm n2)] at h4
  exact r.apart j k p ga gb ma mb g1 g2 h3 h4
 lst:=r.lst
 own:=r.own
 ra:=r.ra
 rl:=r.rl
 frame:=r.frame
 tab:=r.tab
 pin:=fun q hq=>by
  obtain ⟨h1,xs,h2⟩:=r.pin q hq
  have:=hn q hq
  exact ⟨by rw [List.getElem?_set_ne (Ne.symm this)]; exact h1,xs,by rw [List.getElem?_set_ne (Ne.symm this)]; exact h2⟩
theorem Rep.setm {i:Nat} {p:Addr} {ob:HO} {g:G} (r:Rep K C w Γ σ H) (mg:isMut g = true) (n1:p ∉ w.L) (n2:¬ w.R p) (ow:Ow C p) (hp:H p = some ob) (mb:Mu ob) (hv:GOk K ⟨p :: w.L,w.R⟩ H (.ref p) g) (hn:∀ q ∈ C.pins,q.1 ≠ i) :
  Rep K C ⟨p :: w.L,w.R⟩ (Γ.set i (some g)) (σ.set i (some (.ref p))) H where
 len:=by simpa using r.len
 val:=fun j g' hj=>by
  by_cases hji:j = i
  ·subst hji
   have hjl:j < Γ.length:=by
    rcases Nat.lt_or_ge j Γ.length with z | z
    ·exact z
    ·rw [List.getElem?_eq_none (by simpa using z)] at hj; cases hj
   rw [List.getElem?_set_self hjl] at hj
   cases hj
   exact ⟨_,by rw [List.getElem?_set_self (by rw [r.len]; exact hjl)],hv⟩
  ·rw [List.getElem?_set_ne (Ne.symm hji)] at hj
   rw [List.getElem?_set_ne (Ne.symm hji)]
   obtain ⟨v,e1,e2⟩:=r.val j g' hj
   refine ⟨v,e1,?_⟩
   cases g' with
   | v t=>exact e2
   | l ys=>obtain ⟨c,us,rfl,hc,h1,h2⟩:=e2; exact ⟨c,us,rfl,List.mem_cons_of_mem _ hc,h1,h2⟩
   | d ys=>obtain ⟨c,us,rfl,hc,h1,h2⟩:=e2; exact ⟨c,us,rfl,List.mem_cons_of_mem _ hc,h1,h2⟩
   | r ys =>
    obtain ⟨c,us,rfl,hi,h⟩:=e2
    refine ⟨c,us,rfl,hi,h.1,fun z=>?_,h.2.2⟩
    rcases List.mem_cons.mp z with z | z
    ·exact n2 (z ▸ h.2.2)
    ·exact h.2.1 z
   | e ys =>
    obtain ⟨c,us,rfl,hi,h⟩:=e2
    refine ⟨c,us,rfl,hi,h.1,fun z=>?_,h.2.2⟩
    rcases List.mem_cons.mp z with z | z
    ·exact n2 (z ▸ h.2.2)
    ·exact h.2.1 z
   | k ys=>exact e2
 apart:=fun j k c ga gb ma mb' h1 h2 h3 h4=>by
  have ne:∀ (m:Nat) (gc:G),isMut gc = true → m ≠ i → (Γ.set i (some g))[m]? = some (some gc) → (σ.set i (some (.ref p)))[m]? = some (some (.ref c)) → Γ[m]? = some (some gc) ∧ σ[m]? = some (some (.ref c)) ∧ c ≠ p:=fun m gc mc e h h'=>by
   rw [List.getElem?_set_ne (Ne.symm e)] at h
   rw [List.getElem?_set_ne (Ne.symm e)] at h'
   refine ⟨h,h',fun z=>?_⟩
   obtain ⟨v,e1,hg⟩:=r.val m _ h
   obtain ⟨q,rfl,hq⟩:=hg.own mc
   rw [h'] at e1; cases e1
   exact n1 (z ▸ hq)
  have at_i:∀ (m:Nat),m = i → (σ.set i (some (.ref p)))[m]? = some (some (.ref c)) → c = p:=fun m e h=>by
   subst e
   rcases Nat.lt_or_ge m σ.length with z | z
   ·rw [List.getElem?_set_self z] at h; cases h; rfl
   ·rw [List.getElem?_eq_none (by simpa using z)] at h; cases h
  by_cases e1:j = i
  ·by_cases e2:k = i
   ·rw [e1,e2]
   ·obtain ⟨_,_,n⟩:=ne k gb mb' e2 h2 h4
    exact absurd (at_i j e1 h3) n
  ·obtain ⟨g1,s1,n⟩:=ne j ga ma e1 h1 h3
   by_cases e2:k = i
   ·exact absurd (at_i k e2 h4) n
   ·obtain ⟨g2,s2,_⟩:=ne k gb mb' e2 h2 h4
    exact r.apart j k c ga gb ma mb' g1 g2 s1 s2
 lst:=fun c hc=>by
  rcases List.mem_cons.mp hc with e | e
  ·subst e; exact ⟨ob,hp,mb⟩
  ·exact r.lst c e
 own:=fun c hc=>by
  rcases List.mem_cons.mp hc with e | e
  ·subst e; exact ow
  ·exact r.own c e
 ra:=r.ra
 rl:=fun c hc z=>by
  rcases List.mem_cons.mp z with e | e
  ·subst e; exact n2 hc
  ·exact r.rl c hc e
 frame:=r.frame
 tab:=r.tab
 pin:=fun q hq=>by
  obtain ⟨h1,xs',h2⟩:=r.pin q hq
  have:=hn q hq
  exact ⟨by rw [List.getElem?_set_ne (Ne.symm this)]; exact h1,xs',by rw [List.getElem?_set_ne (Ne.symm this)]; exact h2⟩
theorem Rep.setl {i:Nat} {p:Addr} {vs:List V} {xs:List T} (r:Rep K C w Γ σ H) (n1:p ∉ w.L) (n2:¬ w.R p) (ow:Ow C p) (hp:H p = some (.lst vs)) (hv:Ims K H vs xs) (hn:∀ q ∈ C.pins,q.1 ≠ i) :
  Rep K C ⟨p :: w.L,w.R⟩ (Γ.set i (some (.l xs))) (σ.set i (some (.ref p))) H :=
 r.setm rfl n1 n2 ow hp trivial ⟨p,vs,rfl,List.mem_cons_self,hp,hv⟩ hn
theorem Rep.setd {i:Nat} {p:Addr} {ob:HO} {kvs:Dk} (r:Rep K C w Γ σ H) (n1:p ∉ w.L) (n2:¬ w.R p) (ow:Ow C p) (hp:H p = some ob) (hv:DOk K H ob kvs) (hn:∀ q ∈ C.pins,q.1 ≠ i) :
  Rep K C ⟨p :: w.L,w.R⟩ (Γ.set i (some (.d kvs))) (σ.set i (some (.ref p))) H :=
 r.setm rfl n1 n2 ow hp hv.mu ⟨p,ob,rfl,List.mem_cons_self,hp,hv⟩ hn
end
end D
set_option Elab.async false
set_option linter.all false
set_option maxRecDepth 100000
set_option maxHeartbeats 4000000
namespace D
open PySem L2
noncomputable def SOks (K:Fg) (C:Fr) (w:W) (σ:St) (H:Hp):List V → List S → Prop
 | [],[]=>True
 | v :: vs,s :: ss=>SOk K C w σ H v s ∧ SOks K C w σ H vs ss
 | _,_=>False
noncomputable def Nw (H:Hp) (v:V):S → Prop
 | .l _=>∃ p,v = .ref p ∧ H p = none
 | .d _=>∃ p,v = .ref p ∧ H p = none
 | _=>True
noncomputable def Nws (H:Hp):List V → List S → Prop
 | v :: vs,s :: ss=>Nw H v s ∧ Nws H vs ss
 | _,_=>True
theorem none_back {L:List Addr} {H H':Hp} {p:Addr} (e:Evo L H H') (hL:LL L H') (h:H' p = none):H p = none:=by
 cases q:H p with
 | none=>rfl
 | some o =>
  by_cases z:p ∈ L
  ·obtain ⟨vs,u,_⟩:=hL p z; rw [h] at u; cases u
  ·rw [e p o q z] at h; cases h
theorem Nw.back {L:List Addr} {H H':Hp} {v:V} {s:S} (n:Nw H' v s) (e:Evo L H H') (hL:LL L H'):Nw H v s:=by
 cases s with
 | l xs=>obtain ⟨p,a,b⟩:=n; exact ⟨p,a,none_back e hL b⟩
 | d xs=>obtain ⟨p,a,b⟩:=n; exact ⟨p,a,none_back e hL b⟩
 | v t=>trivial
 | s i=>trivial
theorem Nws.back {L:List Addr} {H H':Hp} (e:Evo L H H') (hL:LL L H'):∀ {vs:List V} {ss:List S},Nws H' vs ss → Nws H vs ss
 | [],[],_=>trivial
 | [],_ :: _,_=>trivial
 | _ :: _,[],_=>trivial
 | _ :: _,_ :: _,h=>⟨h.1.back e hL,Nws.back e hL h.2⟩
theorem Nws.get {H:Hp}:∀ {vs:List V} {ss:List S} {k:Nat} {v:V} {s:S},Nws H vs ss → vs[k]? = some v → ss[k]? = some s → Nw H v s
 | [],_,_,_,_,_,e,_=>by simp at e
 | _ :: _,[],_,_,_,_,_,e=>by simp at e
 | _ :: _,_ :: _,0,_,_,h,e,e'=>by simp at e e'; subst e e'; exact h.1
 | _ :: _,_ :: _,k + 1,_,_,h,e,e'=>Nws.get (k:=k) h.2 (by simpa using e) (by simpa using e')
noncomputable def SimE (K:Fg) (te:TE) (f:DE):Prop:=∀ (C:Fr) (w:W) (Γ:En) (σ:St) (H:Hp) (s:S) (Γ':En) (Q:VK),Rep K C w Γ σ H → f Γ = some (s,Γ') →
 (∀ v H',Rep K C w Γ' σ H' → Evo w.L H H' → SOk K C w σ H' v s → Nw H v s → Q v H') → te σ H Q
noncomputable def SimT (K:Fg) (tt:TT) (f:DT):Prop:=∀ (C:Fr) (w:W) (Γ:En) (σ:St) (H:Hp) (b:Bool) (Γ':En) (Q:Bool → Hp → Prop),Rep K C w Γ σ H → f Γ = some (b,Γ') →
 (∀ H',Rep K C w Γ' σ H' → Evo w.L H H' → Q b H') → tt σ H Q
noncomputable def SimA (K:Fg) (ta:TA) (f:DA):Prop:=∀ (C:Fr) (w:W) (Γ:En) (σ:St) (H:Hp) (ss:List S) (Γ':En) (Q:List V → Hp → Prop),Rep K C w Γ σ H → f Γ = some (ss,Γ') →
 (∀ vs H',Rep K C w Γ' σ H' → Evo w.L H H' → SOks K C w σ H' vs ss → Nws H vs ss → Q vs H') → ta σ H Q
noncomputable def OkO (K:Fg) (C:Fr) (D:Ends):O → Prop
 | .nx Γ=>∀ w σ H,Rep K C w Γ σ H → D.nx σ H
 | .rt s Γ=>∀ w σ H v,Rep K C w Γ σ H → SOk K C w σ H v s → D.rt v H
 | .bk Γ=>∀ w σ H,Rep K C w Γ σ H → D.bk σ H
 | .ct Γ=>∀ w σ H,Rep K C w Γ σ H → D.ct σ H
noncomputable def SimS (K:Fg) (ip:Option Nat) (ts:TS) (g:DS):Prop:=∀ (C:Fr) (w:W) (Γ:En) (σ:St) (H:Hp) (D:Ends) (o:O),C.pins.map (·.1) = ip.toList → Rep K C w Γ σ H → g Γ = some o → OkO K C D o → ts D σ H
noncomputable def SimR2 (K:Fg) (r:R2) (h:En → S → S → Option S):Prop:=∀ (C:Fr) (w:W) (Γ:En) (σ:St) (H:Hp) (x y:V) (a b s:S) (Q:VK),Rep K C w Γ σ H → SOk K C w σ H x a → SOk K C w σ H y b → h Γ a b = some s →
 (∀ v H',Rep K C w Γ σ H' → Evo w.L H H' → SOk K C w σ H' v s → Nw H v s → Q v H') → r x y H Q
noncomputable def SimRs (K:Fg) (r:List V → Hp → VK → Prop) (h:En → List S → Option S):Prop:=∀ (C:Fr) (w:W) (Γ:En) (σ:St) (H:Hp) (xs:List V) (as:List S) (s:S) (Q:VK),Rep K C w Γ σ H → SOks K C w σ H xs as → h Γ as = some s →
 (∀ v H',Rep K C w Γ σ H' → Evo w.L H H' → SOk K C w σ H' v s → Nw H v s → Q v H') → r xs H Q
noncomputable def dVar (i:Nat):DE:=fun Γ=>match Γ[i]? with
 | some (some (.v t))=>some (.v t,Γ)
 | some (some (.l _))=>some (.s i,Γ)
 | some (some (.r _))=>some (.s i,Γ)
 | some (some (.k _))=>some (.s i,Γ)
 | some (some (.d _))=>some (.s i,Γ)
 | some (some (.e _))=>some (.s i,Γ)
 | _=>none
noncomputable def dC (v:V):DE:=fun Γ=>some (.v (.a v),Γ)
noncomputable def dOp (h:En → S → S → Option S) (fa fb:DE):DE:=fun Γ=>(fa Γ).bind fun p=>(fb p.2).bind fun q=>(h q.2 p.1 q.1).map fun s=>(s,q.2)
noncomputable def dUn (h:En → S → Option S) (fa:DE):DE:=fun Γ=>(fa Γ).bind fun p=>(h p.2 p.1).map fun s=>(s,p.2)
noncomputable def dCB (h:En → List S → Option S) (fa:DA):DE:=fun Γ=>(fa Γ).bind fun p=>(h p.2 p.1).map fun s=>(s,p.2)
noncomputable def dNil:DA:=fun Γ=>some ([],Γ)
noncomputable def dCons (fa:DE) (fr:DA):DA:=fun Γ=>(fa Γ).bind fun p=>(fr p.2).bind fun q=>some (p.1 :: q.1,q.2)
noncomputable def S.tree:S → Option T
 | .v t=>some t
 | _=>none
noncomputable def trees:List S → Option (List T)
 | []=>some []
 | s :: r=>s.tree.bind fun t=>(trees r).map fun ts=>t :: ts
noncomputable def gd {α:Type} (n:Nat) (x:α):Option α:=if n ≤ sizeLine then some x else none
theorem gd_of {α:Type} {n:Nat} {x y:α} (h:gd n x = some y):n ≤ sizeLine ∧ x = y:=by
 unfold gd at h; split at h
 ·exact ⟨by assumption,Option.some.inj h⟩
 ·cases h
noncomputable def dTup (fa:DA):DE:=fun Γ=>(fa Γ).bind fun p=>(trees p.1).bind fun ts=>gd ts.length (.v (.t ts),p.2)
noncomputable def dLst (fa:DA):DE:=fun Γ=>(fa Γ).bind fun p=>(trees p.1).bind fun ts=>gd ts.length (.l ts,p.2)
noncomputable def dTest (f:DE):DT:=fun Γ=>(f Γ).bind fun p=>match p.1 with
 | .v (.a (.bl b))=>some (b,p.2)
 | _=>none
noncomputable def dAnd (f g:DT):DT:=fun Γ=>(f Γ).bind fun p=>if p.1 = true then g p.2 else some (false,p.2)
noncomputable def dOr (f g:DT):DT:=fun Γ=>(f Γ).bind fun p=>if p.1 = true then some (true,p.2) else g p.2
noncomputable def dNot (f:DT):DT:=fun Γ=>(f Γ).bind fun p=>some (!p.1,p.2)
noncomputable def dAndV (f g:DE):DE:=fun Γ=>(dTest f Γ).bind fun p=>if p.1 = true then g p.2 else some (.v (.a (.bl false)),p.2)
noncomputable def dOrV (f g:DE):DE:=fun Γ=>(dTest f Γ).bind fun p=>if p.1 = true then some (.v (.a (.bl true)),p.2) else g p.2
noncomputable def dNotV (f:DE):DE:=fun Γ=>(dTest f Γ).bind fun p=>some (.v (.a (.bl !p.1)),p.2)
noncomputable def dIfE (c:DT) (f g:DE):DE:=fun Γ=>(c Γ).bind fun p=>if p.1 = true then f p.2 else g p.2
noncomputable def dChain (h h':En → S → S → Option S) (fa fb fc:DE):DE:=fun Γ=>(fa Γ).bind fun p=>(fb p.2).bind fun q=>(h q.2 p.1 q.1).bind fun z=>match z with
 | .v (.a (.bl k))=>if k = true then (fc q.2).bind fun u=>(h' u.2 q.1 u.1).map fun s=>(s,u.2) else some (.v (.a (.bl false)),q.2)
 | _=>none
section
variable {K:Fg} {ip:Option Nat}
theorem bind_some {α β:Type} {x:Option α} {f:α → Option β} {y:β} (h:x.bind f = some y):∃ a,x = some a ∧ f a = some y:=by
 cases x with
 | none=>cases h
 | some a=>exact ⟨a,rfl,h⟩
theorem map_some {α β:Type} {x:Option α} {f:α → β} {y:β} (h:x.map f = some y):∃ a,x = some a ∧ f a = y:=by
 cases x with
 | none=>cases h
 | some a=>exact ⟨a,rfl,Option.some.inj h⟩
theorem sim_var {i:Nat}:SimE K (tVar i) (dVar i):=by
 intro C w Γ σ H s Γ' Q R h k
 unfold dVar at h
 split at h
 ·rename_i t e
  cases h
  obtain ⟨v,e1,e2⟩:=R.val i _ e
  exact ⟨v,e1,k v H R .refl e2 trivial⟩
 ·rename_i xs e
  cases h
  obtain ⟨v,e1,e2⟩:=R.val i _ e
  exact ⟨v,e1,k v H R .refl e1 trivial⟩
 ·rename_i xs e
  cases h
  obtain ⟨v,e1,e2⟩:=R.val i _ e
  exact ⟨v,e1,k v H R .refl e1 trivial⟩
 ·rename_i xs e
  cases h
  obtain ⟨v,e1,e2⟩:=R.val i _ e
  exact ⟨v,e1,k v H R .refl e1 trivial⟩
 ·rename_i xs e
  cases h
  obtain ⟨v,e1,e2⟩:=R.val i _ e
  exact ⟨v,e1,k v H R .refl e1 trivial⟩
 ·rename_i xs e
  cases h
  obtain ⟨v,e1,e2⟩:=R.val i _ e
  exact ⟨v,e1,k v H R .refl e1 trivial⟩
 ·cases h
theorem sim_c {v:V}:SimE K (tC v) (dC v):=by
 intro C w Γ σ H s Γ' Q R h k
 cases h
 exact k v H R .refl SOk.atom trivial
theorem sim_op {r:R2} {h:En → S → S → Option S} {ta tb:TE} {fa fb:DE} (hr:SimR2 K r h) (ha:SimE K ta fa) (hb:SimE K tb fb):SimE K (tOp r ta tb) (dOp h fa fb):=by
 intro C w Γ σ H s Γ' Q R e k
 obtain ⟨p,e1,e⟩:=bind_some e
 obtain ⟨q,e2,e⟩:=bind_some e
 obtain ⟨z,e3,e⟩:=map_some e
 cases e
 refine ha C w Γ σ H p.1 p.2 _ R e1 fun v1 H1 R1 ev1 o1 n1=>?_
 refine hb C w p.2 σ H1 q.1 q.2 _ R1 e2 fun v2 H2 R2 ev2 o2 n2=>?_
 exact hr C w q.2 σ H2 v1 v2 _ _ _ Q R2 (o1.evo ev2 R1.lst) o2 e3 fun v H3 R3 ev3 o3 n3=>k v H3 R3 ((ev1.trans ev2).trans ev3) o3 (n3.back (ev1.trans ev2) R2.lst)
theorem sim_cb {r:List V → Hp → VK → Prop} {h:En → List S → Option S} {ta:TA} {fa:DA} (hr:SimRs K r h) (ha:SimA K ta fa):SimE K (tCB r ta) (dCB h fa):=by
 intro C w Γ σ H s Γ' Q R e k
 obtain ⟨p,e1,e⟩:=bind_some e
 obtain ⟨z,e3,e⟩:=map_some e
 cases e
 refine ha C w Γ σ H p.1 p.2 _ R e1 fun v1 H1 R1 ev1 o1 n1=>?_
 exact hr C w p.2 σ H1 v1 _ _ Q R1 o1 e3 fun v H3 R3 ev3 o3 n3=>k v H3 R3 (ev1.trans ev3) o3 (n3.back ev1 R1.lst)
theorem sim_nil:SimA K tNil dNil:=by
 intro C w Γ σ H s Γ' Q R e k
 cases e
 exact k [] H R .refl trivial trivial
theorem sim_cons {ta:TE} {tr:TA} {fa:DE} {fr:DA} (ha:SimE K ta fa) (hr:SimA K tr fr):SimA K (tCons ta tr) (dCons fa fr):=by
 intro C w Γ σ H s Γ' Q R e k
 obtain ⟨p,e1,e⟩:=bind_some e
 obtain ⟨q,e2,e⟩:=bind_some e
 cases e
 refine ha C w Γ σ H p.1 p.2 _ R e1 fun v1 H1 R1 ev1 o1 n1=>?_
 exact hr C w p.2 σ H1 q.1 q.2 _ R1 e2 fun vs H2 R2 ev2 o2 n2=>k (v1 :: vs) H2 R2 (ev1.trans ev2) ⟨o1.evo ev2 R1.lst,o2⟩ ⟨n1,n2.back ev1 R1.lst⟩
theorem trees_ok {C:Fr} {w:W} {σ:St} {H:Hp}:∀ {vs:List V} {ss:List S} {ts:List T},SOks K C w σ H vs ss → trees ss = some ts → Ims K H vs ts
 | [],[],_,_,e=>by cases e; exact .nil
 | v :: vs,s :: ss,_,h,e=>by
  obtain ⟨t,e1,e⟩:=bind_some e
  obtain ⟨ts,e2,e⟩:=map_some e
  cases e
  cases s with
  | v t'=>cases e1; exact .cons h.1 (trees_ok h.2 e2)
  | l _=>cases e1
  | s _=>cases e1
  | d _=>cases e1
 | [],_ :: _,_,h,_=>h.elim
 | _ :: _,[],_,h,_=>h.elim
theorem sim_tup {ta:TA} {fa:DA} (ha:SimA K ta fa):SimE K (tTup ta) (dTup fa):=by
 intro C w Γ σ H s Γ' Q R e k
 obtain ⟨p,e1,e⟩:=bind_some e
 obtain ⟨ts,e2,e⟩:=bind_some e
 obtain ⟨hn,e⟩:=gd_of e
 cases e
 refine ha C w Γ σ H p.1 p.2 _ R e1 fun vs H1 R1 ev1 o1 _=>?_
 have hi:=trees_ok o1 e2
 exact ⟨by rw [hi.len]; exact hn,fun q hq=>k _ _ (R1.new hq) (ev1.trans (Evo.new hq)) (R1.newt hq hi) trivial⟩
theorem sim_lst {ta:TA} {fa:DA} (ha:SimA K ta fa):SimE K (tLst ta) (dLst fa):=by
 intro C w Γ σ H s Γ' Q R e k
 obtain ⟨p,e1,e⟩:=bind_some e
 obtain ⟨ts,e2,e⟩:=bind_some e
 obtain ⟨hn,e⟩:=gd_of e
 cases e
 refine ha C w Γ σ H p.1 p.2 _ R e1 fun vs H1 R1 ev1 o1 _=>?_
 have hi:=trees_ok o1 e2
 exact ⟨by rw [hi.len]; exact hn,fun q hq=>k _ _ (R1.new hq) (ev1.trans (Evo.new hq)) (R1.newl hq hi) ⟨_,rfl,none_back ev1 R1.lst hq⟩⟩
theorem sim_test {ta:TE} {fa:DE} (ha:SimE K ta fa):SimT K (tTest ta) (dTest fa):=by
 intro C w Γ σ H s Γ' Q R e k
 obtain ⟨p,e1,e⟩:=bind_some e
 obtain ⟨p1,p2⟩:=p
 dsimp only at e
 split at e
 ·cases e
  refine ha C w Γ σ H _ _ _ R e1 fun v H1 R1 ev1 o1 _=>?_
  exact ⟨_,SOk.inva o1,k H1 R1 ev1⟩
 ·cases e
theorem sim_and {ta tb:TT} {fa fb:DT} (ha:SimT K ta fa) (hb:SimT K tb fb):SimT K (tAnd ta tb) (dAnd fa fb):=by
 intro C w Γ σ H s Γ' Q R e k
 obtain ⟨⟨p,G1⟩,e1,e⟩:=bind_some e
 refine ha C w Γ σ H p G1 _ R e1 fun H1 R1 ev1=>?_
 cases p with
 | true=>exact (if_pos rfl).mpr (hb C w G1 σ H1 s Γ' Q R1 (by simpa using e) fun H2 R2 ev2=>k H2 R2 (ev1.trans ev2))
 | false =>
  have e':(false,G1) = (s,Γ'):=by simpa using e
  cases e'
  exact (if_neg Bool.false_ne_true).mpr (k H1 R1 ev1)
theorem sim_or {ta tb:TT} {fa fb:DT} (ha:SimT K ta fa) (hb:SimT K tb fb):SimT K (tOr ta tb) (dOr fa fb):=by
 intro C w Γ σ H s Γ' Q R e k
 obtain ⟨⟨p,G1⟩,e1,e⟩:=bind_some e
 refine ha C w Γ σ H p G1 _ R e1 fun H1 R1 ev1=>?_
 cases p with
 | false=>exact (if_neg Bool.false_ne_true).mpr (hb C w G1 σ H1 s Γ' Q R1 (by simpa using e) fun H2 R2 ev2=>k H2 R2 (ev1.trans ev2))
 | true =>
  have e':(true,G1) = (s,Γ'):=by simpa using e
  cases e'
  exact (if_pos rfl).mpr (k H1 R1 ev1)
theorem sim_not {ta:TT} {fa:DT} (ha:SimT K ta fa):SimT K (tNot ta) (dNot fa):=by
 intro C w Γ σ H s Γ' Q R e k
 obtain ⟨p,e1,e⟩:=bind_some e
 cases e
 exact ha C w Γ σ H p.1 p.2 _ R e1 fun H1 R1 ev1=>k H1 R1 ev1
theorem sim_andV {ta tb:TE} {fa fb:DE} (ha:SimE K ta fa) (hb:SimE K tb fb):SimE K (tAndV ta tb) (dAndV fa fb):=by
 intro C w Γ σ H s Γ' Q R e k
 obtain ⟨⟨p,G1⟩,e1,e⟩:=bind_some e
 refine (sim_test ha) C w Γ σ H p G1 (fun c H1=>if c = true then tb σ H1 Q else Q (.bl false) H1) R e1 fun H1 R1 ev1=>?_
 cases p with
 | true=>exact (if_pos rfl).mpr (hb C w G1 σ H1 s Γ' Q R1 (by simpa using e) fun v H2 R2 ev2 o n=>k v H2 R2 (ev1.trans ev2) o (n.back ev1 R1.lst))
 | false =>
  have e':(S.v (.a (.bl false)),G1) = (s,Γ'):=by simpa using e
  cases e'
  exact (if_neg Bool.false_ne_true).mpr (k _ H1 R1 ev1 SOk.atom trivial)
theorem sim_orV {ta tb:TE} {fa fb:DE} (ha:SimE K ta fa) (hb:SimE K tb fb):SimE K (tOrV ta tb) (dOrV fa fb):=by
 intro C w Γ σ H s Γ' Q R e k
 obtain ⟨⟨p,G1⟩,e1,e⟩:=bind_some e
 refine (sim_test ha) C w Γ σ H p G1 (fun c H1=>if c = true then Q (.bl true) H1 else tb σ H1 Q) R e1 fun H1 R1 ev1=>?_
 cases p with
 | false=>exact (if_neg Bool.false_ne_true).mpr (hb C w G1 σ H1 s Γ' Q R1 (by simpa using e) fun v H2 R2 ev2 o n=>k v H2 R2 (ev1.trans ev2) o (n.back ev1 R1.lst))
 | true =>
  have e':(S.v (.a (.bl true)),G1) = (s,Γ'):=by simpa using e
  cases e'
  exact (if_pos rfl).mpr (k _ H1 R1 ev1 SOk.atom trivial)
theorem sim_notV {ta:TE} {fa:DE} (ha:SimE K ta fa):SimE K (tNotV ta) (dNotV fa):=by
 intro C w Γ σ H s Γ' Q R e k
 obtain ⟨⟨p,G1⟩,e1,e⟩:=bind_some e
 cases e
 exact (sim_test ha) C w Γ σ H p G1 (fun c H1=>Q (.bl (!c)) H1) R e1 fun H1 R1 ev1=>k _ H1 R1 ev1 SOk.atom trivial
theorem sim_ifE {tc:TT} {ta tb:TE} {fc:DT} {fa fb:DE} (hc:SimT K tc fc) (ha:SimE K ta fa) (hb:SimE K tb fb):SimE K (tIf tc ta tb) (dIfE fc fa fb):=by
 intro C w Γ σ H s Γ' Q R e k
 obtain ⟨⟨p,G1⟩,e1,e⟩:=bind_some e
 refine hc C w Γ σ H p G1 _ R e1 fun H1 R1 ev1=>?_
 cases p with
 | true=>exact (if_pos rfl).mpr (ha C w G1 σ H1 s Γ' Q R1 (by simpa using e) fun v H2 R2 ev2 o n=>k v H2 R2 (ev1.trans ev2) o (n.back ev1 R1.lst))
 | false=>exact (if_neg Bool.false_ne_true).mpr (hb C w G1 σ H1 s Γ' Q R1 (by simpa using e) fun v H2 R2 ev2 o n=>k v H2 R2 (ev1.trans ev2) o (n.back ev1 R1.lst))
end
noncomputable def dNext:DS:=fun Γ=>some (.nx Γ)
noncomputable def dSeq (f g:DS):DS:=fun Γ=>(f Γ).bind fun o=>match o with
 | .nx Γ'=>g Γ'
 | o=>some o
noncomputable def dDrop (f:DE):DS:=fun Γ=>(f Γ).map fun p=>.nx p.2
noncomputable def dRet (f:DE):DS:=fun Γ=>(f Γ).map fun p=>.rt p.1 p.2
noncomputable def dRetN:DS:=fun Γ=>some (.rt (.v (.a .non)) Γ)
noncomputable def dIf (c:DT) (f g:DS):DS:=fun Γ=>(c Γ).bind fun p=>if p.1 = true then f p.2 else g p.2
noncomputable def setS (i:Nat) (s:S) (Γ:En):Option En:=match s with
 | .v t=>some (Γ.set i (some (.v t)))
 | .l xs=>some (Γ.set i (some (.l xs)))
 | .d xs=>some (Γ.set i (some (.d xs)))
 | .s j=>match Γ[j]? with
  | some (some (.r xs))=>some (Γ.set i (some (.r xs)))
  | _=>none
noncomputable def dSet (i:Nat) (f:DE):DS:=fun Γ=>(f Γ).bind fun p=>(setS i p.1 p.2).map .nx
noncomputable def dWhile (c:DT) (b:DS):Nat → DS
 | 0=>fun _=>none
 | n + 1=>fun Γ=>(c Γ).bind fun p=>if p.1 = true then (b p.2).bind fun o=>match o with
   | .nx Γ'=>dWhile c b n Γ'
   | .ct Γ'=>dWhile c b n Γ'
   | .bk Γ'=>some (.nx Γ')
   | .rt s Γ'=>some (.rt s Γ')
  else some (.nx p.2)
section
variable {K:Fg} {ip:Option Nat}
theorem simS_next:SimS K ip tNext dNext:=fun C w Γ σ H D o _ R e k=>by cases e; exact k w σ H R
theorem simS_seq {t u:TS} {f g:DS} (h1:SimS K ip t f) (h2:SimS K ip u g):SimS K ip (tSeq t u) (dSeq f g):=by
 intro C w Γ σ H D o hp R e k
 obtain ⟨o1,e1,e⟩:=bind_some e
 refine h1 C w Γ σ H _ o1 hp R e1 ?_
 cases o1 with
 | nx Γ1=>exact fun w' σ' H' R'=>h2 C w' Γ1 σ' H' D o hp R' e k
 | rt s Γ1=>cases e; exact k
 | bk Γ1=>cases e; exact k
 | ct Γ1=>cases e; exact k
theorem simS_drop {te:TE} {f:DE} (h:SimE K te f):SimS K ip (tDrop te) (dDrop f):=by
 intro C w Γ σ H D o hp R e k
 obtain ⟨p,e1,e⟩:=map_some e
 subst e
 exact h C w Γ σ H p.1 p.2 _ R e1 fun v H1 R1 _ _ _=>k w σ H1 R1
theorem simS_ret {te:TE} {f:DE} (h:SimE K te f):SimS K ip (tRet te) (dRet f):=by
 intro C w Γ σ H D o hp R e k
 obtain ⟨p,e1,e⟩:=map_some e
 subst e
 exact h C w Γ σ H p.1 p.2 _ R e1 fun v H1 R1 _ o _=>k w σ H1 v R1 o
theorem simS_if {tc:TT} {t u:TS} {c:DT} {f g:DS} (hc:SimT K tc c) (h1:SimS K ip t f) (h2:SimS K ip u g):SimS K ip (tIfS tc t u) (dIf c f g):=by
 intro C w Γ σ H D o hp R e k
 obtain ⟨⟨p,G1⟩,e1,e⟩:=bind_some e
 refine hc C w Γ σ H p G1 _ R e1 fun H1 R1 _=>?_
 cases p with
 | true=>exact (if_pos rfl).mpr (h1 C w G1 σ H1 D o hp R1 (by simpa using e) k)
 | false=>exact (if_neg Bool.false_ne_true).mpr (h2 C w G1 σ H1 D o hp R1 (by simpa using e) k)
theorem pins_ne {C:Fr} {i:Nat} (hp:C.pins.map (·.1) = ip.toList) (hi:ip ≠ some i):∀ q ∈ C.pins,q.1 ≠ i:=fun q hq e=>by
 have:q.1 ∈ ip.toList:=hp ▸ List.mem_map.mpr ⟨q,hq,rfl⟩
 rw [Option.mem_toList] at this
 exact hi (by rw [this,e])
theorem setS_ok {C:Fr} {w:W} {Γ Γ':En} {σ:St} {H:Hp} {v:V} {s:S} {i:Nat} (R:Rep K C w Γ σ H) (o:SOk K C w σ H v s) (e:setS i s Γ = some Γ') (hn:∀ q ∈ C.pins,q.1 ≠ i):∃ w',Rep K C w' Γ' (σ.set i (some v)) H:=by
 cases s with
 | v t=>cases e; exact ⟨w,R.setv rfl o hn⟩
 | d xs =>
  cases e
  obtain ⟨p,vs,rfl,n1,n2,ow,h1,h2⟩:=o
  exact ⟨_,R.setd n1 n2 ow h1 h2 hn⟩
 | l xs =>
  cases e
  obtain ⟨p,vs,rfl,n1,n2,ow,h1,h2⟩:=o
  exact ⟨_,R.setl n1 n2 ow h1 h2 hn⟩
 | s j =>
  unfold setS at e
  dsimp only at e
  split at e
  ·rename_i xs he
   cases e
   obtain ⟨v',e1,e2⟩:=R.val j _ he
   have o':σ[j]? = some (some v):=o
   rw [o'] at e1; cases e1
   exact ⟨w,R.setv rfl e2 hn⟩
  ·cases e
theorem simS_set {te:TE} {f:DE} {i:Nat} (h:SimE K te f) (hi:ip ≠ some i):SimS K ip (tAsg te (gName i)) (dSet i f):=by
 intro C w Γ σ H D o hp R e k
 obtain ⟨p,e1,e⟩:=bind_some e
 obtain ⟨Γ1,e2,e⟩:=map_some e
 subst e
 refine h C w Γ σ H p.1 p.2 _ R e1 fun v H1 R1 _ o1 _=>?_
 obtain ⟨w',R'⟩:=setS_ok R1 o1 e2 (pins_ne hp hi)
 exact k w' _ H1 R'
theorem simS_while {tc:TT} {tb:TS} {c:DT} {b:DS} (n:Nat) (hc:SimT K tc c) (hb:SimS K ip tb b):SimS K ip (tWhile tc tb) (dWhile c b n):=by
 intro C w Γ σ H D o hp R e k
 refine ⟨fun m σ H=>∃ w Γ,Rep K C w Γ σ H ∧ dWhile c b m Γ = some o,⟨n,w,Γ,R,e⟩,?_⟩
 rintro m σ1 H1 ⟨w1,Γ1,R1,e1⟩
 cases m with
 | zero=>cases e1
 | succ m =>
  unfold dWhile at e1
  obtain ⟨⟨p,G2⟩,e2,e1⟩:=bind_some e1
  refine hc C w1 Γ1 σ1 H1 p G2 _ R1 e2 fun H2 R2 _=>?_
  cases p with
  | false =>
   rw [if_neg Bool.false_ne_true] at e1 ⊢
   cases e1
   exact k w1 σ1 H2 R2
  | true =>
   rw [if_pos rfl] at e1 ⊢
   obtain ⟨o2,e3,e1⟩:=bind_some e1
   refine ⟨fun σ' H'=>∃ w Γ,Rep K C w Γ σ' H' ∧ dWhile c b m Γ = some o,fun σ' H' ⟨w',Γ',R',e'⟩=>⟨m,Nat.lt_succ_self _,w',Γ',R',e'⟩,?_⟩
   refine hb C w1 G2 σ1 H2 _ o2 hp R2 e3 ?_
   cases o2 with
   | nx Γ'=>exact fun w' σ' H' R'=>⟨w',Γ',R',e1⟩
   | ct Γ'=>exact fun w' σ' H' R'=>⟨w',Γ',R',e1⟩
   | bk Γ'=>cases e1; exact k
   | rt s Γ'=>cases e1; exact k
end
end D
set_option Elab.async false
set_option linter.all false
set_option maxRecDepth 100000
set_option maxHeartbeats 4000000
namespace D
open PySem L2
section
variable {K:Fg} {C:Fr} {w:W} {Γ Γ':En} {σ:St} {H H':Hp}
theorem Rep.base (R:Rep K C w Γ σ H):Rep K ⟨H,w.L,C.pins⟩ w Γ σ H :=
 ⟨R.len,R.val,R.apart,R.lst,fun p hp=>.inl hp,R.ra,R.rl,fun b o h _=>h,R.tab,R.pin⟩
theorem Rep.back {C1:Fr} {w1:W} {Γ1:En} {σ1:St} {H1:Hp} (R:Rep K C w Γ σ H) (hC:C1 = ⟨H,w.L,C.pins⟩) (R1:Rep K C1 w1 Γ1 σ1 H1):Rep K C w1 Γ1 σ1 H1:=by
 subst hC
 refine ⟨R1.len,R1.val,R1.apart,R1.lst,fun p hp=>?_,R1.ra,R1.rl,fun b o h n=>R1.frame b o (R.frame b o h n) fun z=>?_,R1.tab,R1.pin⟩
 ·rcases R1.own p hp with z | z
  ·exact R.own p z
  ·exact (R.fresh z).2.2
 ·rcases R.own b z with q | q
  ·exact n q
  ·rw [q] at h; cases h
theorem Ow.back {C1:Fr} {p:Addr} (R:Rep K C w Γ σ H) (hC:C1 = ⟨H,w.L,C.pins⟩) (h:Ow C1 p):Ow C p:=by
 subst hC
 rcases h with z | z
 ·exact R.own p z
 ·exact (R.fresh z).2.2
theorem SOk.back {C1:Fr} {w1:W} {σ1:St} {H1:Hp} {v:V} {s:S} (R:Rep K C w Γ σ H) (hC:C1 = ⟨H,w.L,C.pins⟩) (o:SOk K C1 w1 σ1 H1 v s):SOk K C w1 σ1 H1 v s:=by
 cases s with
 | v t=>exact o
 | s i=>exact o
 | l xs =>
  obtain ⟨p,vs,e,n1,n2,ow,h1,h2⟩:=o
  exact ⟨p,vs,e,n1,n2,Ow.back R hC ow,h1,h2⟩
 | d xs =>
  obtain ⟨p,vs,e,n1,n2,ow,h1,h2⟩:=o
  exact ⟨p,vs,e,n1,n2,Ow.back R hC ow,h1,h2⟩
theorem Rep.freeze {i:Nat} {xs:List T} {p:Addr} (R:Rep K C w Γ σ H) (hi:Γ[i]? = some (some (.l xs))) (hp:σ[i]? = some (some (.ref p))) (hn:∀ q ∈ C.pins,q.1 ≠ i) :
  Rep K C ⟨w.L.filter (fun q=>decide (q ≠ p)),fun q=>q = p ∨ w.R q⟩ (Γ.set i (some (.r xs))) σ H:=by
 have hiΓ:i < Γ.length:=(List.getElem?_eq_some_iff.mp hi).1
 obtain ⟨v0,e0,q0,vs0,rfl,hq0,hv0,hi0⟩:=R.val i _ hi
 rw [hp] at e0; cases e0
 have mem:∀ {q:Addr},q ∈ w.L.filter (fun q=>decide (q ≠ p)) ↔ q ∈ w.L ∧ q ≠ p:=by intro q; simp
 have back:∀ (m:Nat) (g:G),isMut g = true → (Γ.set i (some (.r xs)))[m]? = some (some g) → m ≠ i ∧ Γ[m]? = some (some g):=fun m g mg h=>by
  by_cases hm:m = i
  ·subst hm; rw [List.getElem?_set_self hiΓ] at h; cases h; cases mg
  ·rw [List.getElem?_set_ne (Ne.symm hm)] at h; exact ⟨hm,h⟩
 refine ⟨by simpa using R.len,fun j g h=>?_,fun j k c ga gb ma mb h1 h2 h3 h4=>?_,fun c hc=>R.lst c (mem.mp hc).1,fun c hc=>R.own c (mem.mp hc).1,fun c hc=>?_,fun c hc z=>?_,R.frame,R.tab,fun q hq=>?_⟩
 ·by_cases hj:j = i
  ·subst hj
   rw [List.getElem?_set_self hiΓ] at h
   cases h
   exact ⟨_,hp,p,vs0,rfl,hi0,hv0,fun z=>(mem.mp z).2 rfl,.inl rfl⟩
  ·rw [List.getElem?_set_ne (Ne.symm hj)] at h
   obtain ⟨v,e1,e2⟩:=R.val j g h
   refine ⟨v,e1,?_⟩
   cases g with
   | v t=>exact e2
   | l ys =>
    obtain ⟨c,us,rfl,hc,h1,h2⟩:=e2
    exact ⟨c,us,rfl,mem.mpr ⟨hc,fun z=>hj (R.apart j i p _ _ rfl rfl h hi (z ▸ e1) hp)⟩,h1,h2⟩
   | d ys =>
    obtain ⟨c,us,rfl,hc,h1,h2⟩:=e2
    exact ⟨c,us,rfl,mem.mpr ⟨hc,fun z=>hj (R.apart j i p _ _ rfl rfl h hi (z ▸ e1) hp)⟩,h1,h2⟩
   | r ys =>
    obtain ⟨c,us,rfl,h1,h2⟩:=e2
    exact ⟨c,us,rfl,h1,h2.1,fun z=>h2.2.1 (mem.mp z).1,.inr h2.2.2⟩
   | e ys =>
    obtain ⟨c,us,rfl,h1,h2⟩:=e2
    exact ⟨c,us,rfl,h1,h2.1,fun z=>h2.2.1 (mem.mp z).1,.inr h2.2.2⟩
   | k ys=>exact e2
 ·obtain ⟨_,g1⟩:=back j ga ma h1
  obtain ⟨_,g2⟩:=back k gb mb h2
  exact R.apart j k c ga gb ma mb g1 g2 h3 h4
 ·rcases hc with e | e
  ·subst e; exact ⟨_,hv0⟩
  ·exact R.ra c e
 ·rcases hc with e | e
  ·exact (mem.mp z).2 e
  ·exact R.rl c e (mem.mp z).1
 ·obtain ⟨h1,zs,h2⟩:=R.pin q hq
  exact ⟨h1,zs,by rw [List.getElem?_set_ne (Ne.symm (hn q hq))]; exact h2⟩
noncomputable def frz1 (Γ:En) (i:Nat):En:=match Γ[i]? with
 | some (some (.l xs))=>Γ.set i (some (.r xs))
 | _=>Γ
noncomputable def frz (Γ:En) (src:List Nat):En:=src.foldl frz1 Γ
theorem Rep.frz:∀ (src:List Nat) {w:W} {Γ:En},Rep K C w Γ σ H → (∀ i ∈ src,∀ q ∈ C.pins,q.1 ≠ i) →
  ∃ w',Rep K C w' (frz Γ src) σ H ∧ (∀ p ∈ w'.L,p ∈ w.L) ∧ ∀ i ∈ src,∀ p,σ[i]? = some (some (.ref p)) → (∃ xs,Γ[i]? = some (some (.l xs))) → p ∉ w'.L:=by
 intro src
 induction src with
 | nil=>intro w Γ R _; exact ⟨w,R,fun p h=>h,fun i hi=>nomatch hi⟩
 | cons i r ih =>
  intro w Γ R hn
  have step:∃ w1,Rep K C w1 (frz1 Γ i) σ H ∧ (∀ p ∈ w1.L,p ∈ w.L) ∧ (∀ p,σ[i]? = some (some (.ref p)) → (∃ xs,Γ[i]? = some (some (.l xs))) → p ∉ w1.L):=by
   unfold frz1
   split
   ·rename_i xs e
    obtain ⟨v,e1,p,vs,rfl,_⟩:=R.val i _ e
    refine ⟨_,R.freeze e e1 (hn i List.mem_cons_self),fun q hq=>(List.mem_filter.mp hq).1,fun q hq _ z=>?_⟩
    rw [e1] at hq; cases hq
    have:=(List.mem_filter.mp z).2
    simp at this
   ·rename_i e
    exact ⟨w,R,fun p h=>h,fun p _ ⟨xs,h⟩=>absurd h (e xs)⟩
  obtain ⟨w1,R1,s1,n1⟩:=step
  obtain ⟨w2,R2,s2,n2⟩:=ih R1 (fun j hj=>hn j (List.mem_cons_of_mem _ hj))
  refine ⟨w2,R2,fun p h=>s1 p (s2 p h),fun j hj p hp hx=>?_⟩
  rcases List.mem_cons.mp hj with e | e
  ·subst e; exact fun z=>n1 p hp hx (s2 p z)
  ·by_cases hji:j = i
   ·subst hji; exact fun z=>n1 p hp hx (s2 p z)
   ·refine n2 j e p hp ?_
    obtain ⟨xs,hx⟩:=hx
    refine ⟨xs,?_⟩
    unfold frz1
    split
    ·rw [List.getElem?_set_ne (Ne.symm hji)]; exact hx
    ·exact hx
end
noncomputable abbrev DI:=En → Option ((List T × List Nat) × En)
noncomputable def ItOk (K:Fg) (w:W) (Γ:En) (σ:St) (J:It) (H:Hp) (its:List T) (src:List Nat):Prop:=its.length ≤ sizeLine ∧ ∀ L',(∀ p ∈ L',p ∈ w.L) → (∀ i ∈ src,∀ p,σ[i]? = some (some (.ref p)) → (∃ xs,Γ[i]? = some (some (.l xs))) → p ∉ L') → ∀ H2,Evo L' H H2 →
 (∀ (i:Nat) t,its[i]? = some t → J.go i H2 ∧ ∀ x H3,J.yld i H2 x H3 → (∀ b o,H2 b = some o → H3 b = some o) ∧ Im K H3 x t) ∧ J.stop its.length H2
noncomputable def SimI (K:Fg) (wi:TI) (di:DI):Prop:=∀ (C:Fr) (w:W) (Γ:En) (σ:St) (H:Hp) (its:List T) (src:List Nat) (Γ':En) (R:It → Hp → Prop),Rep K C w Γ σ H → di Γ = some ((its,src),Γ') →
 (∀ J H',Rep K C w Γ' σ H' → Evo w.L H H' → ItOk K w Γ' σ J H' its src → R J H') → wi σ H R
noncomputable def SimG (K:Fg) (ip:Option Nat) (g:TG) (tg:En → T → Option En):Prop:=∀ (C:Fr) (w:W) (Γ:En) (σ:St) (H:Hp) (v:V) (t:T) (Γ':En) (Q:St → Hp → Prop),C.pins.map (·.1) = ip.toList → Rep K C w Γ σ H → Im K H v t → tg Γ t = some Γ' →
 (∀ σ',Rep K C w Γ' σ' H → Q σ' H) → g v σ H Q
noncomputable def SimGs (K:Fg) (ip:Option Nat) (g:TGs) (tg:En → List T → Option En):Prop:=∀ (C:Fr) (w:W) (Γ:En) (σ:St) (H:Hp) (vs:List V) (ts:List T) (Γ':En) (Q:St → Hp → Prop),C.pins.map (·.1) = ip.toList → Rep K C w Γ σ H → Ims K H vs ts → tg Γ ts = some Γ' →
 (∀ σ',Rep K C w Γ' σ' H → Q σ' H) → g vs σ H Q
noncomputable def gdName (i:Nat):En → T → Option En:=fun Γ t=>some (Γ.set i (some (.v t)))
noncomputable def gdNil:En → List T → Option En:=fun Γ ts=>match ts with
 | []=>some Γ
 | _=>none
noncomputable def gdCons (f:En → T → Option En) (g:En → List T → Option En):En → List T → Option En:=fun Γ ts=>match ts with
 | []=>none
 | t :: r=>(f Γ t).bind fun Γ1=>g Γ1 r
noncomputable def gdTup (n:Nat) (g:En → List T → Option En):En → T → Option En:=fun Γ t=>match t with
 | .t ts=>if ts.length = n then g Γ ts else none
 | _=>none
section
variable {K:Fg} {ip:Option Nat}
theorem simG_name {i:Nat} (hi:ip ≠ some i):SimG K ip (gName i) (gdName i):=by
 intro C w Γ σ H v t Γ' Q hp R h e k
 cases e
 exact k _ (R.setv rfl h (pins_ne hp hi))
theorem simGs_cons {g:TG} {gs:TGs} {f:En → T → Option En} {fs:En → List T → Option En} (h1:SimG K ip g f) (h2:SimGs K ip gs fs):SimGs K ip (gCons g gs) (gdCons f fs):=by
 intro C w Γ σ H vs ts Γ' Q hp R h e k
 cases ts with
 | nil=>cases e
 | cons t r =>
  obtain ⟨Γ1,e1,e2⟩:=bind_some e
  obtain ⟨v,us,rfl,i1,i2⟩:=h.inv
  exact ⟨v,us,rfl,h1 C w Γ σ H v t Γ1 _ hp R i1 e1 fun σ1 R1=>h2 C w Γ1 σ1 H us r Γ' Q hp R1 i2 e2 k⟩
end
noncomputable def forD (tg:En → T → Option En) (b:DS):List T → DS
 | []=>fun Γ=>some (.nx Γ)
 | t :: r=>fun Γ=>(tg Γ t).bind fun Γ1=>(b Γ1).bind fun o=>match o with
  | .nx Γ'=>forD tg b r Γ'
  | .ct Γ'=>forD tg b r Γ'
  | .bk Γ'=>some (.nx Γ')
  | .rt s Γ'=>some (.rt s Γ')
noncomputable def dFor (ip:Option Nat) (di:DI) (tg:En → T → Option En) (b:DS):DS:=fun Γ=>(di Γ).bind fun p=>if p.1.2.all (fun i=>decide (ip ≠ some i)) = true then forD tg b p.1.1 (frz p.2 p.1.2) else none
theorem simS_for {K:Fg} {ip:Option Nat} {wi:TI} {g:TG} {tb:TS} {di:DI} {tg:En → T → Option En} {b:DS} (hi:SimI K wi di) (hg:SimG K ip g tg) (hb:SimS K ip tb b):SimS K ip (tFor wi g tb) (dFor ip di tg b):=by
 intro C w Γ σ H D o hp R e k
 obtain ⟨⟨⟨its,src⟩,Γ1⟩,e1,e⟩:=bind_some e
 dsimp only at e
 split at e
 rotate_left
 ·cases e
 rename_i hsrc
 refine hi C w Γ σ H its src Γ1 _ R e1 fun J H1 R1 _ ⟨hl,hJ⟩=>?_
 have hs:∀ i ∈ src,∀ q ∈ C.pins,q.1 ≠ i:=fun i hi'=>pins_ne hp (by have:=List.all_eq_true.mp hsrc i hi'; simpa using this)
 obtain ⟨w2,R2,sub,avoid⟩:=R1.frz src hs
 have hC:∃ C1:Fr,C1 = ⟨H1,w2.L,C.pins⟩:=⟨_,rfl⟩
 obtain ⟨C1,hC⟩:=hC
 have R3:Rep K C1 w2 (frz Γ1 src) σ H1:=hC ▸ R2.base
 have hp1:C1.pins.map (·.1) = ip.toList:=by rw [hC]; exact hp
 refine ⟨fun i m σ H=>m = its.length - i ∧ i ≤ its.length ∧ ∃ w Γ,Rep K C1 w Γ σ H ∧ forD tg b (its.drop i) Γ = some o,⟨_,rfl,Nat.zero_le _,w2,_,R3,e⟩,?_⟩
 rintro i m σ' H' ⟨rfl,hi',w',Γ',R',e'⟩
 have ev:Evo w2.L H1 H':=fun b o h n=>R'.frame b o (by rw [hC]; exact h) (by rw [hC]; exact n)
 obtain ⟨go,stop⟩:=hJ w2.L sub avoid H' ev
 by_cases hlt:i < its.length
 ·obtain ⟨t,ht⟩:∃ t,its[i]? = some t:=⟨its[i],by simp [hlt]⟩
  have hd:its.drop i = t :: its.drop (i + 1):=by
   obtain ⟨h1,h2⟩:=List.getElem?_eq_some_iff.mp ht
   rw [← h2]; exact List.drop_eq_getElem_cons h1
  rw [hd] at e'
  unfold forD at e'
  obtain ⟨Γ2,e2,e'⟩:=bind_some e'
  obtain ⟨o2,e3,e'⟩:=bind_some e'
  obtain ⟨g1,g2⟩:=go i t ht
  refine .inr ⟨g1,fun σ H=>∃ w Γ,Rep K C1 w Γ σ H ∧ forD tg b (its.drop (i + 1)) Γ = some o,fun σ2 H2 ⟨w2,Γ2,R2,e2⟩=>⟨_,by omega,rfl,hlt,w2,Γ2,R2,e2⟩,fun x H3 hx=>?_⟩
  obtain ⟨k1,k2⟩:=g2 x H3 hx
  refine hg C1 w' Γ' σ' H3 x t Γ2 _ hp1 (R'.evo0 k1) k2 e2 fun σ4 R4=>?_
  refine hb C1 w' Γ2 σ4 H3 _ o2 hp1 R4 e3 ?_
  cases o2 with
  | nx Γ5=>exact fun w5 σ5 H5 R5=>⟨w5,Γ5,R5,e'⟩
  | ct Γ5=>exact fun w5 σ5 H5 R5=>⟨w5,Γ5,R5,e'⟩
  | bk Γ5=>cases e'; exact fun w5 σ5 H5 R5=>k w5 σ5 H5 (R2.back hC R5)
  | rt s Γ5=>cases e'; exact fun w5 σ5 H5 v R5 o5=>k w5 σ5 H5 v (R2.back hC R5) (o5.back R2 hC)
 ·have:i = its.length:=by omega
  subst this
  rw [List.drop_length] at e'
  cases e'
  exact .inl ⟨stop,k w' σ' H' (R2.back hC R')⟩
noncomputable def pick1 (mu:Option Nat) (k:Nat):Option G → Option G
 | some (.l xs)=>if mu = some k then some (.l xs) else some (.r xs)
 | some (.d xs)=>some (.e xs)
 | o=>o
noncomputable def pick (mu:Option Nat) (ix:List (Option Nat)) (Γ:En):En:=ix.map fun o=>o.bind fun k=>pick1 mu k (Γ[k]?).join
noncomputable def compD (tg:En → T → Option En) (dc:DT) (de:DE):List T → En → Option (List T × En)
 | [],Γ=>some ([],Γ)
 | t :: r,Γ=>(tg Γ t).bind fun Γ1=>(dc Γ1).bind fun p=>if p.1 = true then (de p.2).bind fun q=>q.1.tree.bind fun t'=>(compD tg dc de r q.2).map fun z=>(t' :: z.1,z.2) else compD tg dc de r p.2
noncomputable def cback (mu:Option (Nat × Nat)) (Γ Γo:En):En:=match mu with
 | none=>Γ
 | some (j,i)=>match Γo[j]? with
  | some (some (.l xs))=>Γ.set i (some (.l xs))
  | _=>Γ
noncomputable def dComp (mu:Option (Nat × Nat)) (ix:List (Option Nat)) (di:DI) (tg:En → T → Option En) (dc:DT) (de:DE):DE:=fun Γ=>(di Γ).bind fun p =>
 match mu with
 | none=>(compD tg dc de p.1.1 (pick none ix p.2)).map fun z=>(.l z.1,p.2)
 | some (j,i)=>if i ∈ p.1.2 then none else match p.2[i]? with
  | some (some (.l _))=>(compD tg dc de p.1.1 (pick (some i) ix p.2)).map fun z=>(.l z.1,cback mu p.2 z.2)
  | _=>none
section
variable {K:Fg}
theorem comp_turns {C1:Fr} {w1:W} {J:It} {H1:Hp} {its:List T} {ix:List (Option Nat)} {g:TG} {tc:TT} {te:TE} {tg:En → T → Option En} {dc:DT} {de:DE} {jp:Option Nat} {σ:St} {Γ0 Γe:En} {ts:List T} {Q:VK}
  (hp:C1.pins.map (·.1) = jp.toList) (hg:SimG K jp g tg) (hc:SimT K tc dc) (he:SimE K te de) (hl:its.length ≤ sizeLine) (hC:C1.H0 = H1)
  (hJ:∀ H2,Evo C1.fx H1 H2 → (∀ (i:Nat) t,its[i]? = some t → J.go i H2 ∧ ∀ x H3,J.yld i H2 x H3 → (∀ b o,H2 b = some o → H3 b = some o) ∧ Im K H3 x t) ∧ J.stop its.length H2)
  (hfx:∀ p,p ∈ w1.L → p ∈ C1.fx)
  (R:Rep K C1 w1 Γ0 (frm ix σ) H1) (e:compD tg dc de its Γ0 = some (ts,Γe))
  (k:∀ σ' H' ys,Rep K C1 w1 Γe σ' H' → Ims K H' ys ts → ys.length ≤ sizeLine → ∀ D,H' D = none → Q (.ref D) (upd H' D (.lst ys))):CompW J ix g tc te σ H1 Q:=by
 refine ⟨fun i m ys σ' H'=>m = its.length - i ∧ i ≤ its.length ∧ ys.length ≤ i ∧ ∃ Γ pre post,Rep K C1 w1 Γ σ' H' ∧ Ims K H' ys pre ∧ compD tg dc de (its.drop i) Γ = some (post,Γe) ∧ ts = pre ++ post,⟨_,rfl,Nat.zero_le _,Nat.zero_le _,Γ0,[],ts,R,.nil,e,rfl⟩,?_⟩
 rintro i m ys σ' H' ⟨rfl,hi,hy,Γ,pre,post,R',hpre,e',rfl⟩
 have ev:Evo C1.fx H1 H':=fun b o h n=>R'.frame b o (by rw [hC]; exact h) n
 obtain ⟨go,stop⟩:=hJ H' ev
 by_cases hlt:i < its.length
 ·obtain ⟨t,ht⟩:∃ t,its[i]? = some t:=⟨its[i],by simp [hlt]⟩
  have hd:its.drop i = t :: its.drop (i + 1):=by
   obtain ⟨h1,h2⟩:=List.getElem?_eq_some_iff.mp ht
   rw [← h2]; exact List.drop_eq_getElem_cons h1
  rw [hd] at e'
  unfold compD at e'
  obtain ⟨Γ1,e1,e'⟩:=bind_some e'
  obtain ⟨⟨b,Γ2⟩,e2,e'⟩:=bind_some e'
  obtain ⟨g1,g2⟩:=go i t ht
  refine .inr ⟨g1,by omega,fun ys' σ2 H2=>ys'.length ≤ i + 1 ∧ ∃ Γ pre' post',Rep K C1 w1 Γ σ2 H2 ∧ Ims K H2 ys' pre' ∧ compD tg dc de (its.drop (i + 1)) Γ = some (post',Γe) ∧ pre ++ post = pre' ++ post',fun ys' σ2 H2 ⟨a,b⟩=>⟨_,by omega,rfl,hlt,a,b⟩,fun x H2 hx=>?_⟩
  obtain ⟨k1,k2⟩:=g2 x H2 hx
  have ev1:Evo w1.L H' H2:=fun b o h _=>k1 b o h
  have R2:=R'.evo0 k1
  refine hg C1 w1 Γ σ' H2 x t Γ1 _ hp R2 k2 e1 fun σ3 R3=>?_
  refine hc C1 w1 Γ1 σ3 H2 b Γ2 _ R3 e2 fun H4 R4 ev4=>?_
  have hpre4:Ims K H4 ys pre:=(hpre.evo ev1 R'.lst).evo ev4 R3.lst
  cases b with
  | true =>
   rw [if_pos rfl] at e' ⊢
   obtain ⟨⟨s,Γ3⟩,e3,e'⟩:=bind_some e'
   obtain ⟨t',e4,e'⟩:=bind_some e'
   obtain ⟨⟨ts',Γ4⟩,e5,e'⟩:=map_some e'
   cases e'
   refine he C1 w1 Γ2 σ3 H4 s Γ3 _ R4 e3 fun v H5 R5 ev5 o5 _=>?_
   cases s with
   | l _=>cases e4
   | s _=>cases e4
   | d _=>cases e4
   | v t'' =>
    cases e4
    exact ⟨by simp; omega,Γ3,pre ++ [t'],ts',R5,(hpre4.evo ev5 R4.lst).app (.one o5),e5,by simp⟩
  | false =>
   rw [if_neg Bool.false_ne_true] at e' ⊢
   exact ⟨by omega,Γ2,pre,post,R4,hpre4,e',rfl⟩
 ·have:i = its.length:=by omega
  subst this
  rw [List.drop_length] at e'
  cases e'
  rw [List.append_nil] at k
  exact .inl ⟨stop,by omega,k σ' H' ys R' hpre (by omega)⟩
theorem pick_get {mu:Option Nat} {ix:List (Option Nat)} {Γ:En} {j:Nat} {g:G} (h:(pick mu ix Γ)[j]? = some (some g)):∃ k g',ix[j]? = some (some k) ∧ Γ[k]? = some (some g') ∧ pick1 mu k (some g') = some g:=by
 unfold pick at h
 rw [List.getElem?_map] at h
 cases e:ix[j]? with
 | none=>rw [e] at h; cases h
 | some o =>
  rw [e] at h
  cases o with
  | none=>cases h
  | some k =>
   have h':pick1 mu k (Γ[k]?).join = some g:=Option.some.inj h
   cases e2:Γ[k]? with
   | none=>rw [e2] at h'; cases h'
   | some o2 =>
    cases o2 with
    | none=>rw [e2] at h'; cases h'
    | some g'=>rw [e2] at h'; exact ⟨k,g',rfl,e2,h'⟩
theorem frm_get {ix:List (Option Nat)} {σ:St} {j k:Nat} {v:V} (h:ix[j]? = some (some k)) (hv:σ[k]? = some (some v)):(frm ix σ)[j]? = some (some v):=by
 unfold frm
 rw [List.getElem?_map,h]
 show some ((σ[k]?).join) = _
 rw [hv]; rfl
theorem sim_comp {mu:Option (Nat × Nat)} {ix:List (Option Nat)} {wi:TI} {g:TG} {tc:TT} {te:TE} {di:DI} {tg:En → T → Option En} {dc:DT} {de:DE} (hi:SimI K wi di) (hg:SimG K (mu.map (·.1)) g tg) (hc:SimT K tc dc) (he:SimE K te de)
  (hmu:∀ j i,mu = some (j,i) → ix[j]? = some (some i)) (hix:∀ (j j' i:Nat),mu.map (·.2) = some i → ix[j]? = some (some i) → ix[j']? = some (some i) → j = j'):SimE K (tComp wi ix g tc te) (dComp mu ix di tg dc de):=by
 intro C w Γ σ H s Γ' Q R e k
 obtain ⟨⟨⟨its,src⟩,Γ1⟩,e1,e⟩:=bind_some e
 refine hi C w Γ σ H its src Γ1 _ R e1 fun J H1 R1 ev1 ⟨hl,hJ⟩=>?_
 cases mu with
 | none =>
  obtain ⟨⟨ts,Γe⟩,e2,e⟩:=map_some e
  cases e
  have Rin:Rep K ⟨H1,[],[]⟩ ⟨[],fun q=>w.R q ∨ q ∈ w.L⟩ (pick none ix Γ1) (frm ix σ) H1:=by
   refine ⟨by simp [pick,frm],fun j g h=>?_,fun i j p ga gb ma mb h1 h2 h3 h4=>?_,fun p hp=>(nomatch hp),fun p hp=>(nomatch hp),fun p hp=>?_,fun p hp=>(nofun),fun b o h _=>h,R1.tab,fun q hq=>(nomatch hq)⟩
   ·obtain ⟨k',g',a1,a2,a3⟩:=pick_get h
    obtain ⟨v,b1,b2⟩:=R1.val k' g' a2
    refine ⟨v,frm_get a1 b1,?_⟩
    cases g' with
    | v t=>cases a3; exact b2
    | l xs =>
     have:g = .r xs:=by simpa [pick1] using a3.symm
     subst this
     obtain ⟨p,vs,rfl,c1,c2,c3⟩:=b2
     exact ⟨p,vs,rfl,c3,c2,nofun,.inr c1⟩
    | r xs =>
     cases a3
     obtain ⟨p,vs,rfl,c1,c2⟩:=b2
     exact ⟨p,vs,rfl,c1,c2.1,nofun,.inl c2.2.2⟩
    | d xs =>
     cases a3
     obtain ⟨p,vs,rfl,c1,c2,c3⟩:=b2
     exact ⟨p,vs,rfl,c3,c2,nofun,.inr c1⟩
    | e xs =>
     cases a3
     obtain ⟨p,vs,rfl,c1,c2⟩:=b2
     exact ⟨p,vs,rfl,c1,c2.1,nofun,.inl c2.2.2⟩
    | k xs=>cases a3; exact b2
   ·obtain ⟨k',g',a1,a2,a3⟩:=pick_get h1
    cases g' with
    | v t=>cases a3; cases ma
    | l xs =>
     have:ga = .r xs:=by simpa [pick1] using a3.symm
     subst this; cases ma
    | r xs=>cases a3; cases ma
    | k xs=>cases a3; cases ma
    | d xs=>cases a3; cases ma
    | e xs=>cases a3; cases ma
   ·rcases hp with z | z
    ·exact R1.ra p z
    ·obtain ⟨o,z,_⟩:=R1.lst p z; exact ⟨o,z⟩
  refine comp_turns (jp:=none) (C1:=⟨H1,[],[]⟩) rfl hg hc he hl rfl (fun H2 ev=>hJ [] (fun p hp=>nomatch hp) (fun _ _ _ _ _=>nofun) H2 ev) (fun p hp=>hp) Rin e2 fun σ' H' ys R' hy hz D hD=>?_
  have R2:Rep K C w Γ1 σ H':=R1.evo0 fun b o h=>R'.frame b o h nofun
  exact k _ _ (R2.new hD) ((ev1.trans fun b o h _=>R'.frame b o h nofun).trans (Evo.new hD)) (R2.newl hD hy) ⟨_,rfl,none_back (L:=w.L) (ev1.trans fun b o h _=>R'.frame b o h nofun) R2.lst hD⟩
 | some m =>
  obtain ⟨j,i⟩:=m
  dsimp only at e
  split at e
  ·cases e
  rename_i hsrc
  split at e
  rotate_left
  ·cases e
  rename_i xs0 hx0
  obtain ⟨⟨ts,Γe⟩,e2,e⟩:=map_some e
  cases e
  obtain ⟨v0,s0,p,vs0,rfl,m0,h0,i0⟩:=R1.val i _ hx0
  have hij:=hmu j i rfl
  have Rin:Rep K ⟨H1,[p],[(j,p)]⟩ ⟨[p],fun q=>w.R q ∨ (q ∈ w.L ∧ q ≠ p)⟩ (pick (some i) ix Γ1) (frm ix σ) H1:=by
   refine ⟨by simp [pick,frm],fun j' g h=>?_,fun i1 i2 p' ga gb ma mb h1 h2 h3 h4=>?_,fun q hq=>?_,fun q hq=>.inl hq,fun q hq=>?_,fun q hq z=>?_,fun b o h _=>h,R1.tab,fun q hq=>?_⟩
   ·obtain ⟨k',g',a1,a2,a3⟩:=pick_get h
    obtain ⟨v,b1,b2⟩:=R1.val k' g' a2
    refine ⟨v,frm_get a1 b1,?_⟩
    cases g' with
    | v t=>cases a3; exact b2
    | l xs =>
     obtain ⟨p',vs,rfl,c1,c2,c3⟩:=b2
     by_cases hk:i = k'
     ·subst hk
      have:g = .l xs:=by simpa [pick1] using a3.symm
      subst this
      rw [s0] at b1; cases b1
      exact ⟨p,vs,rfl,List.mem_singleton.mpr rfl,c2,c3⟩
     ·have:g = .r xs:=by simpa [pick1,hk] using a3.symm
      subst this
      have hne:p' ≠ p:=fun z=>hk (R1.apart i k' p _ _ rfl rfl hx0 a2 s0 (z ▸ b1))
      exact ⟨p',vs,rfl,c3,c2,fun z=>hne (List.mem_singleton.mp z),.inr ⟨c1,hne⟩⟩
    | d xs =>
     cases a3
     obtain ⟨p',o',rfl,c1,c2,c3⟩:=b2
     have hne:p' ≠ p:=fun z=>by
      subst z
      rw [h0] at c2; cases c2
      exact c3
     exact ⟨p',o',rfl,c3,c2,fun z=>hne (List.mem_singleton.mp z),.inr ⟨c1,hne⟩⟩
    | r xs =>
     cases a3
     obtain ⟨p',vs,rfl,c1,c2⟩:=b2
     exact ⟨p',vs,rfl,c1,c2.1,fun z=>c2.2.1 (List.mem_singleton.mp z ▸ m0),.inl c2.2.2⟩
    | e xs =>
     cases a3
     obtain ⟨p',vs,rfl,c1,c2⟩:=b2
     exact ⟨p',vs,rfl,c1,c2.1,fun z=>c2.2.1 (List.mem_singleton.mp z ▸ m0),.inl c2.2.2⟩
    | k xs=>cases a3; exact b2
   ·have only:∀ (n:Nat) (gc:G),isMut gc = true → (pick (some i) ix Γ1)[n]? = some (some gc) → ix[n]? = some (some i):=fun n gc mc h=>by
     obtain ⟨k',g',a1,a2,a3⟩:=pick_get h
     cases g' with
     | v t=>cases a3; cases mc
     | l xs =>
      by_cases hk:i = k'
      ·subst hk; exact a1
      ·have:gc = .r xs:=by simpa [pick1,hk] using a3.symm
       subst this; cases mc
     | r xs=>cases a3; cases mc
     | k xs=>cases a3; cases mc
     | d xs=>cases a3; cases mc
     | e xs=>cases a3; cases mc
    exact hix i1 i2 i rfl (only i1 ga ma h1) (only i2 gb mb h2)
   ·rw [List.mem_singleton.mp hq]; exact ⟨_,h0,trivial⟩
   ·rcases hq with z | z
    ·exact R1.ra q z
    ·obtain ⟨o,z,_⟩:=R1.lst q z.1; exact ⟨o,z⟩
   ·have e:=List.mem_singleton.mp z
    rcases hq with z | z
    ·exact R1.rl q z (e ▸ m0)
    ·exact z.2 e
   ·rw [List.mem_singleton.mp hq]
    refine ⟨frm_get hij s0,xs0,?_⟩
    unfold pick
    rw [List.getElem?_map,hij]
    show some (pick1 (some i) i (Γ1[i]?).join) = _
    rw [hx0]; simp [pick1,Option.join]
  have av:∀ i' ∈ src,∀ q,σ[i']? = some (some (.ref q)) → (∃ xs,Γ1[i']? = some (some (.l xs))) → q ∉ [p]:=fun i' hi' q hq ⟨xs,hx⟩ z=>by
   rw [List.mem_singleton.mp z] at hq
   have:=R1.apart i i' p _ _ rfl rfl hx0 hx s0 hq
   subst this
   exact hsrc hi'
  refine comp_turns (jp:=some j) (C1:=⟨H1,[p],[(j,p)]⟩) rfl hg hc he hl rfl (fun H2 ev=>hJ [p] (fun q hq=>List.mem_singleton.mp hq ▸ m0) av H2 ev) (fun p hp=>hp) Rin e2 fun σ' H' ys R' hy hz D hD=>?_
  obtain ⟨q1,xs',q2⟩:=R'.pin (j,p) (List.mem_singleton.mpr rfl)
  obtain ⟨v',s',p',us',rfl,_,h',i'⟩:=R'.val j _ q2
  have s'':σ'[j]? = some (some (.ref p)):=q1
  rw [s''] at s'; cases s'
  have evp:Evo [p] H1 H':=fun b o h n=>R'.frame b o h n
  have R2:Rep K C w (Γ1.set i (some (.l xs'))) σ H':=(R1.put2 hx0 s0 evp h' i').1
  have eb:cback (some (j,i)) Γ1 Γe = Γ1.set i (some (.l xs')):=by unfold cback; dsimp only; rw [q2]
  rw [eb] at k
  exact k _ _ (R2.new hD) ((ev1.trans (evp.wide fun q hq=>List.mem_singleton.mp hq ▸ m0)).trans (Evo.new hD)) (R2.newl hD hy) ⟨_,rfl,none_back (L:=w.L) (ev1.trans (evp.wide fun q hq=>List.mem_singleton.mp hq ▸ m0)) R2.lst hD⟩
end
end D
set_option Elab.async false
set_option linter.all false
set_option maxRecDepth 100000
set_option maxHeartbeats 4000000
namespace D
open PySem L2
noncomputable abbrev DF:=List G → Option (G × List T)
noncomputable def ROk (K:Fg) (H H':Hp) (v:V):G → Prop
 | .v t=>Im K H' v t
 | .l xs=>∃ p us,v = .ref p ∧ H p = none ∧ H' p = some (.lst us) ∧ Ims K H' us xs
 | .r _=>False
 | .k _=>False
 | .d kvs=>∃ p o,v = .ref p ∧ H p = none ∧ H' p = some o ∧ DOk K H' o kvs
 | .e _=>False
theorem dok_lst {K:Fg} {H:Hp} {vs:List V} {kvs:Dk} (h:DOk K H (.lst vs) kvs):False:=h
noncomputable def pinsG (ip:Option Nat) (vs:List V):List (Nat × Addr):=match ip with
 | none=>[]
 | some k=>match vs[k]? with
  | some (.ref p)=>[(k,p)]
  | _=>[]
noncomputable def spD (K:Fg) (ip:Option Nat) (n:Nat) (F:DF):Sp:=fun vs H Q _=>vs.length = n ∧ ∃ (w:W) (gs:List G) (r:G) (ys:List T),F gs = some (r,ys) ∧ Rep K ⟨H,w.L,pinsG ip vs⟩ w (gs.map some) (vs.map some) H ∧
 (pinsG ip vs).map (·.1) = ip.toList ∧ (∀ p ∈ w.L,p ∈ (pinsG ip vs).map (·.2)) ∧
 ∀ v H',Evo w.L H H' → (∀ q ∈ pinsG ip vs,∃ us,H' q.2 = some (.lst us) ∧ Ims K H' us ys) → ROk K H H' v r → Q v H'
noncomputable def outl (ip:Option Nat) (Γ:En):List T:=match ip with
 | none=>[]
 | some k=>match Γ[k]? with
  | some (some (.l xs))=>xs
  | _=>[]
noncomputable def resG (ip:Option Nat) (Γ:En):S → Option G
 | .v t=>some (.v t)
 | .l xs=>some (.l xs)
 | .s i=>if ip = some i then none else match Γ[i]? with
  | some (some (.l xs))=>some (.l xs)
  | some (some (.d xs))=>some (.d xs)
  | _=>none
 | .d xs=>some (.d xs)
noncomputable def fnD (ip:Option Nat) (np nN:Nat) (g:DS):DF:=fun gs=>if gs.length = np then (g (gs.map some ++ List.replicate (nN - np) none)).bind fun o=>match o with
  | .nx Γ=>some (.v (.a .non),outl ip Γ)
  | .rt s Γ=>(resG ip Γ s).map fun r=>(r,outl ip Γ)
  | _=>none
 else none
section
variable {K:Fg}
theorem Rep.more {C:Fr} {w:W} {Γ:En} {σ:St} {H:Hp} (R:Rep K C w Γ σ H) (n:Nat):Rep K C w (Γ ++ List.replicate n none) (σ ++ List.replicate n none) H:=by
 have get:∀ {j:Nat} {g:G},(Γ ++ List.replicate n none)[j]? = some (some g) → Γ[j]? = some (some g):=fun {j g} h=>by
  rcases Nat.lt_or_ge j Γ.length with z | z
  ·rw [List.getElem?_append_left z] at h; exact h
  ·rw [List.getElem?_append_right z,List.getElem?_replicate] at h; split at h <;> cases h
 have put:∀ {j:Nat} {o:Option V},j < σ.length → (σ ++ List.replicate n none)[j]? = σ[j]?:=fun z=>List.getElem?_append_left z
 have lt:∀ {j:Nat} {g:G},Γ[j]? = some (some g) → j < σ.length:=fun h=>by rw [R.len]; exact (List.getElem?_eq_some_iff.mp h).1
 refine ⟨by simp [R.len],fun i g h=>?_,fun i j p ga gb ma mb h1 h2 h3 h4=>?_,R.lst,R.own,R.ra,R.rl,R.frame,R.tab,fun q hq=>?_⟩
 ·have h':=get h
  obtain ⟨v,e1,e2⟩:=R.val i g h'
  exact ⟨v,by rw [put (o:=none) (lt h')]; exact e1,e2⟩
 ·have g1:=get h1
  have g2:=get h2
  rw [put (o:=none) (lt g1)] at h3
  rw [put (o:=none) (lt g2)] at h4
  exact R.apart i j p ga gb ma mb g1 g2 h3 h4
 ·obtain ⟨h1,xs,h2⟩:=R.pin q hq
  exact ⟨by rw [put (o:=none) (lt h2)]; exact h1,xs,by rw [List.getElem?_append_left (List.getElem?_eq_some_iff.mp h2).1]; exact h2⟩
theorem body_ok {ip:Option Nat} {ts:TS} {g:DS} {N:List Str} {np:Nat} {vs:List V} {H:Hp} {Q:VK} {E:XK} (hb:SimS K ip ts g) (h:spD K ip np (fnD ip np N.length g) vs H Q E):ts { nx:=fun _ H'=>Q .non H',rt:=Q } (L2.start N vs) H:=by
 obtain ⟨hn,w,gs,r,ys,e,R,hp,hL,k⟩:=h
 unfold fnD at e
 have hg:gs.length = np:=by
  have:=R.len
  simp at this
  omega
 rw [if_pos hg] at e
 obtain ⟨o,e1,e⟩:=bind_some e
 have R0:Rep K ⟨H,w.L,pinsG ip vs⟩ w (gs.map some ++ List.replicate (N.length - np) none) (L2.start N vs) H:=by
  unfold L2.start
  rw [hn]
  exact R.more _
 have fin:∀ {w':W} {Γ':En} {σ':St} {H':Hp},Rep K ⟨H,w.L,pinsG ip vs⟩ w' Γ' σ' H' → outl ip Γ' = ys → ∀ v,ROk K H H' v r → Q v H':=fun {w' Γ' σ' H'} R' eo v hr=>by
  refine k v H' (fun b o h n=>R'.frame b o h n) (fun q hq=>?_) hr
  obtain ⟨h1,xs,h2⟩:=R'.pin q hq
  obtain ⟨v',e1,p,us,rfl,_,h3,h4⟩:=R'.val q.1 _ h2
  rw [h1] at e1; cases e1
  refine ⟨us,h3,?_⟩
  have hq1:q.1 ∈ ip.toList:=hp ▸ List.mem_map.mpr ⟨q,hq,rfl⟩
  rw [Option.mem_toList] at hq1
  unfold outl at eo
  rw [hq1] at eo
  dsimp only at eo
  rw [h2] at eo
  dsimp only at eo
  rw [← eo]; exact h4
 have notpin:∀ {w':W} {Γ':En} {σ':St} {H':Hp} {p:Addr},Rep K ⟨H,w.L,pinsG ip vs⟩ w' Γ' σ' H' → (∀ q ∈ pinsG ip vs,q.2 ≠ p) → Ow ⟨H,w.L,pinsG ip vs⟩ p → H p = none:=fun {w' Γ' σ' H' p} R' hne ow=>by
  rcases ow with z | z
  ·obtain ⟨q,hq,e⟩:=List.mem_map.mp (hL p z)
   exact absurd e (hne q hq)
  ·exact z
 refine hb _ w _ _ H _ o hp R0 e1 ?_
 cases o with
 | nx Γ' =>
  cases e
  exact fun w' σ' H' R'=>fin R' rfl _ (by show Im K H' V.non (.a .non); exact Im.atom)
 | rt s Γ' =>
  obtain ⟨r',e2,e⟩:=map_some e
  cases e
  refine fun w' σ' H' v R' o'=>fin R' rfl v ?_
  have inL:∀ q ∈ pinsG ip vs,q.2 ∈ w'.L:=fun q hq=>by
   obtain ⟨h1,xs,h2⟩:=R'.pin q hq
   obtain ⟨v',e1,p,us,rfl,h3,_⟩:=R'.val q.1 _ h2
   rw [h1] at e1; cases e1
   exact h3
  cases s with
  | v t=>cases e2; exact o'
  | l xs =>
   cases e2
   obtain ⟨p,us,rfl,n1,n2,ow,h1,h2⟩:=o'
   exact ⟨p,us,rfl,notpin R' (fun q hq z=>n1 (z ▸ inL q hq)) ow,h1,h2⟩
  | d xs =>
   cases e2
   obtain ⟨p,us,rfl,n1,n2,ow,h1,h2⟩:=o'
   exact ⟨p,us,rfl,notpin R' (fun q hq z=>n1 (z ▸ inL q hq)) ow,h1,h2⟩
  | s i =>
   unfold resG at e2
   dsimp only at e2
   split at e2
   ·cases e2
   rename_i hi
   split at e2
   ·rename_i xs hx
    cases e2
    obtain ⟨v',e3,p,us,rfl,h3,h4,h5⟩:=R'.val i _ hx
    have o'':σ'[i]? = some (some v):=o'
    rw [o''] at e3; cases e3
    refine ⟨p,us,rfl,notpin R' (fun q hq z=>?_) (R'.own p h3),h4,h5⟩
    obtain ⟨h1,ys',h2⟩:=R'.pin q hq
    have:=R'.apart q.1 i q.2 _ _ rfl rfl h2 hx h1 (z ▸ o'')
    have hq1:q.1 ∈ ip.toList:=hp ▸ List.mem_map.mpr ⟨q,hq,rfl⟩
    rw [Option.mem_toList] at hq1
    exact hi (by rw [hq1,this])
   ·rename_i xs hx
    cases e2
    obtain ⟨v',e3,p,us,rfl,h3,h4,h5⟩:=R'.val i _ hx
    have o'':σ'[i]? = some (some v):=o'
    rw [o''] at e3; cases e3
    refine ⟨p,us,rfl,notpin R' (fun q hq z=>?_) (R'.own p h3),h4,h5⟩
    obtain ⟨h1,ys',h2⟩:=R'.pin q hq
    have:=R'.apart q.1 i q.2 _ _ rfl rfl h2 hx h1 (z ▸ o'')
    have hq1:q.1 ∈ ip.toList:=hp ▸ List.mem_map.mpr ⟨q,hq,rfl⟩
    rw [Option.mem_toList] at hq1
    exact hi (by rw [hq1,this])
   ·cases e2
 | bk Γ'=>cases e
 | ct Γ'=>cases e
noncomputable def argG (ip:Option Nat) (Γ:En) (k:Nat):S → Option G
 | .v t=>some (.v t)
 | .l xs=>some (if ip = some k then .l xs else .r xs)
 | .s i=>match Γ[i]? with
  | some (some (.l xs))=>some (if ip = some k then .l xs else .r xs)
  | some (some (.r xs))=>if ip = some k then none else some (.r xs)
  | some (some (.k xs))=>if ip = some k then none else some (.k xs)
  | some (some (.d xs))=>if ip = some k then none else some (.e xs)
  | some (some (.e xs))=>if ip = some k then none else some (.e xs)
  | _=>none
 | .d xs=>if ip = some k then none else some (.e xs)
noncomputable def argsG (ip:Option Nat) (Γ:En):Nat → List S → Option (List G)
 | _,[]=>some []
 | k,s :: r=>(argG ip Γ k s).bind fun g=>(argsG ip Γ (k + 1) r).map fun gs=>g :: gs
noncomputable def isSl (i:Nat):S → Bool
 | .s j=>j == i
 | _=>false
noncomputable def isTmp:S → Bool
 | .l _=>true
 | _=>false
noncomputable def onceS (ip:Option Nat) (ss:List S):Bool:=match ip with
 | none=>true
 | some k=>match ss[k]? with
  | some (.s i)=>(ss.eraseIdx k).all fun s=>!isSl i s
  | some (.l _)=>(ss.eraseIdx k).all fun s=>!isTmp s
  | _=>false
noncomputable def backS (ip:Option Nat) (Γ:En) (ss:List S) (ys:List T):En:=match ip with
 | none=>Γ
 | some k=>match ss[k]? with
  | some (.s i)=>Γ.set i (some (.l ys))
  | _=>Γ
noncomputable def toS:G → S
 | .v t=>.v t
 | .l xs=>.l xs
 | .r xs=>.l xs
 | .k xs=>.l xs
 | .d xs=>.d xs
 | .e xs=>.d xs
noncomputable def dCall (ip:Option Nat) (F:DF) (ds:List V) (fa:DA):DE:=fun Γ=>(fa Γ).bind fun p=>if onceS ip p.1 = true then (argsG ip p.2 0 (p.1 ++ ds.map fun v=>.v (.a v))).bind fun gs=>(F gs).map fun q=>(toS q.1,backS ip p.2 p.1 q.2) else none
theorem SOks.app {C:Fr} {w:W} {σ:St} {H:Hp}:∀ {vs:List V} {ss:List S},SOks K C w σ H vs ss → ∀ ds:List V,SOks K C w σ H (vs ++ ds) (ss ++ ds.map fun v=>.v (.a v))
 | [],[],_,[]=>trivial
 | [],[],_,d :: ds=>⟨SOk.atom,SOks.app (vs:=[]) (ss:=[]) trivial ds⟩
 | _ :: _,_ :: _,h,ds=>⟨h.1,SOks.app h.2 ds⟩
 | [],_ :: _,h,_=>h.elim
 | _ :: _,[],h,_=>h.elim
theorem SOks.len {C:Fr} {w:W} {σ:St} {H:Hp}:∀ {vs:List V} {ss:List S},SOks K C w σ H vs ss → vs.length = ss.length
 | [],[],_=>rfl
 | _ :: _,_ :: _,h=>by simp [SOks.len h.2]
 | [],_ :: _,h=>h.elim
 | _ :: _,[],h=>h.elim
theorem SOks.get {C:Fr} {w:W} {σ:St} {H:Hp}:∀ {vs:List V} {ss:List S} {k:Nat} {s:S},SOks K C w σ H vs ss → ss[k]? = some s → ∃ v,vs[k]? = some v ∧ SOk K C w σ H v s
 | [],[],_,_,_,e=>by simp at e
 | v :: _,_ :: _,0,_,h,e=>by simp at e; subst e; exact ⟨v,rfl,h.1⟩
 | _ :: _,_ :: _,k + 1,_,h,e=>by simpa using SOks.get (k:=k) h.2 (by simpa using e)
 | [],_ :: _,_,_,h,_=>h.elim
 | _ :: _,[],_,_,h,_=>h.elim
theorem argsG_len {ip:Option Nat} {Γ:En}:∀ {ss:List S} {k:Nat} {gs:List G},argsG ip Γ k ss = some gs → gs.length = ss.length
 | [],_,_,e=>by cases e; rfl
 | s :: r,k,_,e=>by
  obtain ⟨g,e1,e⟩:=bind_some e
  obtain ⟨gs,e2,e⟩:=map_some e
  cases e
  simp [argsG_len e2]
theorem argsG_get {ip:Option Nat} {Γ:En}:∀ {ss:List S} {k:Nat} {gs:List G} {j:Nat} {g:G},argsG ip Γ k ss = some gs → gs[j]? = some g → ∃ s,ss[j]? = some s ∧ argG ip Γ (k + j) s = some g
 | [],_,_,_,_,e,h=>by cases e; simp at h
 | s :: r,k,_,j,g,e,h=>by
  obtain ⟨g',e1,e⟩:=bind_some e
  obtain ⟨gs,e2,e⟩:=map_some e
  cases e
  cases j with
  | zero=>simp at h; subst h; exact ⟨s,rfl,e1⟩
  | succ j =>
   obtain ⟨s',a,b⟩:=argsG_get (j:=j) e2 (by simpa using h)
   exact ⟨s',by simpa using a,by rw [← b]; congr 1; omega⟩
theorem sim_call {ip:Option Nat} {n:Nat} {F:DF} {ds:List V} {E:XK} {ta:TA} {fa:DA} (hF:∀ gs r,F gs = some r → gs.length = n) (ha:SimA K ta fa):SimE K (tCall (spD K ip n F) ds E ta) (dCall ip F ds fa):=by
 intro C w Γ σ H s Γ' Q R e k
 obtain ⟨⟨ss,Γ1⟩,e1,e⟩:=bind_some e
 dsimp only at e
 split at e
 rotate_left
 ·cases e
 rename_i honce
 obtain ⟨gs,e2,e⟩:=bind_some e
 obtain ⟨⟨r,ys⟩,e3,e⟩:=map_some e
 cases e
 refine ha C w Γ σ H ss Γ1 _ R e1 fun vs0 H1 R1 ev1 o0 n0=>?_
 have o1:=o0.app ds
 have hl0:=o0.len
 generalize hvs:vs0 ++ ds = vs at o1 ⊢
 generalize hss:ss ++ (ds.map fun v=>S.v (.a v)) = ss' at o1 e2
 have hl:=o1.len
 have hgl:=argsG_len e2
 have hn:vs.length = n:=by rw [hl,← hgl]; exact hF _ _ e3
 have resOk:∀ {H2:Hp} {v:V} {L:List Addr},Evo L H1 H2 → ROk K H1 H2 v r → Rep K C w Γ1 σ H1 → SOk K C w σ H2 v (toS r):=fun {H2 v L} ev hr R=>by
  cases r with
  | v t=>exact hr
  | l xs =>
   obtain ⟨p,us,rfl,h1,h2,h3⟩:=hr
   obtain ⟨a,b,c⟩:=R.fresh h1
   exact ⟨p,us,rfl,a,b,c,h2,h3⟩
  | r xs=>exact hr.elim
  | k xs=>exact hr.elim
  | d xs =>
   obtain ⟨p,us,rfl,h1,h2,h3⟩:=hr
   obtain ⟨a,b,c⟩:=R.fresh h1
   exact ⟨p,us,rfl,a,b,c,h2,h3⟩
  | e xs=>exact hr.elim
 have resNew:∀ {H2:Hp} {v:V},ROk K H1 H2 v r → Nw H v (toS r):=fun {H2 v} hr=>by
  cases r with
  | v t=>trivial
  | l xs =>
   obtain ⟨p,us,rfl,h1,h2,h3⟩:=hr
   exact ⟨p,rfl,none_back ev1 R1.lst h1⟩
  | r xs=>exact hr.elim
  | k xs=>exact hr.elim
  | d xs =>
   obtain ⟨p,us,rfl,h1,h2,h3⟩:=hr
   exact ⟨p,rfl,none_back ev1 R1.lst h1⟩
  | e xs=>exact hr.elim
 cases ip with
 | none =>
  have Rc:Rep K ⟨H1,[],[]⟩ ⟨[],fun q=>∃ o,H1 q = some o⟩ (gs.map some) (vs.map some) H1:=by
   refine ⟨by simp [hl,hgl],fun j g h=>?_,fun i j p ga gb ma mb h1 h2 h3 h4=>?_,fun p hp=>(nomatch hp),fun p hp=>(nomatch hp),fun p hp=>hp,fun p hp=>nofun,fun b o h _=>h,R1.tab,fun q hq=>(nomatch hq)⟩
   ·rw [List.getElem?_map] at h
    obtain ⟨g',h',h⟩:=map_some h
    cases h
    obtain ⟨s,a1,a2⟩:=argsG_get e2 h'
    obtain ⟨v,b1,b2⟩:=o1.get a1
    refine ⟨v,by rw [List.getElem?_map,b1]; rfl,?_⟩
    cases s with
    | v t=>cases a2; exact b2
    | l xs =>
     simp only [argG,reduceCtorEq,if_false,Option.some.injEq] at a2
     subst a2
     obtain ⟨p,us,rfl,n1,n2,ow,h1,h2⟩:=b2
     exact ⟨p,us,rfl,h2,h1,nofun,⟨_,h1⟩⟩
    | d xs =>
     simp only [argG,reduceCtorEq,if_false,Option.some.injEq] at a2
     subst a2
     obtain ⟨p,us,rfl,n1,n2,ow,h1,h2⟩:=b2
     exact ⟨p,us,rfl,h2,h1,nofun,⟨_,h1⟩⟩
    | s i =>
     unfold argG at a2
     dsimp only at a2
     split at a2
     ·rename_i xs hx
      simp only [reduceCtorEq,if_false,Option.some.injEq] at a2
      subst a2
      obtain ⟨v',c1,p,us,rfl,c2,c3,c4⟩:=R1.val i _ hx
      have b2':σ[i]? = some (some v):=b2
      rw [b2'] at c1; cases c1
      exact ⟨p,us,rfl,c4,c3,nofun,⟨_,c3⟩⟩
     ·rename_i xs hx
      simp only [reduceCtorEq,if_false,Option.some.injEq] at a2
      subst a2
      obtain ⟨v',c1,p,us,rfl,c2,c3⟩:=R1.val i _ hx
      have b2':σ[i]? = some (some v):=b2
      rw [b2'] at c1; cases c1
      exact ⟨p,us,rfl,c2,c3.1,nofun,R1.ra p c3.2.2⟩
     ·rename_i xs hx
      simp only [reduceCtorEq,if_false,Option.some.injEq] at a2
      subst a2
      obtain ⟨v',c1,c2⟩:=R1.val i _ hx
      have b2':σ[i]? = some (some v):=b2
      rw [b2'] at c1; cases c1
      exact c2
     ·rename_i xs hx
      simp only [reduceCtorEq,if_false,Option.some.injEq] at a2
      subst a2
      obtain ⟨v',c1,p,us,rfl,c2,c3,c4⟩:=R1.val i _ hx
      have b2':σ[i]? = some (some v):=b2
      rw [b2'] at c1; cases c1
      exact ⟨p,us,rfl,c4,c3,nofun,⟨_,c3⟩⟩
     ·rename_i xs hx
      simp only [reduceCtorEq,if_false,Option.some.injEq] at a2
      subst a2
      obtain ⟨v',c1,p,us,rfl,c2,c3⟩:=R1.val i _ hx
      have b2':σ[i]? = some (some v):=b2
      rw [b2'] at c1; cases c1
      exact ⟨p,us,rfl,c2,c3.1,nofun,R1.ra p c3.2.2⟩
     ·cases a2
   ·rw [List.getElem?_map] at h1
    obtain ⟨g',h',h⟩:=map_some h1
    cases h
    obtain ⟨s,a1,a2⟩:=argsG_get e2 h'
    cases s with
    | v t=>cases a2; cases ma
    | l xs=>simp [argG] at a2; subst a2; cases ma
    | d xs=>simp [argG] at a2; subst a2; cases ma
    | s i =>
     unfold argG at a2
     dsimp only at a2
     split at a2 <;> simp at a2 <;> (subst a2; cases ma)
  refine ⟨hn,⟨[],fun q=>∃ o,H1 q = some o⟩,gs,r,ys,e3,Rc,rfl,(fun p hp=>nomatch hp),fun v H2 ev _ hr=>?_⟩
  have R2:Rep K C w Γ1 σ H2:=R1.evo0 fun b o h=>ev b o h nofun
  exact k v H2 R2 (ev1.trans fun b o h _=>ev b o h nofun) (resOk ev hr R1) (resNew hr)
 | some kk =>
  have hkk:∃ s,ss[kk]? = some s:=by
   unfold onceS at honce
   dsimp only at honce
   cases z:ss[kk]? with
   | none=>rw [z] at honce; cases honce
   | some s=>exact ⟨s,rfl⟩
  obtain ⟨sk,hsk⟩:=hkk
  have hkl:kk < ss.length:=(List.getElem?_eq_some_iff.mp hsk).1
  have hsk':ss'[kk]? = some sk:=by rw [← hss,List.getElem?_append_left hkl]; exact hsk
  obtain ⟨vk,hvk,ok⟩:=o1.get hsk'
  have at_k:∃ p us xs,vk = .ref p ∧ H1 p = some (.lst us) ∧ Ims K H1 us xs ∧ argG (some kk) Γ1 kk sk = some (.l xs) ∧ ((∃ i,sk = .s i ∧ Γ1[i]? = some (some (.l xs)) ∧ σ[i]? = some (some (.ref p)) ∧ p ∈ w.L) ∨ (sk = .l xs ∧ p ∉ w.L ∧ ¬ w.R p ∧ Ow C p)):=by
   obtain ⟨gk,hgk⟩:∃ g,gs[kk]? = some g:=⟨gs[kk]'(by rw [hgl,← hss]; simp; omega),by simp⟩
   obtain ⟨s,a1,a2⟩:=argsG_get e2 hgk
   rw [hsk'] at a1; cases a1
   rw [Nat.zero_add] at a2
   cases sk with
   | v t=>unfold onceS at honce; dsimp only at honce; rw [hsk] at honce; cases honce
   | l xs =>
    obtain ⟨p,us,rfl,n1,n2,ow,h1,h2⟩:=ok
    exact ⟨p,us,xs,rfl,h1,h2,by simp [argG],.inr ⟨rfl,n1,n2,ow⟩⟩
   | s i =>
    unfold argG at a2
    dsimp only at a2
    have ok':σ[i]? = some (some vk):=ok
    split at a2
    ·rename_i xs hx
     obtain ⟨v',c1,p,us,rfl,c2,c3,c4⟩:=R1.val i _ hx
     rw [ok'] at c1; cases c1
     exact ⟨p,us,xs,rfl,c3,c4,by simp [argG,hx],.inl ⟨i,rfl,hx,ok',c2⟩⟩
    ·rw [if_pos rfl] at a2; cases a2
    ·rw [if_pos rfl] at a2; cases a2
    ·rw [if_pos rfl] at a2; cases a2
    ·rw [if_pos rfl] at a2; cases a2
    ·cases a2
   | d xs=>unfold onceS at honce; dsimp only at honce; rw [hsk] at honce; cases honce
  obtain ⟨p,us,xs,rfl,hpu,hus,hag,hsort⟩:=at_k
  have other:∀ (j:Nat) s,j ≠ kk → ss'[j]? = some s → (∀ i xs',s = .s i → Γ1[i]? = some (some (.l xs')) → σ[i]? ≠ some (some (.ref p))) ∧ (∀ xs' q,s = .l xs' → SOk K C w σ H1 (.ref q) s → q ≠ p):=fun j s hj hs=>by
   rcases hsort with ⟨i0,rfl,g0,s0,m0⟩ | ⟨rfl,n1,n2,ow⟩
   ·refine ⟨fun i xs' e hx z=>?_,fun xs' q e h z=>?_⟩
    ·subst e
     have:=R1.apart i0 i p _ _ rfl rfl g0 hx s0 z
     subst this
     have hjl:j < ss.length:=by
      rcases Nat.lt_or_ge j ss.length with z | z
      ·exact z
      ·rw [← hss,List.getElem?_append_right z,List.getElem?_map] at hs
       obtain ⟨d,_,hs⟩:=map_some hs
       cases hs
     rw [← hss,List.getElem?_append_left hjl] at hs
     unfold onceS at honce
     dsimp only at honce
     rw [hsk] at honce
     have:=List.all_eq_true.mp honce (.s i0) (List.mem_eraseIdx_iff_getElem?.mpr ⟨j,hj,hs⟩)
     simp [isSl] at this
    ·subst e
     obtain ⟨q',us'',e,n1,_⟩:=h
     cases e
     exact n1 (z ▸ m0)
   ·refine ⟨fun i xs' e hx z=>?_,fun xs' q e h z=>?_⟩
    ·obtain ⟨v',c1,p',us2,rfl,c2,_⟩:=R1.val i _ hx
     rw [z] at c1; cases c1
     exact n1 c2
    ·subst e
     have hjl:j < ss.length:=by
      rcases Nat.lt_or_ge j ss.length with z | z
      ·exact z
      ·rw [← hss,List.getElem?_append_right z,List.getElem?_map] at hs
       obtain ⟨d,_,hs⟩:=map_some hs
       cases hs
     rw [← hss,List.getElem?_append_left hjl] at hs
     unfold onceS at honce
     dsimp only at honce
     rw [hsk] at honce
     have:=List.all_eq_true.mp honce _ (List.mem_eraseIdx_iff_getElem?.mpr ⟨j,hj,hs⟩)
     simp [isTmp] at this
  have hpins:pinsG (some kk) vs = [(kk,p)]:=by unfold pinsG; dsimp only; rw [hvk]
  have Rc:Rep K ⟨H1,[p],[(kk,p)]⟩ ⟨[p],fun q=>(∃ o,H1 q = some o) ∧ q ≠ p⟩ (gs.map some) (vs.map some) H1:=by
   have get:∀ {j:Nat} {g:G},(gs.map some)[j]? = some (some g) → ∃ s,ss'[j]? = some s ∧ argG (some kk) Γ1 j s = some g:=fun {j g} h=>by
    rw [List.getElem?_map] at h
    obtain ⟨g',h',h⟩:=map_some h
    cases h
    obtain ⟨s,a1,a2⟩:=argsG_get e2 h'
    exact ⟨s,a1,by rw [Nat.zero_add] at a2; exact a2⟩
   have only:∀ {j:Nat} {gc:G},isMut gc = true → (gs.map some)[j]? = some (some gc) → j = kk:=fun {j gc} mc h=>by
    obtain ⟨s,a1,a2⟩:=get h
    by_cases hj:kk = j
    ·exact hj.symm
    ·cases s with
     | v t=>cases a2; cases mc
     | l xs=>simp [argG,hj] at a2; subst a2; cases mc
     | d xs=>simp [argG,hj] at a2; subst a2; cases mc
     | s i =>
      unfold argG at a2
      dsimp only at a2
      split at a2 <;> simp [hj] at a2 <;> (subst a2; cases mc)
   refine ⟨by simp [hl,hgl],fun j g h=>?_,fun i j p' ga gb ma mb h1 h2 h3 h4=>(only ma h1).trans (only mb h2).symm,fun q hq=>?_,fun q hq=>.inl hq,fun q hq=>hq.1,fun q hq z=>hq.2 (List.mem_singleton.mp z),fun b o h _=>h,R1.tab,fun q hq=>?_⟩
   ·obtain ⟨s,a1,a2⟩:=get h
    obtain ⟨v,b1,b2⟩:=o1.get a1
    refine ⟨v,by rw [List.getElem?_map,b1]; rfl,?_⟩
    by_cases hj:j = kk
    ·subst hj
     rw [hsk'] at a1; cases a1
     rw [hag] at a2; cases a2
     rw [hvk] at b1; cases b1
     exact ⟨p,us,rfl,List.mem_singleton.mpr rfl,hpu,hus⟩
    ·have hj':¬ kk = j:=fun z=>hj z.symm
     obtain ⟨x1,x2⟩:=other j s hj a1
     cases s with
     | v t=>cases a2; exact b2
     | l xs' =>
      simp only [argG,Option.some.injEq,hj',if_false] at a2
      subst a2
      have b3:=b2
      obtain ⟨q,us',rfl,n1,n2,ow,h1,h2⟩:=b2
      have hne:q ≠ p:=x2 xs' q rfl b3
      exact ⟨q,us',rfl,h2,h1,fun z=>hne (List.mem_singleton.mp z),⟨_,h1⟩,hne⟩
     | s i =>
      have b2':σ[i]? = some (some v):=b2
      unfold argG at a2
      dsimp only at a2
      split at a2
      ·rename_i xs' hx
       simp only [Option.some.injEq,hj',if_false] at a2
       subst a2
       obtain ⟨v',c1,q,us',rfl,c2,c3,c4⟩:=R1.val i _ hx
       rw [b2'] at c1; cases c1
       have hne:q ≠ p:=fun z=>x1 i xs' rfl hx (z ▸ b2')
       exact ⟨q,us',rfl,c4,c3,fun z=>hne (List.mem_singleton.mp z),⟨_,c3⟩,hne⟩
      ·rename_i xs' hx
       simp only [Option.some.injEq,hj',if_false] at a2
       subst a2
       obtain ⟨v',c1,q,us',rfl,c2,c3⟩:=R1.val i _ hx
       rw [b2'] at c1; cases c1
       have hne:q ≠ p:=fun z=>by
        subst z
        rcases hsort with ⟨_,_,_,_,m0⟩ | ⟨_,n1,n2,ow⟩
        ·exact c3.2.1 m0
        ·exact n2 c3.2.2
       exact ⟨q,us',rfl,c2,c3.1,fun z=>hne (List.mem_singleton.mp z),R1.ra q c3.2.2,hne⟩
      ·rename_i xs' hx
       simp only [Option.some.injEq,hj',if_false] at a2
       subst a2
       obtain ⟨v',c1,c2⟩:=R1.val i _ hx
       rw [b2'] at c1; cases c1
       exact c2
      ·rename_i xs' hx
       simp only [Option.some.injEq,hj',if_false] at a2
       subst a2
       obtain ⟨v',c1,q,us',rfl,c2,c3,c4⟩:=R1.val i _ hx
       rw [b2'] at c1; cases c1
       have hne:q ≠ p:=fun z=>by subst z; rw [hpu] at c3; cases c3; exact dok_lst c4
       exact ⟨q,us',rfl,c4,c3,fun z=>hne (List.mem_singleton.mp z),⟨_,c3⟩,hne⟩
      ·rename_i xs' hx
       simp only [Option.some.injEq,hj',if_false] at a2
       subst a2
       obtain ⟨v',c1,q,us',rfl,c2,c3⟩:=R1.val i _ hx
       rw [b2'] at c1; cases c1
       have hne:q ≠ p:=fun z=>by subst z; have c4:=c3.1; rw [hpu] at c4; cases c4; exact dok_lst c2
       exact ⟨q,us',rfl,c2,c3.1,fun z=>hne (List.mem_singleton.mp z),R1.ra q c3.2.2,hne⟩
      ·cases a2
     | d xs' =>
      simp only [argG,Option.some.injEq,hj',if_false] at a2
      subst a2
      obtain ⟨q,us',rfl,n1,n2,ow,h1,h2⟩:=b2
      have hne:q ≠ p:=fun z=>by subst z; rw [hpu] at h1; cases h1; exact dok_lst h2
      exact ⟨q,us',rfl,h2,h1,fun z=>hne (List.mem_singleton.mp z),⟨_,h1⟩,hne⟩
   ·rw [List.mem_singleton.mp hq]; exact ⟨_,hpu,trivial⟩
   ·rw [List.mem_singleton.mp hq]
    refine ⟨by rw [List.getElem?_map,hvk]; rfl,xs,?_⟩
    obtain ⟨gk,hgk⟩:∃ g,gs[kk]? = some g:=⟨gs[kk]'(by rw [hgl,← hss]; simp; omega),by simp⟩
    obtain ⟨s,a1,a2⟩:=argsG_get e2 hgk
    rw [hsk'] at a1; cases a1
    rw [Nat.zero_add,hag] at a2; cases a2
    rw [List.getElem?_map,hgk]; rfl
  refine ⟨hn,⟨[p],fun q=>(∃ o,H1 q = some o) ∧ q ≠ p⟩,gs,r,ys,e3,by rw [hpins]; exact Rc,by rw [hpins]; rfl,by rw [hpins]; exact fun q hq=>hq,fun v H2 ev hch hr=>?_⟩
  rw [hpins] at hch
  obtain ⟨us2,hp2,hu2⟩:=hch (kk,p) (List.mem_singleton.mpr rfl)
  rcases hsort with ⟨i0,rfl,g0,s0,m0⟩ | ⟨rfl,n1,n2,ow⟩
  ·obtain ⟨R2,ev2⟩:=R1.put2 g0 s0 ev hp2 hu2
   have hb:backS (some kk) Γ1 ss ys = Γ1.set i0 (some (.l ys)):=by unfold backS; dsimp only; rw [hsk]
   dsimp only at k
   rw [hb] at k
   exact k v H2 R2 (ev1.trans ev2) (resOk ev hr R1) (resNew hr)
  ·have hb:backS (some kk) Γ1 ss ys = Γ1:=by unfold backS; dsimp only; rw [hsk]
   dsimp only at k
   rw [hb] at k
   have R2:=R1.temp n1 n2 ow ⟨_,hpu,trivial⟩ ev
   refine k v H2 R2 (fun b o h n=>?_) (resOk ev hr R1) (resNew hr)
   by_cases z:b = p
   ·subst z
    have hv0:vs0[kk]? = some (.ref b):=by
     rw [← hvs,List.getElem?_append_left (by rw [hl0]; exact hkl)] at hvk; exact hvk
    obtain ⟨p',e',hn'⟩:=n0.get hv0 hsk
    cases e'
    rw [hn'] at h; cases h
   ·exact ev b o (ev1 b o h n) fun q=>z (List.mem_singleton.mp q)
end
end D
set_option Elab.async false
set_option linter.all false
set_option maxRecDepth 100000
set_option maxHeartbeats 4000000
namespace D
open PySem L2
noncomputable def lsOf (Γ:En):S → Option (List T)
 | .l xs=>some xs
 | .s i=>match Γ[i]? with
  | some (some (.l xs))=>some xs
  | some (some (.r xs))=>some xs
  | _=>none
 | .v _=>none
 | .d _=>none
noncomputable def sqlOf (Γ:En):S → Option (List T)
 | .l xs=>some xs
 | .s i=>match Γ[i]? with
  | some (some (.l xs))=>some xs
  | some (some (.r xs))=>some xs
  | some (some (.k xs))=>some xs
  | _=>none
 | .v (.l xs)=>some xs
 | .v _=>none
 | .d _=>none
section
variable {K:Fg} {C:Fr} {w:W} {Γ:En} {σ:St} {H:Hp}
theorem ls_ok {x:V} {s:S} {xs:List T} (R:Rep K C w Γ σ H) (o:SOk K C w σ H x s) (e:lsOf Γ s = some xs):∃ p vs,x = .ref p ∧ H p = some (.lst vs) ∧ Ims K H vs xs:=by
 cases s with
 | v t=>cases e
 | d _=>cases e
 | l ys=>cases e; obtain ⟨p,vs,rfl,_,_,_,h1,h2⟩:=o; exact ⟨p,vs,rfl,h1,h2⟩
 | s i =>
  have o':σ[i]? = some (some x):=o
  unfold lsOf at e
  dsimp only at e
  split at e
  ·rename_i ys h
   cases e
   obtain ⟨v,e1,p,vs,rfl,_,h1,h2⟩:=R.val i _ h
   rw [o'] at e1; cases e1
   exact ⟨p,vs,rfl,h1,h2⟩
  ·rename_i ys h
   cases e
   obtain ⟨v,e1,p,vs,rfl,h1,h2,_⟩:=R.val i _ h
   rw [o'] at e1; cases e1
   exact ⟨p,vs,rfl,h2,h1⟩
  ·cases e
theorem sql_ok {x:V} {s:S} {xs:List T} (R:Rep K C w Γ σ H) (o:SOk K C w σ H x s) (e:sqlOf Γ s = some xs):∃ p vs,x = .ref p ∧ SqL K H p vs ∧ Ims K H vs xs:=by
 cases s with
 | v t =>
  cases t with
  | l ys =>
   cases e
   obtain ⟨p,vs,rfl,h1,h2⟩:=(show Im K H x (.l xs) from o).invl
   exact ⟨p,vs,rfl,h1.sq,h2⟩
  | a _=>cases e
  | t _=>cases e
  | f _=>cases e
  | x _ _=>cases e
  | m _ _=>cases e
 | d _=>cases e
 | l ys=>cases e; obtain ⟨p,vs,rfl,_,_,_,h1,h2⟩:=o; exact ⟨p,vs,rfl,SqL.of h1,h2⟩
 | s i =>
  have o':σ[i]? = some (some x):=o
  unfold sqlOf at e
  dsimp only at e
  split at e
  ·rename_i ys h
   cases e
   obtain ⟨v,e1,p,vs,rfl,_,h1,h2⟩:=R.val i _ h
   rw [o'] at e1; cases e1
   exact ⟨p,vs,rfl,SqL.of h1,h2⟩
  ·rename_i ys h
   cases e
   obtain ⟨v,e1,p,vs,rfl,h1,h2,_⟩:=R.val i _ h
   rw [o'] at e1; cases e1
   exact ⟨p,vs,rfl,SqL.of h2,h1⟩
  ·rename_i ys h
   cases e
   obtain ⟨v,e1,p,vs,rfl,h1,h2⟩:=R.val i _ h
   rw [o'] at e1; cases e1
   exact ⟨p,vs,rfl,h2.sq,h1⟩
  ·cases e
end
noncomputable def iS:S → Option Int
 | .v (.a (.int i))=>some i
 | _=>none
noncomputable def mkI (i:Int):S:=.v (.a (.int i))
noncomputable def mkB (b:Bool):S:=.v (.a (.bl b))
section
variable {K:Fg} {C:Fr} {w:W} {Γ:En} {σ:St} {H:Hp}
theorem iS_ok {x:V} {s:S} {i:Int} (o:SOk K C w σ H x s) (e:iS s = some i):x = .int i:=by
 unfold iS at e
 split at e
 ·cases e; exact o.inva
 ·cases e
end
noncomputable def inR (b:Nat):Int → Bool
 | .ofNat n=>Nat.ble n b
 | .negSucc n=>Nat.ble n b
theorem inR_iff {b:Nat} {i:Int}:inR b i = true ↔ -((b:Int) + 1) ≤ i ∧ i ≤ b:=by
 cases i with
 | ofNat n =>
  simp only [inR,Nat.ble_eq,Int.ofNat_eq_natCast]
  omega
 | negSucc n =>
  simp only [inR,Nat.ble_eq,Int.negSucc_eq]
  omega
theorem inR62 {i:Int} (h:inR 4611686018427387903 i = true):-(2 ^ 62) ≤ i ∧ i < 2 ^ 62:=by have:=inR_iff.mp h; omega
theorem inR63 {i:Int} (h:inR 9223372036854775807 i = true):-(2 ^ 63) ≤ i ∧ i < 2 ^ 63:=by have:=inR_iff.mp h; omega
theorem inR_nat {b n:Nat} (h:n ≤ b):inR b (n:Int) = true:=inR_iff.mpr ⟨by omega,by omega⟩
noncomputable def opII (g:Int → Int → V):En → S → S → Option S:=fun _ a b=>(iS a).bind fun i=>(iS b).bind fun j=>some (.v (.a (g i j)))
noncomputable def opIIc (c:Int → Int → Prop) [∀ i j,Decidable (c i j)] (g:Int → Int → V):En → S → S → Option S:=fun _ a b=>(iS a).bind fun i=>(iS b).bind fun j=>if c i j then some (.v (.a (g i j))) else none
theorem simR2_rI0 {K:Fg} {g:Int → Int → V}:SimR2 K (rI0 g) (opII g):=by
 intro C w Γ σ H x y a b s Q R ox oy e k
 obtain ⟨i,e1,e⟩:=bind_some e
 obtain ⟨j,e2,e⟩:=bind_some e
 cases e
 exact ⟨i,j,iS_ok ox e1,iS_ok oy e2,k _ H R .refl SOk.atom trivial⟩
theorem simR2_rI {K:Fg} {c:Int → Int → Prop} [∀ i j,Decidable (c i j)] {g:Int → Int → V}:SimR2 K (rI c g) (opIIc c g):=by
 intro C w Γ σ H x y a b s Q R ox oy e k
 obtain ⟨i,e1,e⟩:=bind_some e
 obtain ⟨j,e2,e⟩:=bind_some e
 split at e
 ·rename_i hc
  cases e
  exact ⟨i,j,iS_ok ox e1,iS_ok oy e2,hc,k _ H R .refl SOk.atom trivial⟩
 ·cases e
theorem cmul_in {i j:Int}:((inR 18446744073709551615 i && inR 18446744073709551615 (-i)) || (inR 18446744073709551615 j && inR 18446744073709551615 (-j))) = true ↔ CMul i j:=by
 unfold CMul
 simp only [Bool.or_eq_true,Bool.and_eq_true,inR_iff]
 omega
noncomputable instance (i j:Int):Decidable (CMul i j):=decidable_of_iff _ cmul_in
noncomputable instance (i j:Int):Decidable (CDiv i j):=by unfold CDiv; infer_instance
noncomputable instance (i j:Int):Decidable (CPow i j):=by unfold CPow; infer_instance
theorem SimR2.or {K:Fg} {r r':R2} {h h':En → S → S → Option S} (a:SimR2 K r h) (b:SimR2 K r' h'):SimR2 K (fun x y H Q=>r x y H Q ∨ r' x y H Q) (fun Γ x y=>(h Γ x y).or (h' Γ x y)):=by
 intro C w Γ σ H x y s1 s2 s Q R ox oy e k
 dsimp only at e
 cases q:h Γ s1 s2 with
 | some z =>
  rw [q,Option.some_or] at e
  cases e
  exact .inl (a C w Γ σ H x y s1 s2 _ Q R ox oy q k)
 | none =>
  rw [q,Option.none_or] at e
  exact .inr (b C w Γ σ H x y s1 s2 _ Q R ox oy e k)
noncomputable def addStr:En → S → S → Option S:=fun _ a b=>match a,b with
 | .v (.a (.str x)),.v (.a (.str y))=>gd (x.length + y.length) (.v (.a (.str (x ++ y))))
 | _,_=>none
noncomputable def rAddStr:R2:=fun x y H Q=>∃ i j,x = .str i ∧ y = .str j ∧ i.length + j.length ≤ sizeLine ∧ Q (.str (i ++ j)) H
theorem simR2_addStr {K:Fg}:SimR2 K rAddStr addStr:=by
 intro C w Γ σ H x y a b s Q R ox oy e k
 unfold addStr at e
 split at e
 ·obtain ⟨h,e⟩:=gd_of e
  cases e
  exact ⟨_,_,ox.inva,oy.inva,h,k _ H R .refl SOk.atom trivial⟩
 ·cases e
noncomputable def rCatS (K:Fg):R2:=fun x y H Q=>∃ a b xs ys,x = .ref a ∧ y = .ref b ∧ Tp K H a xs ∧ Tp K H b ys ∧ xs.length + ys.length ≤ sizeLine ∧ ∀ p H',Same H H' → Tp K H' p (xs ++ ys) → Q (.ref p) H'
open PySem.Spec PyProof.Rows in
theorem op_catS {X:Cx}:OpR X (binaryOp .Add) (rCatS X.K):=by
 intro pins s σ H x y v u Q I rx ry h
 obtain ⟨a,b,xs,ys,rfl,rfl,ha,hb,hz,q⟩:=h
 cases rx
 cases ry
 obtain ⟨its,r1,t1,z1⟩:=I.tuple ha.sq
 obtain ⟨its2,r2,t2,z2⟩:=I.tuple hb.sq
 by_cases hx:xs = []
 ·subst hx
  have e:its = []:=by have:=r1.length; simpa using this.symm
  subst e
  obtain ⟨⟨cls,dd,data,sl⟩,ho,hc,n,hd⟩:=id t1
  obtain ⟨⟨cls2,dd2,data2,sl2⟩,ho2,hc2,n2,hd2⟩:=id t2
  simp only at hc hd hc2 hd2
  subst hc hd hc2 hd2
  refine concat_meets ⟨_,ho,rfl⟩ ⟨_,ho2,rfl⟩ noFill_tuple_add seq_tuple_add PySem.F.slot_tuple_add PySem.F.entry_tuple_add (PySem.F.args_tuple_add_2 _ _)
   (tuple_addW0 a b _ its2.toArray n n2 dd dd2 sl sl2 (by simp)) ⟨ho,ho2,?_⟩
  exact ⟨.ref b,H,I,rfl,q b H (Same.refl H) (by simpa using hb)⟩
 ·have hne:its ≠ []:=fun e=>hx (by have:=r1.length; rw [e] at this; simpa using this)
  refine HT.cat_tup t1 t2 hne (fun e=>?_) (fun e=>?_) (by rw [← r1.length,← r2.length]; exact hz)
  ·have ey:ys = []:=by have:=r2.length; rw [e] at this; simpa using this
   subst ey
   exact ⟨.ref a,H,I,rfl,q a H (Same.refl H) (by simpa using ha)⟩
  ·have hf:H s.heap.objs.size = none:=I.hok.fresh (Nat.le_refl _)
   refine ⟨.ref s.heap.objs.size,_,I.laid (t':=s.toks) (fun b o e=>Heap.get?_push_of_some _ e) (Nat.le_refl _) (show ObjOk X.prog X.w _ _ _ (.tup (xs ++ ys)) from ⟨by simpa using hz,its ++ its2,r1.append r2,TupD.new _ _⟩),rfl,q _ _ (Same.upd hf) (.inl upd_same)⟩
noncomputable def addTup:En → S → S → Option S:=fun _ a b=>match a,b with
 | .v (.t xs),.v (.t ys)=>gd (xs.length + ys.length) (.v (.t (xs ++ ys)))
 | _,_=>none
theorem simR2_addTup {K:Fg}:SimR2 K (rCatS K) addTup:=by
 intro C w Γ σ H x y a b s Q R ox oy e k
 unfold addTup at e
 split at e
 ·obtain ⟨h,e⟩:=gd_of e
  cases e
  obtain ⟨p,vs,rfl,h1,i1⟩:=ox.invt
  obtain ⟨q,us,rfl,h2,i2⟩:=oy.invt
  refine ⟨p,q,vs,us,rfl,rfl,h1,h2,by rw [i1.len,i2.len]; exact h,fun c H' sm hc=>k _ H' (R.same sm) (.of_same sm) ?_ trivial⟩
  have ev:Evo w.L H H':=.of_same sm
  show Im K H' (.ref c) (.t _)
  unfold Im
  exact ⟨c,_,rfl,hc,(i1.evo ev R.lst).app (i2.evo ev R.lst)⟩
 ·cases e
noncomputable def addLst:En → S → S → Option S:=fun Γ a b=>(lsOf Γ a).bind fun xs=>(lsOf Γ b).bind fun ys=>gd (xs.length + ys.length) (.l (xs ++ ys))
theorem simR2_addLst {K:Fg}:SimR2 K rCat addLst:=by
 intro C w Γ σ H x y a b s Q R ox oy e k
 obtain ⟨xs,e1,e⟩:=bind_some e
 obtain ⟨ys,e2,e⟩:=bind_some e
 obtain ⟨h,e⟩:=gd_of e
 cases e
 obtain ⟨p,vs,rfl,h1,i1⟩:=ls_ok R ox e1
 obtain ⟨q,us,rfl,h2,i2⟩:=ls_ok R oy e2
 exact ⟨p,q,vs,us,rfl,rfl,h1,h2,by rw [i1.len,i2.len]; exact h,fun c hc=>k _ _ (R.new hc) (Evo.new hc) (R.newl hc (i1.app i2)) ⟨c,rfl,hc⟩⟩
noncomputable def addS:En → S → S → Option S:=fun Γ x y=>((opII fun i j=>.int (i + j)) Γ x y).or ((addTup Γ x y).or ((addLst Γ x y).or (addStr Γ x y)))
noncomputable def rAddS (K:Fg):R2:=fun x y H Q=>rI0 (fun i j=>.int (i + j)) x y H Q ∨ rCatS K x y H Q ∨ rCat x y H Q ∨ rAddStr x y H Q
theorem simR2_add {K:Fg}:SimR2 K (rAddS K) addS:=simR2_rI0.or (simR2_addTup.or (simR2_addLst.or simR2_addStr))
theorem op_addS {X:Cx}:OpR X (binaryOp .Add) (rAddS X.K):=op_add.or (op_catS.or (op_cat.or op_add_str))
noncomputable def fitM (n:Nat) (k:Int):Bool:=inR 9223372036854775807 k && Nat.ble (n * k.toNat) sizeLine
noncomputable def mulLst:En → S → S → Option S:=fun Γ a b=>(lsOf Γ a).bind fun xs=>(iS b).bind fun k=>if fitM xs.length k = true then some (.l (List.replicate k.toNat xs).flatten) else none
theorem Ims.rep {K:Fg} {H:Hp} {vs:List V} {ts:List T} (h:Ims K H vs ts):∀ n:Nat,Ims K H (List.replicate n vs).flatten (List.replicate n ts).flatten
 | 0=>.nil
 | n + 1=>by rw [List.replicate_succ,List.replicate_succ,List.flatten_cons,List.flatten_cons]; exact h.app (h.rep n)
theorem simR2_mulLst {K:Fg}:SimR2 K rRep mulLst:=by
 intro C w Γ σ H x y a b s Q R ox oy e k
 obtain ⟨xs,e1,e⟩:=bind_some e
 obtain ⟨n,e2,e⟩:=bind_some e
 split at e
 ·rename_i h
  cases e
  unfold fitM at h
  rw [Bool.and_eq_true] at h
  have h0:=inR63 h.1
  have h3:=Nat.le_of_ble_eq_true h.2
  obtain ⟨p,vs,rfl,h1,i1⟩:=ls_ok R ox e1
  exact ⟨p,n,vs,rfl,iS_ok oy e2,h1,h0.1,h0.2,by rw [i1.len]; exact h3,fun c hc=>k _ _ (R.new hc) (Evo.new hc) (R.newl hc (i1.rep _)) ⟨c,rfl,hc⟩⟩
 ·cases e
noncomputable def mulS:En → S → S → Option S:=fun Γ x y=>(opIIc CMul (fun i j=>.int (i * j)) Γ x y).or (mulLst Γ x y)
noncomputable def rMulS:R2:=fun x y H Q=>rI CMul (fun i j=>.int (i * j)) x y H Q ∨ rRep x y H Q
theorem simR2_mul {K:Fg}:SimR2 K rMulS mulS:=simR2_rI.or simR2_mulLst
theorem op_mulS {X:Cx}:OpR X (binaryOp .Mult) rMulS:=op_mul.or op_rep
noncomputable def modS:En → S → S → Option S:=opIIc (fun _ j=>0 < j) fun i j=>.int (i % j)
noncomputable def fdivS:En → S → S → Option S:=opIIc CDiv fun i j=>.int (i / j)
noncomputable def powS:En → S → S → Option S:=opIIc CPow fun i j=>.int (i ^ j.toNat)
noncomputable def subS:En → S → S → Option S:=opII fun i j=>.int (i - j)
noncomputable def ltS:En → S → S → Option S:=opII fun i j=>.bl (decide (i < j))
noncomputable def leS:En → S → S → Option S:=opII fun i j=>.bl (decide (i ≤ j))
noncomputable def gtS:En → S → S → Option S:=opII fun i j=>.bl (decide (j < i))
noncomputable def geS:En → S → S → Option S:=opII fun i j=>.bl (decide (j ≤ i))
noncomputable def negS:En → S → Option S:=fun _ a=>(iS a).map fun i=>mkI (-i)
noncomputable def ixS:En → S → S → Option S:=fun Γ a b=>(iS b).bind fun i=>match a with
 | .v (.t xs)=>(atI xs i).map .v
 | .v (.a (.str z))=>if z.length ≤ sizeLine then (atI z.cps.toList i).map fun c=>.v (.a (.str ⟨#[c]⟩)) else none
 | a=>(sqlOf Γ a).bind fun xs=>(atI xs i).map .v
theorem atI_ims {K:Fg} {H:Hp} {vs:List V} {ts:List T} {i:Int} {t:T} (h:Ims K H vs ts) (e:atI ts i = some t):∃ v,atI vs i = some v ∧ Im K H v t:=by
 unfold atI at e ⊢
 rw [h.len]
 obtain ⟨j,e1,e⟩:=bind_some e
 obtain ⟨v,e2,hv⟩:=h.get e
 exact ⟨v,by rw [e1]; exact e2,hv⟩
theorem simR2_ix {K:Fg}:SimR2 K (rIx K) ixS:=by
 intro C w Γ σ H x y a b s Q R ox oy e k
 obtain ⟨i,e1,e⟩:=bind_some e
 have hy:=iS_ok oy e1
 split at e
 ·rename_i xs
  obtain ⟨t,e2,e⟩:=map_some e
  cases e
  obtain ⟨p,vs,rfl,h1,i1⟩:=ox.invt
  obtain ⟨v,e3,hv⟩:=atI_ims i1 e2
  exact .inr (.inl ⟨p,vs,i,v,rfl,hy,h1.sq,e3,k v H R .refl hv trivial⟩)
 ·rename_i z
  split at e
  ·rename_i hz
   obtain ⟨c,e2,e⟩:=map_some e
   cases e
   exact .inr (.inr ⟨_,i,c,ox.inva,hy,hz,e2,k _ H R .refl SOk.atom trivial⟩)
  ·cases e
 ·obtain ⟨xs,e2,e⟩:=bind_some e
  obtain ⟨t,e3,e⟩:=map_some e
  cases e
  obtain ⟨p,vs,rfl,h1,i1⟩:=sql_ok R ox e2
  obtain ⟨v,e4,hv⟩:=atI_ims i1 e3
  exact .inl ⟨p,vs,i,v,rfl,hy,h1,e4,k v H R .refl hv trivial⟩
noncomputable def lenS:En → List S → Option S:=fun Γ as=>match as with
 | [.v (.t xs)]=>some (mkI xs.length)
 | [.v (.a (.str z))]=>if z.length ≤ sizeLine then some (mkI z.length) else none
 | [a]=>(sqlOf Γ a).map fun xs=>mkI xs.length
 | _=>none
noncomputable def rLenS (K:Fg):List V → Hp → VK → Prop:=fun xs H Q=>(∃ p ys,xs = [.ref p] ∧ (SqL K H p ys ∨ SqT K H p ys) ∧ Q (.int ys.length) H) ∨ (∃ z,xs = [.str z] ∧ z.length ≤ sizeLine ∧ Q (.int z.length) H)
theorem soks1 {K:Fg} {C:Fr} {w:W} {σ:St} {H:Hp} {vs:List V} {a:S} (h:SOks K C w σ H vs [a]):∃ v,vs = [v] ∧ SOk K C w σ H v a:=by
 match vs,h with
 | [v],h=>exact ⟨v,rfl,h.1⟩
theorem soks2 {K:Fg} {C:Fr} {w:W} {σ:St} {H:Hp} {vs:List V} {a b:S} (h:SOks K C w σ H vs [a,b]):∃ v u,vs = [v,u] ∧ SOk K C w σ H v a ∧ SOk K C w σ H u b:=by
 match vs,h with
 | [v,u],h=>exact ⟨v,u,rfl,h.1,h.2.1⟩
theorem simRs_len {K:Fg}:SimRs K (rLenS K) lenS:=by
 intro C w Γ σ H vs as s Q R o e k
 unfold lenS at e
 split at e
 ·cases e
  obtain ⟨v,rfl,o1⟩:=soks1 o
  obtain ⟨p,us,rfl,h1,i1⟩:=o1.invt
  refine .inl ⟨p,us,rfl,.inr h1.sq,?_⟩
  rw [i1.len]
  exact k _ H R .refl SOk.atom trivial
 ·rename_i z
  split at e
  ·rename_i hz
   cases e
   obtain ⟨v,rfl,o1⟩:=soks1 o
   exact .inr ⟨z,by rw [o1.inva],hz,k _ H R .refl SOk.atom trivial⟩
  ·cases e
 ·obtain ⟨xs,e1,e⟩:=map_some e
  cases e
  obtain ⟨v,rfl,o1⟩:=soks1 o
  obtain ⟨p,us,rfl,h1,i1⟩:=sql_ok R o1 e1
  refine .inl ⟨p,us,rfl,.inl h1,?_⟩
  rw [i1.len]
  exact k _ H R .refl SOk.atom trivial
 ·cases e
theorem call_lenS {X:Cx}:CallR X (.builtin "len") (rLenS X.K):=call_len_seq.or call_len_str
noncomputable def seqS (Γ:En):S → Option (List T)
 | .v (.t xs)=>some xs
 | a=>sqlOf Γ a
theorem seq_ok {K:Fg} {C:Fr} {w:W} {Γ:En} {σ:St} {H:Hp} {x:V} {s:S} {xs:List T} (R:Rep K C w Γ σ H) (o:SOk K C w σ H x s) (e:seqS Γ s = some xs):∃ p vs,x = .ref p ∧ (SqL K H p vs ∨ SqT K H p vs) ∧ Ims K H vs xs:=by
 unfold seqS at e
 split at e
 ·cases e
  obtain ⟨p,us,rfl,h1,i1⟩:=o.invt
  exact ⟨p,us,rfl,.inr h1.sq,i1⟩
 ·obtain ⟨p,us,rfl,h1,i1⟩:=sql_ok R o e
  exact ⟨p,us,rfl,.inl h1,i1⟩
noncomputable def listS:En → List S → Option S:=fun Γ as=>match as with
 | [a]=>(seqS Γ a).map .l
 | _=>none
noncomputable def tupleS:En → List S → Option S:=fun Γ as=>match as with
 | [.v (.t xs)]=>some (.v (.t xs))
 | [a]=>(sqlOf Γ a).map fun xs=>.v (.t xs)
 | _=>none
theorem simRs_tuple {K:Fg}:SimRs K (fun xs H Q=>∃ p ys,xs = [.ref p] ∧ ((SqL K H p ys ∧ ∀ l,H l = none → Q (.ref l) (upd H l (.tup ys))) ∨ (SqT K H p ys ∧ Q (.ref p) H))) tupleS:=by
 intro C w Γ σ H vs as s Q R o e k
 unfold tupleS at e
 split at e
 ·cases e
  obtain ⟨v,rfl,o1⟩:=soks1 o
  have o2:=o1
  obtain ⟨p,us,rfl,h1,i1⟩:=o1.invt
  exact ⟨p,us,rfl,.inr ⟨h1.sq,k _ H R .refl o2 trivial⟩⟩
 ·obtain ⟨xs,e1,e⟩:=map_some e
  cases e
  obtain ⟨v,rfl,o1⟩:=soks1 o
  obtain ⟨p,us,rfl,h1,i1⟩:=sql_ok R o1 e1
  exact ⟨p,us,rfl,.inl ⟨h1,fun l hl=>k _ _ (R.new hl) (Evo.new hl) (R.newt hl i1) trivial⟩⟩
 ·cases e
noncomputable abbrev DO:=En → Option (Option Int × En)
noncomputable def SimO (K:Fg) (t:TO) (f:DO):Prop:=∀ (C:Fr) (w:W) (Γ:En) (σ:St) (H:Hp) (i:Option Int) (Γ':En) (Q:Option Int → Hp → Prop),Rep K C w Γ σ H → f Γ = some (i,Γ') → (∀ H',Rep K C w Γ' σ H' → Evo w.L H H' → Q i H') → t σ H Q
noncomputable def dNoPart:DO:=fun Γ=>some (none,Γ)
noncomputable def dPart (f:DE):DO:=fun Γ=>(f Γ).bind fun p=>(iS p.1).map fun i=>(some i,p.2)
theorem sim_noPart {K:Fg}:SimO K tNoPart dNoPart:=fun C w Γ σ H i Γ' Q R e k=>by cases e; exact k H R .refl
theorem sim_part {K:Fg} {t:TE} {f:DE} (h:SimE K t f):SimO K (tPart t) (dPart f):=by
 intro C w Γ σ H i Γ' Q R e k
 obtain ⟨p,e1,e⟩:=bind_some e
 obtain ⟨i,e2,e⟩:=map_some e
 cases e
 exact h C w Γ σ H p.1 p.2 _ R e1 fun v H1 R1 ev o _=>⟨i,iS_ok o e2,k H1 R1 ev⟩
noncomputable def cutT (xs:List T) (lo hi:Option Int):List T:=(xs.drop (HT.sIx xs.length 0 lo)).take (HT.sIx xs.length xs.length hi - HT.sIx xs.length 0 lo)
theorem Ims.cut {K:Fg} {H:Hp} {vs:List V} {ts:List T} (h:Ims K H vs ts) (lo hi:Option Int):Ims K H (cutV vs lo hi) (cutT ts lo hi):=by
 unfold cutV cutT
 rw [h.len]
 exact (h.drop _).take _
noncomputable def slS (Γ:En) (lo hi:Option Int):S → Option S
 | .v (.t xs)=>some (.v (.t (cutT xs lo hi)))
 | .v (.a _)=>none
 | a=>(sqlOf Γ a).map fun xs=>.l (cutT xs lo hi)
noncomputable def dSl (f:DE) (lo hi:DO):DE:=fun Γ=>(f Γ).bind fun p=>(lo p.2).bind fun l=>(hi l.2).bind fun h=>(slS h.2 l.1 h.1 p.1).map fun s=>(s,h.2)
noncomputable def rSlTS (K:Fg):V → Option Int → Option Int → Hp → VK → Prop:=fun x lo hi H Q=>∃ a xs,x = .ref a ∧ Tp K H a xs ∧ ∀ p H',Same H H' → Tp K H' p (cutV xs lo hi) → Q (.ref p) H'
theorem sl_tupS {X:Cx}:SlR X (rSlTS X.K):=by
 intro pins s σ H x v vl vu lo hi sl Q I rx hs pl pu h
 obtain ⟨a,xs,rfl,hx,q⟩:=h
 cases rx
 obtain ⟨its,r,ht,hz⟩:=I.tuple hx.sq
 have hlen:its.toArray.size = xs.length:=by rw [List.size_toArray]; exact r.length.symm
 refine ⟨"tuple",_,PyProof.Rows.slot_tuple_getitem.lookup,ht.typeIs,?_⟩
 by_cases hw:HT.sIx xs.length 0 lo = 0 ∧ HT.sIx xs.length xs.length hi = xs.length
 ·refine getItem_tuple_whole ht hs pl pu (by rw [hlen]; exact hw) ⟨.ref a,H,I,rfl,q a H (Same.refl H) ?_⟩
  unfold cutV
  rw [hw.1,hw.2,List.drop_zero,Nat.sub_zero,List.take_of_length_le (Nat.le_refl _)]
  exact hx
 ·refine HT.getItem_tuple_cut ht hs pl pu (by rw [hlen]; exact hw) ?_ (by rw [hlen]; exact hz)
  rw [hlen]
  have hf:H s.heap.objs.size = none:=I.hok.fresh (Nat.le_refl _)
  refine ⟨.ref s.heap.objs.size,_,I.laid (t':=s.toks) (o:=.tup (cutV xs lo hi)) (fun b ob q=>Heap.get?_push_of_some _ q) (Nat.le_refl _) ?_,rfl,q _ _ (Same.upd hf) (.inl upd_same)⟩
  exact ⟨Nat.le_trans (cutV_length xs lo hi) hz,_,(r.drop (HT.sIx xs.length 0 lo)).take (HT.sIx xs.length xs.length hi - HT.sIx xs.length 0 lo),TupD.new _ _⟩
noncomputable def rSlS (K:Fg):V → Option Int → Option Int → Hp → VK → Prop:=fun x lo hi H Q=>rSlTS K x lo hi H Q ∨ rSlL K x lo hi H Q
theorem sl_S {X:Cx}:SlR X (rSlS X.K):=sl_tupS.or sl_list
theorem sim_sl {K:Fg} {te:TE} {f:DE} {tl th:TO} {lo hi:DO} (he:SimE K te f) (hl:SimO K tl lo) (hh:SimO K th hi):SimE K (tSl (rSlS K) te tl th) (dSl f lo hi):=by
 intro C w Γ σ H s Γ' Q R e k
 obtain ⟨⟨a,G1⟩,e1,e⟩:=bind_some e
 obtain ⟨⟨i,G2⟩,e2,e⟩:=bind_some e
 obtain ⟨⟨j,G3⟩,e3,e⟩:=bind_some e
 obtain ⟨z,e4,e⟩:=map_some e
 cases e
 dsimp only at e4
 refine he C w Γ σ H a G1 _ R e1 fun v H1 R1 ev1 o1 n1=>?_
 refine hl C w G1 σ H1 i G2 _ R1 e2 fun H2 R2 ev2=>?_
 refine hh C w G2 σ H2 j G3 _ R2 e3 fun H3 R3 ev3=>?_
 have o3:=(o1.evo ev2 R1.lst).evo ev3 R2.lst
 have ev:=(ev1.trans ev2).trans ev3
 unfold slS at e4
 split at e4
 ·cases e4
  obtain ⟨p,us,rfl,h1,i1⟩:=o3.invt
  refine .inl ⟨p,us,rfl,h1,fun c H' sm hc=>k _ H' (R3.same sm) (ev.trans (.of_same sm)) ?_ trivial⟩
  show Im K H' (.ref c) (.t _)
  unfold Im
  exact ⟨c,_,rfl,hc,(i1.evo (.of_same sm) R3.lst).cut _ _⟩
 ·cases e4
 ·obtain ⟨xs,e5,e4⟩:=map_some e4
  cases e4
  obtain ⟨p,us,rfl,h1,i1⟩:=sql_ok R3 o3 e5
  exact .inr ⟨p,us,rfl,h1,fun c hc=>k _ _ (R3.new hc) (ev.trans (Evo.new hc)) (R3.newl hc (i1.cut _ _)) ⟨c,rfl,none_back ev R3.lst hc⟩⟩
end D
set_option Elab.async false
set_option linter.all false
set_option maxRecDepth 100000
set_option maxHeartbeats 4000000
namespace D
open PySem L2
noncomputable def SimMut (K:Fg) (r:V → List V → Hp → VK → Prop) (h:En → List T → List S → Option (T × List T)):Prop:=∀ (C:Fr) (w:W) (Γ:En) (σ:St) (H:Hp) (l:Addr) (us:List V) (xs:List T) (vs:List V) (as:List S) (t:T) (ys:List T) (Q:VK),Rep K C w Γ σ H → H l = some (.lst us) → Ims K H us xs → us.length ≤ sizeLine → SOks K C w σ H vs as → h Γ xs as = some (t,ys) →
 (∀ v us',Ims K H us' ys → Im K H v t → Q v (upd H l (.lst us'))) → r (.ref l) vs H Q
noncomputable def isLs (Γ:En) (i:Nat):Bool:=match Γ[i]? with
 | some (some (.l _))=>true
 | _=>false
noncomputable def dMut (i:Nat) (h:En → List T → List S → Option (T × List T)) (fa:DA):DE:=fun Γ=>if isLs Γ i = true then (fa Γ).bind fun p=>match p.2[i]? with
 | some (some (.l xs))=>(gd xs.length ()).bind fun _=>(h p.2 xs p.1).map fun q=>(.v q.1,p.2.set i (some (.l q.2)))
 | _=>none
 else none
theorem isLs_ok {K:Fg} {C:Fr} {w:W} {Γ:En} {σ:St} {H:Hp} {i:Nat} (R:Rep K C w Γ σ H) (h:isLs Γ i = true):∃ p vs,σ[i]? = some (some (.ref p)) ∧ H p = some (.lst vs):=by
 unfold isLs at h
 split at h
 ·rename_i xs e
  obtain ⟨v,e1,p,vs,rfl,_,h1,_⟩:=R.val i _ e
  exact ⟨p,vs,e1,h1⟩
 ·cases h
theorem sim_mut {K:Fg} {i:Nat} {r:V → List V → Hp → VK → Prop} {h:En → List T → List S → Option (T × List T)} {ta:TA} {fa:DA} (hr:SimMut K r h) (ha:SimA K ta fa):SimE K (tBM K "list" r (tVar i) ta) (dMut i h fa):=by
 intro C w Γ σ H s Γ' Q R e k
 unfold dMut at e
 split at e
 rotate_left
 ·cases e
 rename_i hl
 obtain ⟨p,vs,e1,e2⟩:=isLs_ok R hl
 obtain ⟨⟨as,G1⟩,e3,e⟩:=bind_some e
 dsimp only at e
 split at e
 rotate_left
 ·cases e
 rename_i xs hx
 obtain ⟨_,eg,e⟩:=bind_some e
 obtain ⟨hsz,_⟩:=gd_of eg
 obtain ⟨⟨t,ys⟩,e4,e⟩:=map_some e
 cases e
 refine ⟨.ref p,e1,.inl ⟨rfl,vs,SqL.of e2⟩,?_⟩
 refine ha C w Γ σ H as G1 _ R e3 fun us H1 R1 ev1 o1 n1=>?_
 obtain ⟨v,s1,q,ws,rfl,m1,h1,i1⟩:=R1.val i _ hx
 rw [e1] at s1; cases s1
 refine hr C w G1 σ H1 p ws xs us as t ys _ R1 h1 i1 (by rw [i1.len]; exact hsz) o1 e4 fun v us' hu hv=>?_
 obtain ⟨R2,ev2⟩:=R1.put hx e1 hu
 exact k v _ R2 (ev1.trans ev2) (hv.evo ev2 R1.lst) trivial
theorem sim_mut0 {K:Fg} {i:Nat} {r:V → List V → Hp → VK → Prop} {h:En → List T → List S → Option (T × List T)} (hr:SimMut K r h):SimE K (tBM0 K "list" r (tVar i)) (dMut i h dNil):=by
 intro C w Γ σ H s Γ' Q R e k
 have:=sim_mut (i:=i) hr (sim_nil (K:=K)) C w Γ σ H s Γ' Q R e k
 obtain ⟨v,e1,e2,e3⟩:=this
 exact ⟨v,e1,e2,e3⟩
noncomputable def hAppend:En → List T → List S → Option (T × List T):=fun _ xs as=>match as with
 | [.v t]=>if xs.length < sizeLine then some (.a .non,xs ++ [t]) else none
 | _=>none
theorem mut_append {K:Fg}:SimMut K rAppend hAppend:=by
 intro C w Γ σ H l us xs vs as t ys Q R hl hi hz o e k
 unfold hAppend at e
 split at e
 ·rename_i t'
  split at e
  ·rename_i hn
   cases e
   obtain ⟨v,rfl,o1⟩:=soks1 o
   exact ⟨l,us,v,rfl,rfl,hl,by rw [hi.len]; exact hn,k _ _ (hi.app (.one o1)) Im.atom⟩
  ·cases e
 ·cases e
noncomputable def hPop:En → List T → List S → Option (T × List T):=fun _ xs as=>match as with
 | []=>(xs[xs.length - 1]?).map fun t=>(t,xs.dropLast)
 | _=>none
theorem Ims.dropLast {K:Fg} {H:Hp} {vs:List V} {ts:List T} (h:Ims K H vs ts):Ims K H vs.dropLast ts.dropLast:=by
 rw [List.dropLast_eq_take,List.dropLast_eq_take,h.len]; exact h.take _
theorem soks0 {K:Fg} {C:Fr} {w:W} {σ:St} {H:Hp} {vs:List V} (h:SOks K C w σ H vs []):vs = []:=by
 match vs,h with
 | [],_=>rfl
theorem mut_pop {K:Fg}:SimMut K rPop hPop:=by
 intro C w Γ σ H l us xs vs as t ys Q R hl hi hz o e k
 unfold hPop at e
 split at e
 ·obtain ⟨t',e1,e⟩:=map_some e
  cases e
  obtain ⟨v,e2,hv⟩:=hi.get e1
  exact ⟨l,us,v,rfl,soks0 o,hl,by rw [hi.len]; exact e2,k _ _ hi.dropLast hv⟩
 ·cases e
noncomputable def hPopAt:En → List T → List S → Option (T × List T):=fun _ xs as=>match as with
 | [.v (.a (.int i))]=>if inR 9223372036854775807 i = true then (seqIndex? i xs.length).bind fun k=>(xs[k]?).map fun t=>(t,xs.eraseIdx k) else none
 | _=>none
noncomputable def hExtend:En → List T → List S → Option (T × List T):=fun Γ xs as=>match as with
 | [a]=>(lsOf Γ a).bind fun zs=>gd (xs.length + zs.length) (.a .non,xs ++ zs)
 | _=>none
theorem mut_extend {K:Fg}:SimMut K rExtend hExtend:=by
 intro C w Γ σ H l us xs vs as t ys Q R hl hi hz o e k
 unfold hExtend at e
 split at e
 ·obtain ⟨zs,e1,e⟩:=bind_some e
  obtain ⟨hg,e⟩:=gd_of e
  cases e
  obtain ⟨v,rfl,o1⟩:=soks1 o
  obtain ⟨p,ws,rfl,h1,i1⟩:=ls_ok R o1 e1
  exact ⟨l,p,us,ws,rfl,rfl,hl,h1,by rw [hi.len,i1.len]; exact hg,k _ _ (hi.app i1) Im.atom⟩
 ·cases e
noncomputable def dSetIx (i:Nat) (fe fi:DE):DS:=fun Γ=>(fe Γ).bind fun p=>p.1.tree.bind fun t=>if isLs p.2 i = true then (fi p.2).bind fun q=>(iS q.1).bind fun k=>match q.2[i]? with
  | some (some (.l xs))=>(ixN xs.length k).map fun j=>.nx (q.2.set i (some (.l (xs.set j t))))
  | _=>none
 else none
theorem simS_setIx {K:Fg} {ip:Option Nat} {i:Nat} {te ti:TE} {fe fi:DE} (he:SimE K te fe) (hi:SimE K ti fi):SimS K ip (tAsg te (gSub (tVar i) ti rSetL)) (dSetIx i fe fi):=by
 intro C w Γ σ H D o hp R e k
 obtain ⟨⟨s,G1⟩,e1,e⟩:=bind_some e
 obtain ⟨t,e2,e⟩:=bind_some e
 dsimp only at e e2
 split at e
 rotate_left
 ·cases e
 rename_i hl
 obtain ⟨⟨s2,G2⟩,e3,e⟩:=bind_some e
 obtain ⟨n,e4,e⟩:=bind_some e
 dsimp only at e e4
 split at e
 rotate_left
 ·cases e
 rename_i xs hx
 obtain ⟨j,e5,e⟩:=map_some e
 subst e
 cases s with
 | l _=>cases e2
 | s _=>cases e2
 | d _=>cases e2
 | v t' =>
  cases e2
  refine he C w Γ σ H _ G1 _ R e1 fun v H1 R1 ev1 o1 n1=>?_
  obtain ⟨p,vs,s1,h1⟩:=isLs_ok R1 hl
  refine ⟨.ref p,s1,?_⟩
  refine hi C w G1 σ H1 s2 G2 _ R1 e3 fun v2 H2 R2 ev2 o2 n2=>?_
  obtain ⟨v3,s3,q,ws,rfl,m3,h3,i3⟩:=R2.val i _ hx
  rw [s1] at s3; cases s3
  have o1':Im K H1 v t:=o1
  exact ⟨p,ws,n,j,rfl,iS_ok o2 e4,h3,by rw [i3.len]; exact e5,k w σ _ (R2.put hx s1 (i3.set j (o1'.evo ev2 R1.lst))).1⟩
noncomputable def boolsOf:List T → Option (List Bool)
 | []=>some []
 | .a (.bl b) :: r=>(boolsOf r).map fun bs=>b :: bs
 | _=>none
theorem bools_ok {K:Fg} {H:Hp}:∀ {vs:List V} {ts:List T} {bs:List Bool},Ims K H vs ts → boolsOf ts = some bs → vs = bs.map V.bl
 | _,[],_,h,e=>by cases e; exact h.inv0
 | _,.a (.bl b) :: r,_,h,e=>by
  obtain ⟨v,us,rfl,h1,h2⟩:=h.inv
  obtain ⟨bs,e1,e⟩:=map_some e
  cases e
  rw [h1.inva,bools_ok h2 e1]; rfl
 | _,.t _ :: _,_,_,e=>by cases e
 | _,.l _ :: _,_,_,e=>by cases e
 | _,.f _ :: _,_,_,e=>by cases e
 | _,.x _ _ :: _,_,_,e=>by cases e
 | _,.m _ _ :: _,_,_,e=>by cases e
 | _,.a .non :: _,_,_,e=>by cases e
 | _,.a (.int _) :: _,_,_,e=>by cases e
 | _,.a (.str _) :: _,_,_,e=>by cases e
 | _,.a (.byt _) :: _,_,_,e=>by cases e
 | _,.a (.flt _) :: _,_,_,e=>by cases e
 | _,.a (.ref _) :: _,_,_,e=>by cases e
 | _,.a (.ty _) :: _,_,_,e=>by cases e
noncomputable def allS:En → List S → Option S:=fun Γ as=>match as with
 | [a]=>(sqlOf Γ a).bind fun xs=>(boolsOf xs).map fun bs=>mkB (bs.all id)
 | _=>none
theorem simRs_all {K:Fg}:SimRs K (fun xs H Q=>∃ (p:Addr) (bs:List Bool),xs = [.ref p] ∧ SqL K H p (bs.map V.bl) ∧ Q (.bl (bs.all id)) H) allS:=by
 intro C w Γ σ H vs as s Q R o e k
 unfold allS at e
 split at e
 ·obtain ⟨xs,e1,e⟩:=bind_some e
  obtain ⟨bs,e2,e⟩:=map_some e
  cases e
  obtain ⟨v,rfl,o1⟩:=soks1 o
  obtain ⟨p,us,rfl,h1,i1⟩:=sql_ok R o1 e1
  exact ⟨p,bs,rfl,by rw [← bools_ok i1 e2]; exact h1,k _ H R .refl SOk.atom trivial⟩
 ·cases e
noncomputable def tyN (Γ:En):S → Option String
 | .v (.t _)=>some "tuple"
 | .v (.a (.int _))=>some "int"
 | .v (.a (.bl _))=>some "bool"
 | .v (.a (.str _))=>some "str"
 | .v (.a .non)=>some "NoneType"
 | .v (.l _)=>some "list"
 | .v _=>none
 | a=>(sqlOf Γ a).map fun _=>"list"
noncomputable def TyS (K:Fg) (H:Hp) (n:String):V → Prop
 | .int _=>n = "int"
 | .bl _=>n = "bool"
 | .str _=>n = "str"
 | .non=>n = "NoneType"
 | .ref p=>(n = "list" ∧ ∃ xs,SqL K H p xs) ∨ (n = "tuple" ∧ ∃ xs,SqT K H p xs)
 | _=>False
theorem tyN_ok {K:Fg} {C:Fr} {w:W} {Γ:En} {σ:St} {H:Hp} {x:V} {s:S} {n:String} (R:Rep K C w Γ σ H) (o:SOk K C w σ H x s) (e:tyN Γ s = some n):TyS K H n x:=by
 unfold tyN at e
 split at e
 ·cases e; obtain ⟨p,us,rfl,h1,i1⟩:=o.invt; exact .inr ⟨rfl,us,h1.sq⟩
 ·cases e; rw [o.inva]; exact rfl
 ·cases e; rw [o.inva]; exact rfl
 ·cases e; rw [o.inva]; exact rfl
 ·cases e; rw [o.inva]; exact rfl
 ·rename_i ys; cases e; obtain ⟨p,us,rfl,h1,i1⟩:=(show Im K H x (.l ys) from o).invl; exact .inl ⟨rfl,us,h1.sq⟩
 ·cases e
 ·obtain ⟨xs,e1,e⟩:=map_some e
  cases e
  obtain ⟨p,us,rfl,h1,i1⟩:=sql_ok R o e1
  exact .inl ⟨rfl,us,h1⟩
theorem kit_ok {X:Cx} {pins:List (Addr × Obj)} {σ:St} {H:Hp} {s:Shared} {x:V} {u:Value} {n:String} (I:Inv X pins σ H s) (rx:RelV x u) (ty:TyS X.K H n x):∃ P:Heap → Prop,PySem.W.KitX X.K u (.type n) P ∧ P s.heap ∧ u ≠ .builtin "__main__.__loader__#opaque":=by
 cases x with
 | non=>cases ty; cases (show u = Value.none from rx); exact ⟨_,PySem.W.kitx_none,True.intro,fun z=>nomatch z⟩
 | bl y=>cases ty; cases (show u = Value.bool y from rx); exact ⟨_,PySem.W.kitx_bool,True.intro,fun z=>nomatch z⟩
 | int i=>cases ty; obtain ⟨t,q⟩:=(show ∃ t,u = Value.int i t from rx); cases q; exact ⟨_,PySem.W.kitx_int,True.intro,fun z=>nomatch z⟩
 | str y=>cases ty; obtain ⟨t,q⟩:=(show ∃ t,u = Value.str y t from rx); cases q; exact ⟨_,PySem.W.kitx_str,True.intro,fun z=>nomatch z⟩
 | ref p =>
  cases (show u = Value.ref p from rx)
  rcases ty with ⟨rfl,xs,h⟩ | ⟨rfl,xs,h⟩
  ·obtain ⟨its,_,pl,_⟩:=I.list h
   obtain ⟨o,h1,h2,_⟩:=pl.isList
   exact ⟨_,PySem.W.kitx_list,⟨o,h1,h2⟩,fun z=>nomatch z⟩
  ·obtain ⟨its,_,pl,_⟩:=I.tuple h
   obtain ⟨o,h1,h2,_⟩:=pl
   exact ⟨_,PySem.W.kitx_tuple,⟨o,h1,h2⟩,fun z=>nomatch z⟩
 | byt _=>exact ty.elim
 | flt _=>exact ty.elim
 | ty _=>exact ty.elim
noncomputable def tyIx:String → Option Nat
 | "int"=>some 0
 | "bool"=>some 1
 | "str"=>some 2
 | "list"=>some 3
 | "tuple"=>some 4
 | "NoneType"=>some 5
 | _=>none
noncomputable def tyNm:Nat → String
 | 0=>"int" | 1=>"bool" | 2=>"str" | 3=>"list" | 4=>"tuple" | _=>"NoneType"
@[simp] theorem tyIx_0:tyIx "int" = some 0:=(rfl)
@[simp] theorem tyIx_4:tyIx "tuple" = some 4:=(rfl)
theorem tyIx_of {a:String} {i:Nat} (h:tyIx a = some i):a = tyNm i ∧ i < 6:=by
 unfold tyIx at h
 split at h <;> first | (cases h; exact ⟨rfl,by decide⟩) | cases h
noncomputable def subTy (a b:String):Option Bool:=(tyIx a).bind fun i=>(tyIx b).bind fun j=>if j = 5 then none else some (i == j || (i == 1 && j == 0))
theorem subTy_ok {K:Fg} {a b:String} {c:Bool} (e:subTy a b = some c):PySem.W.kitOne K (.type a) (.type b) = some c:=by
 obtain ⟨i,e1,z0⟩:=bind_some e
 obtain ⟨j,e2,z⟩:=bind_some z0
 clear z0
 clear e
 obtain ⟨rfl,hi⟩:=tyIx_of e1
 obtain ⟨rfl,hj⟩:=tyIx_of e2
 clear e1 e2
 by_cases h5:j = 5
 ·rw [if_pos h5] at z; cases z
 rw [if_neg h5] at z
 cases z
 have key:∀ i < 6,∀ j < 5,PySem.W.kitOne K (.type (tyNm i)) (.type (tyNm j)) = some (i == j || (i == 1 && j == 0)):=fun i hi j hj=>by
  match i,hi,j,hj with
  | 0,_,0,_=>kernel_rfl
  | 0,_,1,_=>kernel_rfl
  | 0,_,2,_=>kernel_rfl
  | 0,_,3,_=>kernel_rfl
  | 0,_,4,_=>kernel_rfl
  | 1,_,0,_=>kernel_rfl
  | 1,_,1,_=>kernel_rfl
  | 1,_,2,_=>kernel_rfl
  | 1,_,3,_=>kernel_rfl
  | 1,_,4,_=>kernel_rfl
  | 2,_,0,_=>kernel_rfl
  | 2,_,1,_=>kernel_rfl
  | 2,_,2,_=>kernel_rfl
  | 2,_,3,_=>kernel_rfl
  | 2,_,4,_=>kernel_rfl
  | 3,_,0,_=>kernel_rfl
  | 3,_,1,_=>kernel_rfl
  | 3,_,2,_=>kernel_rfl
  | 3,_,3,_=>kernel_rfl
  | 3,_,4,_=>kernel_rfl
  | 4,_,0,_=>kernel_rfl
  | 4,_,1,_=>kernel_rfl
  | 4,_,2,_=>kernel_rfl
  | 4,_,3,_=>kernel_rfl
  | 4,_,4,_=>kernel_rfl
  | 5,_,0,_=>kernel_rfl
  | 5,_,1,_=>kernel_rfl
  | 5,_,2,_=>kernel_rfl
  | 5,_,3,_=>kernel_rfl
  | 5,_,4,_=>kernel_rfl
 exact key i hi j (by omega)
noncomputable def subLT:String → Option Bool
 | "int"=>some false
 | "bool"=>some false
 | "str"=>some false
 | "NoneType"=>some false
 | "list"=>some true
 | "tuple"=>some true
 | _=>none
theorem subLT_ok {K:Fg} {a:String} {c:Bool} (e:subLT a = some c):PySem.W.kitAny K (.type a) [.type "list",.type "tuple"] = some c:=by
 unfold subLT at e
 split at e <;> first | (cases e; kernel_rfl) | cases e
noncomputable def rIsi (K:Fg):List V → Hp → VK → Prop:=fun xs H Q=>∃ x T n b,xs = [x,.ty T] ∧ TyS K H n x ∧ subTy n T = some b ∧ Q (.bl b) H
theorem call_isi {X:Cx}:CallR X (.builtin "isinstance") (rIsi X.K):=by
 intro pins s σ H xs us Q I r h
 obtain ⟨x,T,n,b,rfl,ty,e,q⟩:=h
 obtain ⟨u,u',rfl,r1,r2⟩:=vals2 r
 cases (show u' = Value.type T from r2)
 obtain ⟨P,Z,hP,hx⟩:=kit_ok I r1 ty
 exact PySem.W.kia_one Z I.kIn hP (subTy_ok e) hx fun tk=>⟨.bl b,H,I.tok tk,rfl,q⟩
noncomputable def rIsiLT (K:Fg):List V → Hp → VK → Prop:=fun xs H Q=>∃ x p n b,xs = [x,.ref p] ∧ SqT K H p [.ty "list",.ty "tuple"] ∧ TyS K H n x ∧ subLT n = some b ∧ Q (.bl b) H
theorem call_isiLT {X:Cx}:CallR X (.builtin "isinstance") (rIsiLT X.K):=by
 intro pins s σ H xs us Q I r h
 obtain ⟨x,p,n,b,rfl,hp,ty,e,q⟩:=h
 obtain ⟨u,u',rfl,r1,r2⟩:=vals2 r
 cases (show u' = Value.ref p from r2)
 obtain ⟨its,rv,⟨o,ho,hcl,⟨m,hd⟩⟩,hz⟩:=I.tuple hp
 obtain ⟨u1,u2,rfl,q1,q2⟩:=vals2 rv
 cases (show u1 = Value.type "list" from q1)
 cases (show u2 = Value.type "tuple" from q2)
 obtain ⟨P,Z,hP,hx⟩:=kit_ok I r1 ty
 obtain ⟨cls,dd,data,sl⟩:=o
 simp only at hcl hd
 subst hcl hd
 exact PySem.W.kia_tup Z I.kIn hP ho (subLT_ok e) hx fun tk=>⟨.bl b,H,I.tok tk,rfl,q⟩
noncomputable def isiS:En → List S → Option S:=fun Γ as=>match as with
 | [a,.v (.a (.ty T))]=>(tyN Γ a).bind fun n=>(subTy n T).map mkB
 | [a,.v (.t [.a (.ty "list"),.a (.ty "tuple")])]=>(tyN Γ a).bind fun n=>(subLT n).map mkB
 | _=>none
noncomputable def rIsiS (K:Fg):List V → Hp → VK → Prop:=fun xs H Q=>rIsi K xs H Q ∨ rIsiLT K xs H Q
theorem call_isiS {X:Cx}:CallR X (.builtin "isinstance") (rIsiS X.K):=call_isi.or call_isiLT
theorem simRs_isi {K:Fg}:SimRs K (rIsiS K) isiS:=by
 intro C w Γ σ H vs as s Q R o e k
 unfold isiS at e
 split at e
 ·obtain ⟨n,e1,e⟩:=bind_some e
  obtain ⟨b,e2,e⟩:=map_some e
  cases e
  obtain ⟨v,u,rfl,o1,o2⟩:=soks2 o
  exact .inl ⟨v,_,n,b,by rw [o2.inva],tyN_ok R o1 e1,e2,k _ H R .refl SOk.atom trivial⟩
 ·obtain ⟨n,e1,e⟩:=bind_some e
  obtain ⟨b,e2,e⟩:=map_some e
  cases e
  obtain ⟨v,u,rfl,o1,o2⟩:=soks2 o
  obtain ⟨p,us,rfl,h1,i1⟩:=o2.invt
  have hus:us = [.ty "list",.ty "tuple"]:=Ims.of_atoms (us:=[.ty "list",.ty "tuple"]) i1
  subst hus
  exact .inr ⟨v,p,n,b,rfl,h1.sq,tyN_ok R o1 e1,e2,k _ H R .refl SOk.atom trivial⟩
 ·cases e
noncomputable def intS:En → List S → Option S:=fun _ as=>match as with
 | [.v (.a (.int i))]=>some (mkI i)
 | [.v (.a (.bl b))]=>some (mkI (if b then 1 else 0))
 | _=>none
theorem simRs_int {K:Fg}:SimRs K (fun xs H Q=>(∃ i,xs = [.int i] ∧ Q (.int i) H) ∨ ∃ k,xs = [.bl k] ∧ Q (.int (if k then 1 else 0)) H) intS:=by
 intro C w Γ σ H vs as s Q R o e k
 unfold intS at e
 split at e
 ·cases e
  obtain ⟨v,rfl,o1⟩:=soks1 o
  exact .inl ⟨_,by rw [o1.inva],k _ H R .refl SOk.atom trivial⟩
 ·cases e
  obtain ⟨v,rfl,o1⟩:=soks1 o
  exact .inr ⟨_,by rw [o1.inva],k _ H R .refl SOk.atom trivial⟩
 ·cases e
noncomputable def max2S:En → List S → Option S:=fun _ as=>match as with
 | [.v (.a (.int i)),.v (.a (.int j))]=>some (mkI (if j > i then j else i))
 | _=>none
noncomputable def min2S:En → List S → Option S:=fun _ as=>match as with
 | [.v (.a (.int i)),.v (.a (.int j))]=>some (mkI (if j < i then j else i))
 | _=>none
theorem simRs_max2 {K:Fg}:SimRs K (fun xs H Q=>∃ i j,xs = [.int i,.int j] ∧ Q (.int (if j > i then j else i)) H) max2S:=by
 intro C w Γ σ H vs as s Q R o e k
 unfold max2S at e
 split at e
 ·cases e
  obtain ⟨v,u,rfl,o1,o2⟩:=soks2 o
  exact ⟨_,_,by rw [o1.inva,o2.inva],k _ H R .refl SOk.atom trivial⟩
 ·cases e
noncomputable def atomsOf:List T → Option (List V)
 | []=>some []
 | .a v :: r=>(atomsOf r).map fun vs=>v :: vs
 | _=>none
theorem atoms_ok {K:Fg} {H:Hp}:∀ {vs:List V} {ts:List T} {us:List V},Ims K H vs ts → atomsOf ts = some us → vs = us
 | _,[],_,h,e=>by cases e; exact h.inv0
 | _,.a b :: r,_,h,e=>by
  obtain ⟨v,us,rfl,h1,h2⟩:=h.inv
  obtain ⟨bs,e1,e⟩:=map_some e
  cases e
  rw [h1.inva,atoms_ok h2 e1]
 | _,.t _ :: _,_,_,e=>by cases e
 | _,.l _ :: _,_,_,e=>by cases e
 | _,.f _ :: _,_,_,e=>by cases e
 | _,.x _ _ :: _,_,_,e=>by cases e
 | _,.m _ _ :: _,_,_,e=>by cases e
noncomputable def dIndex (fo:DE) (fa:DA):DE:=fun Γ=>(fo Γ).bind fun p=>(fa p.2).bind fun q=>match p.1,q.1 with
 | .v (.t xs),[.v (.a y)]=>(atomsOf xs).bind fun vs=>if flatV y = true ∧ vs.all flatV = true then (vs.findIdx? fun z=>eqV z y).map fun j=>(mkI (j:Nat),q.2) else none
 | _,_=>none
end D
set_option Elab.async false
set_option linter.all false
set_option maxRecDepth 100000
set_option maxHeartbeats 4000000
namespace L2
open PySem PySem.Spec PyProof.Rows
section
variable {X:Cx} {tg:Expr}
noncomputable def iSeq (K:PySem.W.Frag) (tl:TE):TI:=fun σ H R=>tl σ H fun x H1=>∃ a,x = .ref a ∧ (((∃ xs,SqL K H1 a xs) ∧ R (Itl K a) H1) ∨ ((∃ xs,SqT K H1 a xs) ∧ R (Itt K a) H1))
theorem pi_seqU {l:Expr} {tl:TE} (hl:PE X l tl):PI X tg l (iSeq X.K tl):=by
 intro pins s σ H R I h
 refine thn (hl pins s σ H _ I h) fun v s1 ⟨x,H1,I1,r1,q1⟩=>?_
 obtain ⟨a,e,q⟩:=q1
 subst e
 cases r1
 rcases q with ⟨⟨xs,hq⟩,q⟩ | ⟨⟨xs,hq⟩,q⟩
 ·obtain ⟨its,rv,p,hz⟩:=I1.list hq
  refine wpAny_pyIter_list p.isList ?_
  refine ⟨s1.heap.objs.size,[s1.heap.objs.size],_,_,H1,rfl,I1.kept (t':=s1.toks) fun b o e=>Heap.get?_push_of_some _ e,turn_list a _,⟨_,Heap.get?_push_size _ rfl,rfl,rfl⟩,fun b hb=>?_,q⟩
  have e:b = s1.heap.objs.size:=by simpa using hb
  subst e
  exact I1.fpOk (Nat.le_refl _) (I1.hok.fresh (Nat.le_refl _))
 ·obtain ⟨its,rv,p,hz⟩:=I1.tuple hq
  refine wpAny_pyIter_tuple (show s1.heap.IsTuple a its.toArray from p) ?_
  refine ⟨s1.heap.objs.size,[s1.heap.objs.size],_,_,H1,rfl,I1.kept (t':=s1.toks) fun b o e=>Heap.get?_push_of_some _ e,turn_tuple a _,⟨_,Heap.get?_push_size _ rfl,rfl,rfl⟩,fun b hb=>?_,q⟩
  have e:b = s1.heap.objs.size:=by simpa using hb
  subst e
  exact I1.fpOk (Nat.le_refl _) (I1.hok.fresh (Nat.le_refl _))
end
section
variable {X:Cx} {pos:Pos}
noncomputable def tPar3 (i j k:Nat) (ta:TA):TS:=fun D σ H=>ta σ H fun vs H1=>∃ v w z,vs = [v,w,z] ∧ D.nx (((σ.set i (some v)).set j (some w)).set k (some z)) H1
theorem ps_par3 {i j k:Nat} {x y z:Str} {a b c:Expr} {ta:TA} {px py pz pt:Pos} {kt k2 pt2} (hc:X.calm = true) (hN:X.N.Nodup) (hi:X.N[i]? = some x) (hj:X.N[j]? = some y) (hk:X.N[k]? = some z) (hij:i ≠ j) (hik:i ≠ k) (hjk:j ≠ k)
  (hx:X.env.scope.names.lookup x = some .local) (hy:X.env.scope.names.lookup y = some .local) (hz:X.env.scope.names.lookup z = some .local) (ha:PA X [a,b,c] ta)
  (hw:swappedStores [.Tuple [.Name x px,.Name y py,.Name z pz] kt pt] (.Tuple [a,b,c] k2 pt2) X.env = pure (some [x,y,z]))
  (hs:swapsWithSole [.Tuple [.Name x px,.Name y py,.Name z pz] kt pt] (.Tuple [a,b,c] k2 pt2) pos.line X.env = pure false:=by rfl) :
  PS X (.Assign [.Tuple [.Name x px,.Name y py,.Name z pz] kt pt] (.Tuple [a,b,c] k2 pt2) pos) (tPar3 i j k ta):=by
 intro pins s σ H D I h
 rw [exec_Assign_arm]
 refine wpAny_bind (wpAny_standAt ?_)
 rw [hs]
 refine wpAny_bind (wpAny_pure ?_)
 rw [if_neg (by decide)]
 refine wpAny_bind (Tuple_ (thn (ha _ pins s σ H _ I h) fun us s1 ⟨vs,H1,I1,r1,q1⟩=>?_))
 obtain ⟨v,w,q,e1,q1⟩:=q1
 subst e1
 obtain ⟨u1,u2,u3,rfl,rv,rw',rz⟩:∃ u1 u2 u3,us = [u1,u2,u3] ∧ RelV v u1 ∧ RelV w u2 ∧ RelV q u3:=by
  cases r1 with
  | cons p q =>
   cases q with
   | cons p' q' =>
    cases q' with
    | cons p'' q'' =>
     cases q''
     exact ⟨_,_,_,rfl,p,p',p''⟩
 refine wpAny_newObj_type ?_ (by show 3 ≤ sizeLine; decide)
 have I2:Inv X pins σ H1 { s1 with heap:=s1.heap.push { cls:=.type "tuple",data:=.seq [u1,u2,u3].toArray } }:=I1.kept (t':=s1.toks) fun b o e=>Heap.get?_push_of_some _ e
 rw [hw]
 refine wpAny_bind (wpAny_pure ?_)
 show wpAny (model X.prog X.w) X.A (do rule "assign.swapped-stores"; let items ← unpackItems (.ref s1.heap.objs.size) 3 none; assignInOrder [fun v=>bindName X.env z v,fun v=>bindName X.env y v,fun v=>bindName X.env x v] items.reverse; pure Flow.next) _ _ _
 refine wpAny_bind (wpAny_rule (wpAny_bind (unpackItems_tuple (items:=#[u1,u2,u3]) (I.ok.hd hc) (IsTup.new s1.heap _) fun h' hx'=>?_)))
 have I3:=I2.kept (h':=h') (t':=s1.toks) fun b o e=>hx' b o (Nat.ne_of_lt (Heap.lt_size e)) e
 show wpAny _ _ (assignInOrder [fun v=>bindName X.env z v,fun v=>bindName X.env y v,fun v=>bindName X.env x v] [u3,u2,u1] >>= fun _=>pure Flow.next) _ _ _
 refine wpAny_bind (assignInOrder_cons (wpAny_bindName (store_ok I3 hN hk (.inl hz) rz (fun s2 I4=>?_) (.inr hz))))
 refine assignInOrder_cons (wpAny_bindName (store_ok I4 hN hj (.inl hy) rw' (fun s3 I5=>?_) (.inr hy)))
 refine assignInOrder_cons (wpAny_bindName (store_ok I5 hN hi (.inl hx) rv (fun s4 I6=>assignInOrder_nil (wpAny_pure ?_)) (.inr hx)))
 rw [List.set_comm _ _ (Ne.symm hij),List.set_comm _ _ (Ne.symm hik),List.set_comm _ _ (Ne.symm hjk)] at I6
 exact ⟨_,H1,I6,q1⟩
end
end L2
set_option Elab.async false
set_option linter.all false
set_option maxRecDepth 100000
set_option maxHeartbeats 4000000
namespace D
open PySem L2
noncomputable def rngT (lo:Int) (n:Nat):List T:=(List.range n).map fun (i:Nat)=>T.a (.int (lo + (i:Int)))
noncomputable def dRng1 (fa:DA):DI:=fun Γ=>(fa Γ).bind fun p=>match p.1 with
 | [.v (.a (.int j))]=>if (inR 4611686018427387903 j && Nat.ble j.toNat sizeLine) = true then some ((rngT 0 j.toNat,[]),p.2) else none
 | _=>none
noncomputable def dRng2 (fa:DA):DI:=fun Γ=>(fa Γ).bind fun p=>match p.1 with
 | [.v (.a (.int i)),.v (.a (.int j))]=>if (inR 4611686018427387903 i && inR 4611686018427387903 j && Nat.ble (j - i).toNat sizeLine) = true then some ((rngT i (j - i).toNat,[]),p.2) else none
 | _=>none
section
variable {K:Fg}
theorem itOk_rng {w:W} {Γ:En} {σ:St} {H:Hp} {lo:Int} {n:Nat} (h:n ≤ sizeLine):ItOk K w Γ σ (Itr lo n) H (rngT lo n) []:=by
 refine ⟨by simp [rngT]; exact h,fun L' _ _ H2 _=>⟨fun i t e=>?_,by simp [rngT]; exact Nat.le_refl n⟩⟩
 unfold rngT at e
 rw [List.getElem?_map] at e
 obtain ⟨j,e1,e⟩:=map_some e
 obtain ⟨hi',e1⟩:=List.getElem?_eq_some_iff.mp e1
 have hi:i < n:=by simpa using hi'
 have e1':i = j:=by simpa using e1
 subst e
 subst e1'
 refine ⟨hi,fun x H3 y=>?_⟩
 obtain ⟨a,b⟩:=y
 subst a b
 exact ⟨fun _ _ z=>z,Im.atom⟩
theorem fit1 {j:Int} (h:(inR 4611686018427387903 j && Nat.ble j.toNat sizeLine) = true):-(2 ^ 62) ≤ j ∧ j < 2 ^ 62 ∧ j.toNat ≤ sizeLine:=by
 rw [Bool.and_eq_true] at h
 exact ⟨(inR62 h.1).1,(inR62 h.1).2,Nat.le_of_ble_eq_true h.2⟩
theorem fit2 {i j:Int} (h:(inR 4611686018427387903 i && inR 4611686018427387903 j && Nat.ble (j - i).toNat sizeLine) = true):(-(2 ^ 62) ≤ i ∧ i < 2 ^ 62 ∧ -(2 ^ 62) ≤ j ∧ j < 2 ^ 62) ∧ (j - i).toNat ≤ sizeLine:=by
 rw [Bool.and_eq_true,Bool.and_eq_true] at h
 exact ⟨⟨(inR62 h.1.1).1,(inR62 h.1.1).2,(inR62 h.1.2).1,(inR62 h.1.2).2⟩,Nat.le_of_ble_eq_true h.2⟩
theorem simI_rng1 {ta:TA} {fa:DA} (ha:SimA K ta fa):SimI K (iRng1 ta) (dRng1 fa):=by
 intro C w Γ σ H its src Γ' R Rp e k
 obtain ⟨⟨as,G1⟩,e1,e⟩:=bind_some e
 dsimp only at e
 split at e
 ·split at e
  ·rename_i j hj0
   have hj:=fit1 hj0
   cases e
   refine ha C w Γ σ H _ _ _ Rp e1 fun vs H1 R1 ev1 o1 n1=>?_
   obtain ⟨v,rfl,o2⟩:=soks1 o1
   exact ⟨_,by rw [o2.inva],hj.1,hj.2.1,k _ H1 R1 ev1 (itOk_rng hj.2.2)⟩
  ·cases e
 ·cases e
theorem simI_rng2 {ta:TA} {fa:DA} (ha:SimA K ta fa):SimI K (iRng2 ta) (dRng2 fa):=by
 intro C w Γ σ H its src Γ' R Rp e k
 obtain ⟨⟨as,G1⟩,e1,e⟩:=bind_some e
 dsimp only at e
 split at e
 ·split at e
  ·rename_i j hj0
   have hj:=fit2 hj0
   cases e
   refine ha C w Γ σ H _ _ _ Rp e1 fun vs H1 R1 ev1 o1 n1=>?_
   obtain ⟨v,u,rfl,o2,o3⟩:=soks2 o1
   exact ⟨_,_,by rw [o2.inva,o3.inva],hj.1,k _ H1 R1 ev1 (itOk_rng hj.2)⟩
  ·cases e
 ·cases e
noncomputable def srcS (Γ:En):S → List Nat
 | .s i=>match Γ[i]? with
  | some (some (.l _))=>[i]
  | _=>[]
 | _=>[]
noncomputable def dSeqI (f:DE):DI:=fun Γ=>(f Γ).bind fun p=>(seqS p.2 p.1).bind fun xs=>gd xs.length ((xs,srcS p.2 p.1),p.2)
theorem stay_list {C:Fr} {w:W} {Γ:En} {σ:St} {H:Hp} {x:V} {s:S} {xs:List T} (R:Rep K C w Γ σ H) (o:SOk K C w σ H x s) (e:sqlOf Γ s = some xs):∃ p vs,x = .ref p ∧ SqL K H p vs ∧ Ims K H vs xs ∧
  ∀ L',(∀ q ∈ L',q ∈ w.L) → (∀ i ∈ srcS Γ s,∀ q,σ[i]? = some (some (.ref q)) → (∃ zs,Γ[i]? = some (some (.l zs))) → q ∉ L') → ∀ H2,Evo L' H H2 → SqL K H2 p vs:=by
 cases s with
 | v t =>
  cases t with
  | l ys =>
   cases e
   obtain ⟨p,vs,rfl,h1,h2⟩:=(show Im K H x (.l xs) from o).invl
   exact ⟨p,vs,rfl,h1.sq,h2,fun L' hs _ H2 ev=>(h1.evo ev fun q hq=>R.lst q (hs q hq)).sq⟩
  | a _=>cases e
  | t _=>cases e
  | f _=>cases e
  | x _ _=>cases e
  | m _ _=>cases e
 | d _=>cases e
 | l ys =>
  cases e
  obtain ⟨p,vs,rfl,n1,n2,n3,h1,h2⟩:=o
  exact ⟨p,vs,rfl,SqL.of h1,h2,fun L' hs _ H2 ev=>SqL.of (ev _ _ h1 fun z=>n1 (hs p z))⟩
 | s i =>
  have o':σ[i]? = some (some x):=o
  unfold sqlOf at e
  dsimp only at e
  split at e
  ·rename_i ys h
   cases e
   obtain ⟨v,e1,p,vs,rfl,_,h1,h2⟩:=R.val i _ h
   rw [o'] at e1; cases e1
   refine ⟨p,vs,rfl,SqL.of h1,h2,fun L' hs av H2 ev=>SqL.of (ev _ _ h1 (av i ?_ p o' ⟨_,h⟩))⟩
   simp [srcS,h]
  ·rename_i ys h
   cases e
   obtain ⟨v,e1,p,vs,rfl,h1,h2,h3,_⟩:=R.val i _ h
   rw [o'] at e1; cases e1
   exact ⟨p,vs,rfl,SqL.of h2,h1,fun L' hs av H2 ev=>SqL.of (ev _ _ h2 fun z=>h3 (hs p z))⟩
  ·rename_i ys h
   cases e
   obtain ⟨v,e1,p,vs,rfl,h1,h2⟩:=R.val i _ h
   rw [o'] at e1; cases e1
   exact ⟨p,vs,rfl,h2.sq,h1,fun L' hs av H2 ev=>(h2.evo ev fun q hq=>R.lst q (hs q hq)).sq⟩
  ·cases e
theorem simI_seq {tl:TE} {f:DE} (hl:SimE K tl f):SimI K (iSeq K tl) (dSeqI f):=by
 intro C w Γ σ H its src Γ' R Rp e k
 obtain ⟨⟨a,G1⟩,e1,e⟩:=bind_some e
 obtain ⟨xs,e2,e⟩:=bind_some e
 obtain ⟨hz,e⟩:=gd_of e
 cases e
 refine hl C w Γ σ H a _ _ Rp e1 fun v H1 R1 ev1 o1 n1=>?_
 dsimp only at e2
 have go:∀ {vs:List V} {H2:Hp} {J:It} (mk:∀ i x,vs[i]? = some x → J.go i H2) (yl:∀ i x H3,J.yld i H2 x H3 → H3 = H2 ∧ vs[i]? = some x),Ims K H2 vs its → ∀ (i:Nat) t,its[i]? = some t → J.go i H2 ∧ ∀ x H3,J.yld i H2 x H3 → (∀ b o,H2 b = some o → H3 b = some o) ∧ Im K H3 x t:=fun {vs H2 J} mk yl hi i t e=>by
  obtain ⟨v,e3,hv⟩:=hi.get e
  refine ⟨mk i v e3,fun x H3 y=>?_⟩
  obtain ⟨rfl,e4⟩:=yl i x H3 y
  rw [e3] at e4; cases e4
  exact ⟨fun _ _ z=>z,hv⟩
 unfold seqS at e2
 split at e2
 ·cases e2
  obtain ⟨p,vs,rfl,h1,i1⟩:=o1.invt
  refine ⟨p,rfl,.inr ⟨⟨vs,h1.sq⟩,k _ H1 R1 ev1 ⟨hz,fun L' hs av H2 ev=>?_⟩⟩⟩
  have hL:LL L' H1:=fun q hq=>R1.lst q (hs q hq)
  have h2:SqT K H2 p vs:=(tp_evo ev hL h1).sq
  have i2:=i1.evo ev hL
  exact ⟨go (vs:=vs) (J:=Itt K p) (fun i x e=>⟨vs,x,h2,e⟩) (fun i x H3 y=>⟨y.1,y.2 vs h2⟩) i2,⟨vs,h2,by rw [i2.len]; exact Nat.le_refl _⟩⟩
 ·obtain ⟨p,vs,rfl,h1,i1,st⟩:=stay_list R1 o1 e2
  refine ⟨p,rfl,.inl ⟨⟨vs,h1⟩,k _ H1 R1 ev1 ⟨hz,fun L' hs av H2 ev=>?_⟩⟩⟩
  have hL:LL L' H1:=fun q hq=>R1.lst q (hs q hq)
  have h2:=st L' hs av H2 ev
  have i2:=i1.evo ev hL
  exact ⟨go (vs:=vs) (J:=Itl K p) (fun i x e=>⟨vs,x,h2,e⟩) (fun i x H3 y=>⟨y.1,y.2 vs h2⟩) i2,⟨vs,h2,by rw [i2.len]; exact Nat.le_refl _⟩⟩
noncomputable def rngS (as:List S):Option (List T):=match as with
 | [.v (.a (.int j))]=>if (inR 4611686018427387903 j && Nat.ble j.toNat sizeLine) = true then some (rngT 0 j.toNat) else none
 | [.v (.a (.int i)),.v (.a (.int j))]=>if (inR 4611686018427387903 i && inR 4611686018427387903 j && Nat.ble (j - i).toNat sizeLine) = true then some (rngT i (j - i).toNat) else none
 | _=>none
noncomputable def dListRng (fa:DA):DE:=fun Γ=>(fa Γ).bind fun p=>(rngS p.1).map fun xs=>(.l xs,p.2)
noncomputable def dTupRng (fa:DA):DE:=fun Γ=>(fa Γ).bind fun p=>(rngS p.1).map fun xs=>(.v (.t xs),p.2)
theorem simS_par {ip:Option Nat} {i j:Nat} {ta:TA} {fa:DA} (ha:SimA K ta fa) (hi:ip ≠ some i) (hj:ip ≠ some j):SimS K ip (tPar i j ta) (fun Γ=>(fa Γ).bind fun p=>match p.1 with
  | [.v a,.v b]=>some (.nx ((p.2.set i (some (.v a))).set j (some (.v b))))
  | _=>none):=by
 intro C w Γ σ H D o hp R e k
 obtain ⟨⟨as,G1⟩,e1,e⟩:=bind_some e
 dsimp only at e
 split at e
 ·cases e
  refine ha C w Γ σ H _ G1 _ R e1 fun vs H1 R1 ev1 o1 n1=>?_
  obtain ⟨v,u,rfl,o2,o3⟩:=soks2 o1
  exact ⟨v,u,rfl,k w _ H1 ((R1.setv (g:=.v _) rfl o2 (pins_ne hp hi)).setv (g:=.v _) rfl o3 (pins_ne hp hj))⟩
 ·cases e
noncomputable def dPar2 (i j:Nat) (fa:DA):DS:=fun Γ=>(fa Γ).bind fun p=>match p.1 with
  | [.v a,.v b]=>some (.nx ((p.2.set i (some (.v a))).set j (some (.v b))))
  | _=>none
noncomputable def dPar3 (i j k:Nat) (fa:DA):DS:=fun Γ=>(fa Γ).bind fun p=>match p.1 with
  | [.v a,.v b,.v c]=>some (.nx (((p.2.set i (some (.v a))).set j (some (.v b))).set k (some (.v c))))
  | _=>none
theorem soks3 {C:Fr} {w:W} {σ:St} {H:Hp} {vs:List V} {a b c:S} (h:SOks K C w σ H vs [a,b,c]):∃ v u z,vs = [v,u,z] ∧ SOk K C w σ H v a ∧ SOk K C w σ H u b ∧ SOk K C w σ H z c:=by
 match vs,h with
 | [v,u,z],h=>exact ⟨v,u,z,rfl,h.1,h.2.1,h.2.2.1⟩
theorem simS_par3 {ip:Option Nat} {i j k:Nat} {ta:TA} {fa:DA} (ha:SimA K ta fa) (hi:ip ≠ some i) (hj:ip ≠ some j) (hk:ip ≠ some k):SimS K ip (tPar3 i j k ta) (dPar3 i j k fa):=by
 intro C w Γ σ H D o hp R e kk
 obtain ⟨⟨as,G1⟩,e1,e⟩:=bind_some e
 dsimp only at e
 split at e
 ·cases e
  refine ha C w Γ σ H _ G1 _ R e1 fun vs H1 R1 ev1 o1 n1=>?_
  obtain ⟨v,u,z,rfl,o2,o3,o4⟩:=soks3 o1
  exact ⟨v,u,z,rfl,kk w _ H1 (((R1.setv (g:=.v _) rfl o2 (pins_ne hp hi)).setv (g:=.v _) rfl o3 (pins_ne hp hj)).setv (g:=.v _) rfl o4 (pins_ne hp hk))⟩
 ·cases e
noncomputable def dUnp (tg:En → T → Option En) (f:DE):DS:=fun Γ=>(f Γ).bind fun p=>p.1.tree.bind fun t=>(tg p.2 t).map .nx
end
end D
set_option Elab.async false
set_option linter.all false
set_option maxRecDepth 100000
set_option maxHeartbeats 4000000
namespace D
open PySem L2
noncomputable def toDa:V → Option PyData
 | .int i=>some (.int i)
 | .bl b=>some (.bool b)
 | .str x=>some (.str x)
 | .non=>some .none
 | _=>none
mutual
noncomputable def toD:T → Option PyData
 | .a v=>toDa v
 | .t ts=>(toDs ts).map .tuple
 | .l ts=>(toDs ts).map .list
 | .f _=>none
 | .x _ _=>none
 | .m _ _=>none
noncomputable def toDs:List T → Option (List PyData)
 | []=>some []
 | t :: r=>(toD t).bind fun d=>(toDs r).map fun ds=>d :: ds
end
mutual
theorem reads_of {X:Cx} {pins:List (Addr × Obj)} {σ:St} {H:Hp} {s:Shared} (I:Inv X pins σ H s):∀ {v:V} {u:Value} {t:T} {d:PyData},Im X.K H v t → RelV v u → toD t = some d → ∃ as,Reads s.heap u d as
 | v,u,.a x,d,h,r,e=>by
  have hv:=h.inva
  subst hv
  unfold toD at e
  cases v with
  | int i=>cases e; obtain ⟨t,rfl⟩:=(show ∃ t,u = Value.int i t from r); exact ⟨_,.int i t⟩
  | bl b=>cases e; cases (show u = Value.bool b from r); exact ⟨_,.bool b⟩
  | str x=>cases e; obtain ⟨t,rfl⟩:=(show ∃ t,u = Value.str x t from r); exact ⟨_,.str x t⟩
  | non=>cases e; cases (show u = Value.none from r); exact ⟨_,.none⟩
  | byt _=>cases e
  | flt _=>cases e
  | ref _=>cases e
  | ty _=>cases e
 | v,u,.t ts,d,h,r,e=>by
  obtain ⟨p,vs,rfl,h1,h2⟩:=h.inv
  cases (show u = Value.ref p from r)
  unfold toD at e
  obtain ⟨ds,e1,rfl⟩:=map_some e
  obtain ⟨its,rv,⟨o,ho,hc,n,hd⟩,_⟩:=I.tuple h1.sq
  obtain ⟨as,q⟩:=readsAll_of I h2 rv e1
  exact ⟨as,.tuple ho hc hd (by simpa using q)⟩
 | v,u,.l ts,d,h,r,e=>by
  obtain ⟨p,vs,rfl,h1,h2⟩:=h.invl
  cases (show u = Value.ref p from r)
  unfold toD at e
  obtain ⟨ds,e1,rfl⟩:=map_some e
  obtain ⟨its,rv,pl,_⟩:=I.list h1.sq
  obtain ⟨o,ho,hc,n,hd⟩:=pl.isList
  obtain ⟨as,q⟩:=readsAll_of I h2 rv e1
  exact ⟨_,.list ho hc hd (by simpa using q)⟩
 | v,u,.f _,d,h,r,e=>by unfold toD at e; cases e
 | v,u,.x _ _,d,h,r,e=>by unfold toD at e; cases e
 | v,u,.m _ _,d,h,r,e=>by unfold toD at e; cases e
theorem readsAll_of {X:Cx} {pins:List (Addr × Obj)} {σ:St} {H:Hp} {s:Shared} (I:Inv X pins σ H s):∀ {vs:List V} {us:List Value} {ts:List T} {ds:List PyData},Ims X.K H vs ts → Vals vs us → toDs ts = some ds → ∃ as,ReadsAll s.heap us ds as
 | vs,us,[],ds,h,r,e=>by
  have:=h.inv0
  subst this
  cases r
  unfold toDs at e
  cases e
  exact ⟨_,.nil⟩
 | vs,us,t :: ts,ds,h,r,e=>by
  obtain ⟨v,r',rfl,h1,h2⟩:=h.inv
  unfold toDs at e
  obtain ⟨d,e1,e⟩:=bind_some e
  obtain ⟨ds',e2,rfl⟩:=map_some e
  cases r with
  | cons r1 r2 =>
   obtain ⟨as,q1⟩:=reads_of I h1 r1 e1
   obtain ⟨bs,q2⟩:=readsAll_of I h2 r2 e2
   exact ⟨_,ReadsAll.cons q1 q2⟩
end
noncomputable def DatV (K:Fg) (H:Hp) (x:V) (d:PyData):Prop:=(∃ t,Im K H x t ∧ toD t = some d) ∨ (∃ p vs ts ds,x = .ref p ∧ SqL K H p vs ∧ Ims K H vs ts ∧ toDs ts = some ds ∧ d = .list ds)
theorem datV_reads {X:Cx} {pins:List (Addr × Obj)} {σ:St} {H:Hp} {s:Shared} {x:V} {u:Value} {d:PyData} (I:Inv X pins σ H s) (r:RelV x u) (h:DatV X.K H x d):∃ as,Reads s.heap u d as:=by
 rcases h with ⟨t,h,e⟩ | ⟨p,vs,ts,ds,rfl,h1,h2,e,rfl⟩
 ·exact reads_of I h r e
 ·cases (show u = Value.ref p from r)
  obtain ⟨its,rv,pl,_⟩:=I.list h1
  obtain ⟨o,ho,hc,n,hd⟩:=pl.isList
  obtain ⟨as,q⟩:=readsAll_of I h2 rv e
  exact ⟨_,.list ho hc hd (by simpa using q)⟩
noncomputable def rEqD (K:Fg):R2:=fun x y H Q=>∃ da db,DatV K H x da ∧ DatV K H y db ∧ da.canLay0 = true ∧ db.canLay0 = true ∧ min da.depth db.depth ≤ 100 ∧ Q (.bl (PyData.eqv da db)) H
noncomputable def rNeD (K:Fg):R2:=fun x y H Q=>∃ da db,DatV K H x da ∧ DatV K H y db ∧ da.canLay0 = true ∧ db.canLay0 = true ∧ min da.depth db.depth ≤ 100 ∧ Q (.bl (!PyData.eqv da db)) H
theorem op_eqD {X:Cx} {k:Nat} (hr:Room k X.A):OpR X (compareOp .Eq) (rEqD X.K):=by
 intro pins s σ H x y v u Q I rx ry h
 obtain ⟨da,db,h1,h2,c1,c2,hm,q⟩:=h
 obtain ⟨_,r1⟩:=datV_reads I rx h1
 obtain ⟨_,r2⟩:=datV_reads I ry h2
 exact SeqAt.compareEq_reads r1 r2 c1 c2 (by have:=hr.un; omega) ⟨.bl _,H,I,rfl,q⟩
theorem op_neD {X:Cx} {k:Nat} (hr:Room k X.A):OpR X (compareOp .NotEq) (rNeD X.K):=by
 intro pins s σ H x y v u Q I rx ry h
 obtain ⟨da,db,h1,h2,c1,c2,hm,q⟩:=h
 obtain ⟨_,r1⟩:=datV_reads I rx h1
 obtain ⟨_,r2⟩:=datV_reads I ry h2
 exact SeqAt.compareNe_reads r1 r2 c1 c2 (by have:=hr.un; omega) ⟨.bl _,H,I,rfl,q⟩
noncomputable def datS (Γ:En):S → Option PyData
 | .v t=>toD t
 | a=>(sqlOf Γ a).bind fun xs=>(toDs xs).map .list
theorem dat_ok {K:Fg} {C:Fr} {w:W} {Γ:En} {σ:St} {H:Hp} {x:V} {s:S} {d:PyData} (R:Rep K C w Γ σ H) (o:SOk K C w σ H x s) (e:datS Γ s = some d):DatV K H x d:=by
 have lst:∀ {s:S},SOk K C w σ H x s → (sqlOf Γ s).bind (fun xs=>(toDs xs).map PyData.list) = some d → DatV K H x d:=fun {s} o e=>by
  obtain ⟨xs,e1,e⟩:=bind_some e
  obtain ⟨ds,e2,rfl⟩:=map_some e
  obtain ⟨p,vs,rfl,h1,h2⟩:=sql_ok R o e1
  exact .inr ⟨p,vs,xs,ds,rfl,h1,h2,e2,rfl⟩
 cases s with
 | v t=>exact .inl ⟨t,o,e⟩
 | l xs=>exact lst o e
 | s i=>exact lst o e
 | d _=>cases e
noncomputable def cmpD (f:PyData → PyData → Bool):En → S → S → Option S:=fun Γ a b=>(datS Γ a).bind fun da=>(datS Γ b).bind fun db=>if da.canLay0 = true ∧ db.canLay0 = true ∧ min da.depth db.depth ≤ 100 then some (mkB (f da db)) else none
noncomputable def eqA (f:V → V → Bool):En → S → S → Option S:=fun _ a b=>match a,b with
 | .v (.a x),.v (.a y)=>if scal x y = true then some (mkB (f x y)) else none
 | _,_=>none
theorem simR2_eqA {K:Fg}:SimR2 K rEq (eqA fun x y=>decide (x = y)):=by
 intro C w Γ σ H x y a b s Q R ox oy e k
 unfold eqA at e
 split at e
 ·split at e
  ·rename_i h
   cases e
   rw [ox.inva,oy.inva]
   exact ⟨h,k _ H R .refl SOk.atom trivial⟩
  ·cases e
 ·cases e
theorem simR2_neA {K:Fg}:SimR2 K rNe (eqA fun x y=>!decide (x = y)):=by
 intro C w Γ σ H x y a b s Q R ox oy e k
 unfold eqA at e
 split at e
 ·split at e
  ·rename_i h
   cases e
   rw [ox.inva,oy.inva]
   exact ⟨h,k _ H R .refl SOk.atom trivial⟩
  ·cases e
 ·cases e
noncomputable def eqS:En → S → S → Option S:=fun Γ a b=>(eqA (fun x y=>decide (x = y)) Γ a b).or (cmpD PyData.eqv Γ a b)
noncomputable def neS:En → S → S → Option S:=fun Γ a b=>(eqA (fun x y=>!decide (x = y)) Γ a b).or (cmpD (fun a b=>!PyData.eqv a b) Γ a b)
theorem simR2_eqD {K:Fg}:SimR2 K (rEqD K) (cmpD PyData.eqv):=by
 intro C w Γ σ H x y a b s Q R ox oy e k
 obtain ⟨da,e1,e⟩:=bind_some e
 obtain ⟨db,e2,e⟩:=bind_some e
 split at e
 ·rename_i h
  cases e
  exact ⟨da,db,dat_ok R ox e1,dat_ok R oy e2,h.1,h.2.1,h.2.2,k _ H R .refl SOk.atom trivial⟩
 ·cases e
theorem simR2_neD {K:Fg}:SimR2 K (rNeD K) (cmpD fun a b=>!PyData.eqv a b):=by
 intro C w Γ σ H x y a b s Q R ox oy e k
 obtain ⟨da,e1,e⟩:=bind_some e
 obtain ⟨db,e2,e⟩:=bind_some e
 split at e
 ·rename_i h
  cases e
  exact ⟨da,db,dat_ok R ox e1,dat_ok R oy e2,h.1,h.2.1,h.2.2,k _ H R .refl SOk.atom trivial⟩
 ·cases e
theorem simR2_eq {K:Fg}:SimR2 K (fun x y H Q=>rEq x y H Q ∨ rEqD K x y H Q) eqS:=simR2_eqA.or simR2_eqD
theorem simR2_ne {K:Fg}:SimR2 K (fun x y H Q=>rNe x y H Q ∨ rNeD K x y H Q) neS:=simR2_neA.or simR2_neD
theorem op_eqU {X:Cx} {k:Nat} (hr:Room k X.A):OpR X (compareOp .Eq) (fun x y H Q=>rEq x y H Q ∨ rEqD X.K x y H Q):=op_eq.or (op_eqD hr)
theorem op_neU {X:Cx} {k:Nat} (hr:Room k X.A):OpR X (compareOp .NotEq) (fun x y H Q=>rNe x y H Q ∨ rNeD X.K x y H Q):=op_ne.or (op_neD hr)
noncomputable def reprS:En → List S → Option S:=fun Γ as=>match as with
 | [a]=>(datS Γ a).bind fun d=>if d.showable = true ∧ d.hasDict = false ∧ d.depth ≤ 100 ∧ d.shown.length ≤ sizeLine then some (.v (.a (.str d.shown))) else none
 | _=>none
noncomputable def inS (neg:Bool):En → S → S → Option S:=fun Γ a b=>match a with
 | .v (.a x)=>(seqS Γ b).bind fun xs=>(atomsOf xs).bind fun vs=>if flatV x = true ∧ vs.all flatV = true then some (mkB (if neg then !inV x vs else inV x vs)) else none
 | _=>none
theorem simR2_in {K:Fg} {neg:Bool}:SimR2 K (rIn K neg) (inS neg):=by
 intro C w Γ σ H x y a b s Q R ox oy e k
 unfold inS at e
 split at e
 ·obtain ⟨xs,e1,e⟩:=bind_some e
  obtain ⟨vs,e2,e⟩:=bind_some e
  split at e
  ·rename_i h
   cases e
   obtain ⟨p,us,rfl,h1,i1⟩:=seq_ok R oy e1
   have:=atoms_ok i1 e2
   subst this
   rw [ox.inva]
   exact ⟨p,us,rfl,h1,h.1,h.2,k _ H R .refl SOk.atom trivial⟩
  ·cases e
 ·cases e
noncomputable def truS (Γ:En):S → Option Bool
 | .v (.a .non)=>some false
 | .v (.a (.bl b))=>some b
 | .v (.a (.int i))=>some (i != 0)
 | .v (.a (.str y))=>if y.length ≤ sizeLine then some ((y.length:Int) != 0) else none
 | .v (.t xs)=>some (!xs.isEmpty)
 | .v _=>none
 | a=>(sqlOf Γ a).map fun xs=>!xs.isEmpty
noncomputable def dTru (f:DE):DT:=fun Γ=>(f Γ).bind fun p=>(truS p.2 p.1).map fun b=>(b,p.2)
theorem Ims.isEmpty {K:Fg} {H:Hp} {vs:List V} {ts:List T} (h:Ims K H vs ts):vs.isEmpty = ts.isEmpty:=by
 have:=h.len
 cases vs <;> cases ts <;> simp at this ⊢
theorem sim_tru {K:Fg} {te:TE} {f:DE} (h:SimE K te f):SimT K (fun σ H Q=>te σ H fun x H'=>∃ k,TruV K x H' k ∧ Q k H') (dTru f):=by
 intro C w Γ σ H b Γ' Q R e k
 obtain ⟨⟨a,G1⟩,e1,e⟩:=bind_some e
 obtain ⟨b',e2,e⟩:=map_some e
 cases e
 refine h C w Γ σ H a _ _ R e1 fun v H1 R1 ev1 o1 n1=>⟨b,?_,k H1 R1 ev1⟩
 dsimp only at e2
 unfold truS at e2
 split at e2
 ·cases e2; rw [o1.inva]; exact rfl
 ·cases e2; rw [o1.inva]; exact rfl
 ·cases e2; rw [o1.inva]; exact rfl
 ·split at e2
  ·rename_i hz
   cases e2; rw [o1.inva]; exact ⟨hz,rfl⟩
  ·cases e2
 ·cases e2
  obtain ⟨p,us,rfl,h1,i1⟩:=o1.invt
  exact .inr (.inl ⟨us,h1.sq,by rw [i1.isEmpty]⟩)
 ·cases e2
 ·obtain ⟨xs,e3,e2⟩:=map_some e2
  subst e2
  obtain ⟨p,us,rfl,h1,i1⟩:=sql_ok R1 o1 e3
  exact .inl ⟨us,h1,by rw [i1.isEmpty]⟩
end D
set_option Elab.async false
set_option linter.all false
set_option maxRecDepth 100000
set_option maxHeartbeats 4000000
namespace D
open PySem L2
noncomputable def EX {ι:Type} (K:Fg) (X:ι → Cx) (e:Expr) (f:DE):Prop:=∃ te,(∀ j,PE (X j) e te) ∧ SimE K te f
noncomputable def TX {ι:Type} (K:Fg) (X:ι → Cx) (e:Expr) (f:DT):Prop:=∃ t,(∀ j,PT (X j) e t) ∧ SimT K t f
noncomputable def WX {ι:Type} (K:Fg) (X:ι → Cx) (e:Expr) (f:DT):Prop:=∃ t,(∀ j,PW (X j) e t) ∧ SimT K t f
noncomputable def AX {ι:Type} (K:Fg) (X:ι → Cx) (es:List Expr) (f:DA):Prop:=∃ t,(∀ j,PA (X j) es t) ∧ SimA K t f
noncomputable def OX {ι:Type} (K:Fg) (X:ι → Cx) (e:Option Expr) (f:DO):Prop:=∃ t,(∀ j,PO (X j) e t) ∧ SimO K t f
noncomputable def IX {ι:Type} (K:Fg) (X:ι → Cx) (tg it:Expr) (f:DI):Prop:=∃ t,(∀ j,PI (X j) tg it t) ∧ SimI K t f
noncomputable def GX {ι:Type} (K:Fg) (X:ι → Cx) (ip:Option Nat) (tg:Expr) (f:En → T → Option En):Prop:=∃ t,(∀ j,PG (X j) tg t) ∧ SimG K ip t f
noncomputable def GXs {ι:Type} (K:Fg) (X:ι → Cx) (ip:Option Nat) (tg:List Expr) (f:En → List T → Option En):Prop:=∃ t,(∀ j,PGs (X j) tg t) ∧ SimGs K ip t f
noncomputable def SX {ι:Type} (K:Fg) (X:ι → Cx) (ip:Option Nat) (s:Stmt) (f:DS):Prop:=∃ t,(∀ j,PS (X j) s t) ∧ SimS K ip t f
noncomputable def BX {ι:Type} (K:Fg) (X:ι → Cx) (ip:Option Nat) (s:List Stmt) (f:DS):Prop:=∃ t,(∀ j,PSs (X j) s t) ∧ SimS K ip t f
structure Fm {ι:Type} (K:Fg) (mg:Str → Option Value) (k:Nat) (X:ι → Cx):Prop where
 K:∀ j,(X j).K = K
 mg:∀ j,(X j).mg = mg
 calm:∀ j,(X j).calm = true
 room:∀ j,Room k (X j).A
section
variable {ι:Type} {K:Fg} {mg:Str → Option Value} {k:Nat} {X:ι → Cx} {ip:Option Nat} {a b c e:Expr} {es:List Expr} {pos:Pos} {fa fb fc:DE} {ta tb:DT} {da:DA}
theorem ex_var (i:Nat) {x:Str} (hN:∀ j,(X j).N[i]? = some x:=by intro _; rfl) (hv:∀ j,Vis (X j).env.scope x:=by intro _; first | exact Or.inl rfl | exact Or.inr (Or.inl rfl) | exact Or.inr (Or.inr rfl)) (hd:(x == ("__debug__":Str)) = false:=by decide)
  (hcd:(x == ("__classdict__":Str)) = false:=by decide):EX K X (.Name x pos) (dVar i):=⟨tVar i,fun j=>pe_var (hN j) (hv j) hd hcd,sim_var⟩
theorem ex_int {i:Int} {u}:EX K X (.Constant (.int i) u pos) (dC (.int i)):=⟨_,fun _=>pe_int,sim_c⟩
theorem ex_bl {v:Bool} {u}:EX K X (.Constant (.bool v) u pos) (dC (.bl v)):=⟨_,fun _=>pe_bl,sim_c⟩
theorem ex_str {v:Str} {u}:EX K X (.Constant (.str v) u pos) (dC (.str v)):=⟨_,fun _=>pe_str,sim_c⟩
theorem ex_ty {x:Str} {N:String} (M:Fm K mg k X) (hm:mg x = none) (hv:bootBuiltins x = some (.type N)) (hg:∀ j,Gl (X j) x:=by intro _; rfl) (hn:x ≠ "__name__":=by decide) (hd:(x == ("__debug__":Str)) = false:=by decide):EX K X (.Name x pos) (dC (.ty N)) :=
 ⟨_,fun j=>pe_ty (hg j) (by rw [M.mg]; exact hm) hv hn hd,sim_c⟩
theorem ex_op {op:Operator} {r:R2} {h:En → S → S → Option S} (ho:∀ j,OpR (X j) (binaryOp op) r) (hs:SimR2 K r h) (ha:EX K X a fa) (hb:EX K X b fb):EX K X (.BinOp a op b pos) (dOp h fa fb) :=
 let ⟨_,p,s⟩:=ha; let ⟨_,q,u⟩:=hb; ⟨_,fun j=>pe_op (ho j) (p j) (q j),sim_op hs s u⟩
theorem ex_add (M:Fm K mg k X) (ha:EX K X a fa) (hb:EX K X b fb):EX K X (.BinOp a .Add b pos) (dOp addS fa fb):=ex_op (fun j=>by rw [← M.K j]; exact op_addS) simR2_add ha hb
theorem ex_sub (ha:EX K X a fa) (hb:EX K X b fb):EX K X (.BinOp a .Sub b pos) (dOp subS fa fb):=ex_op (fun j=>op_sub) simR2_rI0 ha hb
theorem ex_mul (ha:EX K X a fa) (hb:EX K X b fb):EX K X (.BinOp a .Mult b pos) (dOp mulS fa fb):=ex_op (fun j=>op_mulS) simR2_mul ha hb
theorem ex_mod (ha:EX K X a fa) (hb:EX K X b fb):EX K X (.BinOp a .Mod b pos) (dOp modS fa fb):=ex_op (fun j=>op_mod) simR2_rI ha hb
theorem ex_fdiv (ha:EX K X a fa) (hb:EX K X b fb):EX K X (.BinOp a .FloorDiv b pos) (dOp fdivS fa fb):=ex_op (fun j=>op_fdiv) simR2_rI ha hb
theorem ex_pow (ha:EX K X a fa) (hb:EX K X b fb):EX K X (.BinOp a .Pow b pos) (dOp powS fa fb):=ex_op (fun j=>op_pow) simR2_rI ha hb
theorem ex_cmp {op:CmpOp} {r:R2} {h:En → S → S → Option S} (ho:∀ j,OpR (X j) (compareOp op) r) (hs:SimR2 K r h) (hm:behindInMarks op b = false) (ha:EX K X a fa) (hb:EX K X b fb):EX K X (.Compare a [op] [b] pos) (dOp h fa fb) :=
 let ⟨_,p,s⟩:=ha; let ⟨_,q,u⟩:=hb; ⟨_,fun j=>pe_cmpR (ho j) (p j) (q j) hm,sim_op hs s u⟩
theorem tx_cmp {op:CmpOp} {r:R2} {h:En → S → S → Option S} (ho:∀ j,OpR (X j) (compareOp op) r) (hs:SimR2 K r h) (hm:behindInMarks op b = false) (ha:EX K X a fa) (hb:EX K X b fb):TX K X (.Compare a [op] [b] pos) (dTest (dOp h fa fb)) :=
 let ⟨_,p,s⟩:=ha; let ⟨_,q,u⟩:=hb; ⟨_,fun j=>pt_cmpR (ho j) (p j) (q j) hm,sim_test (sim_op hs s u)⟩
structure CmpR {ι:Type} (K:Fg) (X:ι → Cx) (op:CmpOp) (h:En → S → S → Option S):Prop where
 ex:∃ r,(∀ j,OpR (X j) (compareOp op) r) ∧ SimR2 K r h
theorem cr_lt:CmpR K X .Lt ltS:=⟨_,fun _=>op_lt,simR2_rI0⟩
theorem cr_gt:CmpR K X .Gt gtS:=⟨_,fun _=>op_gt,simR2_rI0⟩
theorem cr_ge:CmpR K X .GtE geS:=⟨_,fun _=>op_ge,simR2_rI0⟩
theorem cr_eq (M:Fm K mg k X):CmpR K X .Eq eqS:=⟨_,fun j=>by have:=op_eqU (M.room j); rw [M.K j] at this; exact this,simR2_eq⟩
theorem cr_ne (M:Fm K mg k X):CmpR K X .NotEq neS:=⟨_,fun j=>by have:=op_neU (M.room j); rw [M.K j] at this; exact this,simR2_ne⟩
theorem cr_in (M:Fm K mg k X):CmpR K X .In (inS false):=⟨_,fun j=>by have:=op_in_seq (X:=X j); rw [M.K j] at this; exact this,simR2_in⟩
theorem ex_c {op:CmpOp} {h:En → S → S → Option S} (hc:CmpR K X op h) (ha:EX K X a fa) (hb:EX K X b fb) (hm:behindInMarks op b = false:=by first | exact nomark _ | with_unfolding_all rfl):EX K X (.Compare a [op] [b] pos) (dOp h fa fb) :=
 let ⟨_,p,q⟩:=hc.ex; ex_cmp p q hm ha hb
theorem tx_c {op:CmpOp} {h:En → S → S → Option S} (hc:CmpR K X op h) (ha:EX K X a fa) (hb:EX K X b fb) (hm:behindInMarks op b = false:=by first | exact nomark _ | with_unfolding_all rfl):TX K X (.Compare a [op] [b] pos) (dTest (dOp h fa fb)) :=
 let ⟨_,p,q⟩:=hc.ex; tx_cmp p q hm ha hb
theorem tx_v (M:Fm K mg k X) (ha:EX K X a fa) (he:∀ j whole,isTrue a (X j).env whole = (do let v ← whole; standAt a.pos; holding [v] (truthy v)):=by intro _ _; rfl):TX K X a (dTru fa) :=
 let ⟨te,p,s⟩:=ha; ⟨(fun σ H Q=>te σ H fun x H'=>∃ k,TruV K x H' k ∧ Q k H'),fun j=>by have:=pt_truth (p j) (he j); rw [M.K j] at this; exact this,sim_tru s⟩
theorem tx_not (ha:TX K X a ta):TX K X (.UnaryOp .Not a pos) (dNot ta):=let ⟨_,p,s⟩:=ha; ⟨_,fun j=>pt_not (p j),sim_not s⟩
theorem wx_and1 (ha:TX K X a ta):WX K X (.BoolOp .And [a] pos) ta:=let ⟨_,p,s⟩:=ha; ⟨_,fun j=>pw_and1 (p j),s⟩
theorem wx_or1 (ha:TX K X a ta):WX K X (.BoolOp .Or [a] pos) ta:=let ⟨_,p,s⟩:=ha; ⟨_,fun j=>pw_or1 (p j),s⟩
theorem wx_and (ha:TX K X a ta) (hb:WX K X (.BoolOp .And (b :: es) pos) tb):WX K X (.BoolOp .And (a :: b :: es) pos) (dAnd ta tb):=let ⟨_,p,s⟩:=ha; let ⟨_,q,u⟩:=hb; ⟨_,fun j=>pw_and (p j) (q j),sim_and s u⟩
theorem wx_or (ha:TX K X a ta) (hb:WX K X (.BoolOp .Or (b :: es) pos) tb):WX K X (.BoolOp .Or (a :: b :: es) pos) (dOr ta tb):=let ⟨_,p,s⟩:=ha; let ⟨_,q,u⟩:=hb; ⟨_,fun j=>pw_or (p j) (q j),sim_or s u⟩
theorem tx_w (ha:WX K X a ta):TX K X a ta:=let ⟨_,p,s⟩:=ha; ⟨_,fun j=>(p j).pt,s⟩
theorem ex_one {op} (ha:EX K X a fa):EX K X (.BoolOp op [a] pos) fa:=let ⟨_,p,s⟩:=ha; ⟨_,fun j=>pe_one (p j),s⟩
theorem ex_and (ha:EX K X a fa) (hb:EX K X (.BoolOp .And (b :: es) pos) fb):EX K X (.BoolOp .And (a :: b :: es) pos) (dAndV fa fb):=let ⟨_,p,s⟩:=ha; let ⟨_,q,u⟩:=hb; ⟨_,fun j=>pe_and (p j) (q j),sim_andV s u⟩
theorem ex_or (ha:EX K X a fa) (hb:EX K X (.BoolOp .Or (b :: es) pos) fb):EX K X (.BoolOp .Or (a :: b :: es) pos) (dOrV fa fb):=let ⟨_,p,s⟩:=ha; let ⟨_,q,u⟩:=hb; ⟨_,fun j=>pe_or (p j) (q j),sim_orV s u⟩
theorem ex_not (ha:EX K X a fa):EX K X (.UnaryOp .Not a pos) (dNotV fa):=let ⟨_,p,s⟩:=ha; ⟨_,fun j=>pe_not (p j),sim_notV s⟩
theorem ex_if (hc:TX K X c ta) (ha:EX K X a fa) (hb:EX K X b fb):EX K X (.IfExp c a b pos) (dIfE ta fa fb):=let ⟨_,p,s⟩:=hc; let ⟨_,q,u⟩:=ha; let ⟨_,q',u'⟩:=hb; ⟨_,fun j=>pe_ifExp (p j) (q j) (q' j),sim_ifE s u u'⟩
theorem ax_nil:AX K X [] dNil:=⟨_,fun _=>pa_nil,sim_nil⟩
theorem ax_cons {fr:DA} (ha:EX K X e fa) (hr:AX K X es fr) (hs:∀ j,starEach (e :: es) (X j).env = (false,eval e (X j).env) :: starEach es (X j).env:=by intro _; rfl):AX K X (e :: es) (dCons fa fr) :=
 let ⟨_,p,s⟩:=ha; let ⟨_,q,u⟩:=hr; ⟨_,fun j=>pa_cons (p j) (q j) (hs j),sim_cons s u⟩
theorem ex_tup {x1} (h:AX K X es da):EX K X (.Tuple es x1 pos) (dTup da):=let ⟨_,p,s⟩:=h; ⟨_,fun j=>pe_tup (p j),sim_tup s⟩
theorem ex_lst (h:AX K X es da):EX K X (.List es pos) (dLst da):=let ⟨_,p,s⟩:=h; ⟨_,fun j=>pe_lst (p j),sim_lst s⟩
theorem ex_ix (M:Fm K mg k X) (ha:EX K X a fa) (hb:EX K X b fb) (hs:PlainIx b:=by exact fun _ _=>rfl):EX K X (.Subscript a b pos) (dOp ixS fa fb) :=
 let ⟨_,p,s⟩:=ha; let ⟨_,q,u⟩:=hb; ⟨_,fun j=>pe_ix (by have:=ix_seq (X:=X j); rw [M.K j] at this; exact this) (p j) (q j) hs,sim_op simR2_ix s u⟩
theorem ox_none:OX K X none dNoPart:=⟨_,fun _=>po_none,sim_noPart⟩
theorem ox_some (ha:EX K X a fa):OX K X (some a) (dPart fa):=let ⟨_,p,s⟩:=ha; ⟨_,fun j=>po_some (p j),sim_part s⟩
theorem ex_sl (M:Fm K mg k X) {lo hi:Option Expr} {p2:Pos} {dl dh:DO} (ha:EX K X a fa) (hl:OX K X lo dl) (hh:OX K X hi dh):EX K X (.Subscript a (.Slice lo hi none p2) pos) (dSl fa dl dh) :=
 let ⟨_,p,s⟩:=ha; let ⟨_,q,u⟩:=hl; let ⟨_,q',u'⟩:=hh; ⟨_,fun j=>pe_slice (by have:=sl_S (X:=X j); rw [M.K j] at this; exact this) (p j) (q j) (q' j),sim_sl s u u'⟩
structure CalR {ι:Type} (K:Fg) (X:ι → Cx) (f:Value) (h:En → List S → Option S):Prop where
 ex:∃ r,(∀ j,CallR (X j) f r) ∧ SimRs K r h
theorem ex_cb {x:Str} {p:Pos} {id:String} {h:En → List S → Option S} (M:Fm K mg k X) (hc:CalR K X (.builtin id) h) (hm:mg x = none) (hv:bootBuiltins x = some (.builtin id)) (ha:AX K X (e :: es) da) (hg:∀ j,Gl (X j) x:=by intro _; rfl) (hn:x ≠ "__name__":=by decide) (hdb:(x == ("__debug__":Str)) = false:=by decide)
  (he:∀ j,starEach (e :: es) (X j).env = (false,eval e (X j).env) :: starEach es (X j).env:=by intro _; rfl) (hpl:∀ j,(backTo pos (starEach es (X j).env)).any (·.1) = false:=by intro _; rfl):EX K X (.Call (.Name x p) (e :: es) [] pos) (dCB h da) :=
 let ⟨_,p,s⟩:=hc.ex; let ⟨_,q,u⟩:=ha; ⟨_,fun j=>pe_callB (p j) (hg j) (by rw [M.mg]; exact hm) hv (q j) hn hdb (he j) (hpl j),sim_cb s u⟩
theorem ex_ct {x:Str} {p:Pos} {N:String} {h:En → List S → Option S} (M:Fm K mg k X) (hc:CalR K X (.type N) h) (hm:mg x = none) (hv:bootBuiltins x = some (.type N)) (ha:AX K X (e :: es) da) (hg:∀ j,Gl (X j) x:=by intro _; rfl) (hn:x ≠ "__name__":=by decide) (hdb:(x == ("__debug__":Str)) = false:=by decide)
  (he:∀ j,starEach (e :: es) (X j).env = (false,eval e (X j).env) :: starEach es (X j).env:=by intro _; rfl) (hpl:∀ j,(backTo pos (starEach es (X j).env)).any (·.1) = false:=by intro _; rfl):EX K X (.Call (.Name x p) (e :: es) [] pos) (dCB h da) :=
 let ⟨_,p,s⟩:=hc.ex; let ⟨_,q,u⟩:=ha; ⟨_,fun j=>pe_callTy (p j) (hg j) (by rw [M.mg]; exact hm) hv (q j) hn hdb (he j) (hpl j),sim_cb s u⟩
theorem br_len (M:Fm K mg k X):CalR K X (.builtin "len") lenS:=⟨_,fun j=>by have:=call_lenS (X:=X j); rw [M.K j] at this; exact this,simRs_len⟩
theorem br_all (M:Fm K mg k X):CalR K X (.builtin "all") allS:=⟨_,fun j=>by have:=call_all (M.calm j); rw [M.K j] at this; exact this,simRs_all⟩
theorem br_isi (M:Fm K mg k X):CalR K X (.builtin "isinstance") isiS:=⟨_,fun j=>by have:=call_isiS (X:=X j); rw [M.K j] at this; exact this,simRs_isi⟩
theorem br_max2 (M:Fm K mg k X):CalR K X (.builtin "max") max2S:=⟨_,fun j=>call_max2 (M.calm j),simRs_max2⟩
theorem tr_int:CalR K X (.type "int") intS:=⟨_,fun j=>call_int1,simRs_int⟩
theorem tr_tuple (M:Fm K mg k X):CalR K X (.type "tuple") tupleS:=⟨_,fun j=>by have:=call_tuple_of (X:=X j); rw [M.K j] at this; exact this,simRs_tuple⟩
end
end D
set_option Elab.async false
set_option linter.all false
set_option maxRecDepth 100000
set_option maxHeartbeats 4000000
namespace D
open PySem L2
structure Fb {ι:Type} (P:Program) (wd:World) (base:Heap) (X:ι → Cx):Prop where
 P:∀ j,(X j).prog = P
 w:∀ j,(X j).w = wd
 b:∀ j,(X j).base = base
structure FD (P:Program) (wd:World) (K:Fg) (mg:Str → Option Value) (base:Heap) (k:Nat) (x:Str) (ip:Option Nat) (n:Nat) (F:DF):Prop where
 ex:∃ (f:Addr) (fd:FuncData) (ps:List Str),FnOk P wd K mg base CX0 k f fd ps (spD K ip n F) ∧ mg x = some (.ref f) ∧ PySem.W.keepIn K (.ref f) = true ∧ Binds K fd ps []
 len:∀ gs r,F gs = some r → gs.length = n
theorem fnD_len {ip:Option Nat} {np nN:Nat} {g:DS}:∀ gs r,fnD ip np nN g gs = some r → gs.length = np:=fun gs r e=>by
 unfold fnD at e
 split at e
 ·assumption
 ·cases e
section
variable {ι:Type} {P:Program} {wd:World} {base:Heap} {K:Fg} {mg:Str → Option Value} {k k' n:Nat} {X:ι → Cx} {ip:Option Nat} {a b c e:Expr} {es:List Expr} {pos p:Pos} {fa fb fc:DE} {ta tb:DT} {da:DA} {F:DF} {x:Str}
theorem ex_call (M:Fm K mg k X) (B:Fb P wd base X) (D0:FD P wd K mg base k' x ip n F) (ha:AX K X (e :: es) da) (hk:k' ≤ k:=by first | exact Nat.le_refl _ | decide | omega) (hg:∀ j,Gl (X j) x:=by intro _; rfl) (hdb:(x == ("__debug__":Str)) = false:=by decide)
  (he:∀ j,starEach (e :: es) (X j).env = (false,eval e (X j).env) :: starEach es (X j).env:=by intro _; rfl) (hpl:∀ j,(backTo pos (starEach es (X j).env)).any (·.1) = false:=by intro _; rfl) :
  EX K X (.Call (.Name x p) (e :: es) [] pos) (dCall ip F [] da):=by
 obtain ⟨f,fd,ps,h1,h2,h3,h4⟩:=D0.ex
 obtain ⟨t,q,u⟩:=ha
 refine ⟨tCall (spD K ip n F) [] E0 t,fun j=>?_,sim_call D0.len u⟩
 have hF:FnOk (X j).prog (X j).w (X j).K (X j).mg (X j).base CX0 k' f fd ps (spD K ip n F):=by rw [B.P,B.w,M.K,M.mg,B.b]; exact h1
 exact pe_call hF ((M.room j).mono hk) (hg j) (by rw [M.mg]; exact h2) (by rw [M.K]; exact h3) (by rw [M.K]; exact h4) .nil pass0 (q j) hdb (he j) (hpl j)
theorem ix_seq' {tg l:Expr} (M:Fm K mg k X) (hl:EX K X l fa):IX K X tg l (dSeqI fa):=let ⟨t,p,s⟩:=hl; ⟨iSeq K t,fun j=>by have:=pi_seqU (tg:=tg) (p j); rw [M.K j] at this; exact this,simI_seq s⟩
theorem ix_rng1 {tg:Expr} (M:Fm K mg k X) (hm:mg "range" = none) (ha:AX K X [a] da) (hg:∀ j,Gl (X j) "range":=by intro _; rfl) (hs:∀ j,starEach [a] (X j).env = [(false,eval a (X j).env)]:=by intro _; rfl):IX K X tg (.Call (.Name "range" p) [a] [] pos) (dRng1 da) :=
 let ⟨_,q,u⟩:=ha; ⟨_,fun j=>pi_range1 (hg j) (by rw [M.mg]; exact hm) (q j) (hs j),simI_rng1 u⟩
theorem ix_rng2 {tg:Expr} (M:Fm K mg k X) (hm:mg "range" = none) (ha:AX K X [a,b] da) (hg:∀ j,Gl (X j) "range":=by intro _; rfl) (hs:∀ j,starEach [a,b] (X j).env = [(false,eval a (X j).env),(false,eval b (X j).env)]:=by intro _; rfl)
  (hs2:∀ j,starEach [b] (X j).env = [(false,eval b (X j).env)]:=by intro _; rfl):IX K X tg (.Call (.Name "range" p) [a,b] [] pos) (dRng2 da) :=
 let ⟨_,q,u⟩:=ha; ⟨_,fun j=>pi_range2 (hg j) (by rw [M.mg]; exact hm) (q j) (hs j) (hs2 j),simI_rng2 u⟩
theorem gx_name (i:Nat) (hi:ip ≠ some i:=by decide) (hN:∀ j,(X j).N.Nodup:=by intro _; show (List.Nodup _); decide +kernel) (hx':∀ j,(X j).N[i]? = some x:=by intro _; rfl) (hx:∀ j,Loc (X j).env.scope x:=by intro _; first | exact Or.inl rfl | exact Or.inr rfl)
  (hf:∀ j,(X j).fn x = true ∨ (X j).env.scope.names.lookup x = some .local:=by intro _; first | exact .inl rfl | exact .inr rfl):GX K X ip (.Name x pos) (gdName i):=⟨_,fun j=>pg_name (hN j) (hx' j) (hx j) (hf j),simG_name hi⟩
theorem gxs_cons {f:En → T → Option En} {g:En → List T → Option En} (h1:GX K X ip e f) (h2:GXs K X ip es g) (hst:∀ j,(assignEach (e :: es) (X j).env).map (·.2) = assign e (X j).env :: (assignEach es (X j).env).map (·.2):=by intro _; rfl):GXs K X ip (e :: es) (gdCons f g) :=
 let ⟨_,p,s⟩:=h1; let ⟨_,q,u⟩:=h2; ⟨_,fun j=>pgs_cons (p j) (q j) (hst j),simGs_cons s u⟩
noncomputable def QX {ι:Type} (K:Fg) (X:ι → Cx) (ifs:List Expr) (f:DT):Prop:=∃ t,(∀ j,PTs (X j) ifs t) ∧ SimT K t f
noncomputable def dYes:DT:=fun Γ=>some (true,Γ)
theorem qx_nil:QX K X [] dYes:=⟨_,fun _=>pts_nil,fun C w Γ σ H b Γ' Q R e k=>by cases e; exact k H R .refl⟩
theorem qx_one (h:TX K X c ta):QX K X [c] ta:=let ⟨_,p,s⟩:=h; ⟨_,fun j=>pts_one (p j),s⟩
noncomputable abbrev CI (ι:Type):=ι × Addr × List (Str × Addr) × Shared × Hp × List Addr
noncomputable abbrev cxF {ι:Type} (X:ι → Cx) (N':List Str) (sc:Scope):CI ι → Cx:=fun q=>cxC (X q.1) N' sc q.2.1 q.2.2.1 q.2.2.2.1 q.2.2.2.2.1 q.2.2.2.2.2
theorem Fm.comp {N':List Str} {sc:Scope} (M:Fm K mg k X):Fm K mg k (cxF X N' sc):=⟨fun j=>M.K j.1,fun j=>M.mg j.1,fun j=>M.calm j.1,fun j=>M.room j.1⟩
theorem Fb.comp {N':List Str} {sc:Scope} (B:Fb P wd base X):Fb P wd base (cxF X N' sc):=⟨fun j=>B.P j.1,fun j=>B.w j.1,fun j=>B.b j.1⟩
theorem ex_comp {N':List Str} {ix:List (Option Nat)} {sc:Scope} {elt tg iter:Expr} {ifs:List Expr} {di:DI} {g:En → T → Option En} {dc:DT} {de:DE} (mu:Option (Nat × Nat)) (M:Fm K mg k X) (S:∀ j,CompOk (X j) N' ix sc) (hi:IX K X tg iter di)
  (hg:GX K (cxF X N' sc) (mu.map (·.1)) tg g) (ht:QX K (cxF X N' sc) ifs dc) (he:EX K (cxF X N' sc) elt de)
  (hmu:∀ j i,mu = some (j,i) → ix[j]? = some (some i):=by intro _ _ e; first | (cases e; rfl) | cases e) (hix:∀ (j j' i:Nat),mu.map (·.2) = some i → ix[j]? = some (some i) → ix[j']? = some (some i) → j = j')
  (hs:∀ j x,foldedSetIterable iter (X j).env x = pure x:=by intro _ _; rfl):EX K X (.ListComp elt [⟨tg,iter,ifs,0⟩] sc pos) (dComp mu ix di g dc de) :=
 let ⟨_,p1,s1⟩:=hi; let ⟨_,p2,s2⟩:=hg; let ⟨_,p3,s3⟩:=ht; let ⟨_,p4,s4⟩:=he
 ⟨_,fun j=>pe_comp (S j) (M.calm j) (p1 j) (fun C cs s H ex=>p2 (j,C,cs,s,H,ex)) (fun C cs s H ex=>p3 (j,C,cs,s,H,ex)) (fun C cs s H ex=>p4 (j,C,cs,s,H,ex)) (hs j),sim_comp s1 s2 s3 s4 hmu hix⟩
theorem hix0 {ix:List (Option Nat)}:∀ (j j' i:Nat),(none:Option (Nat × Nat)).map (·.2) = some i → ix[j]? = some (some i) → ix[j']? = some (some i) → j = j':=fun _ _ _ e=>by cases e
noncomputable def onceIx (ix:List (Option Nat)) (j i:Nat):Bool:=(List.range ix.length).all fun m=>decide (ix[m]? = some (some i) → m = j)
theorem hix1 {ix:List (Option Nat)} {j0 i0:Nat} (h:onceIx ix j0 i0 = true):∀ (j j' i:Nat),(some (j0,i0)).map (·.2) = some i → ix[j]? = some (some i) → ix[j']? = some (some i) → j = j':=by
 intro j j' i e h1 h2
 cases e
 have key:∀ m:Nat,ix[m]? = some (some i0) → m = j0:=fun m hm=>by
  have hl:=(List.getElem?_eq_some_iff.mp hm).1
  have:=List.all_eq_true.mp h m (by simpa using hl)
  exact (of_decide_eq_true this) hm
 rw [key j h1,key j' h2]
theorem ex_mut {i:Nat} {name:Str} {apos cpos:Pos} {id:String} {r:V → List V → Hp → VK → Prop} {h:En → List T → List S → Option (T × List T)} {y:Str} {yp:Pos} (M:Fm K mg k X) (slot:Slot "list" name id) (hty:typeOf (.builtin id) = pure (.type "method_descriptor")) (hm:∀ j,MtM (X j) id r) (hr:SimMut K r h)
  (ho:∀ j,PE (X j) (.Name y yp) (tVar i)) (ha:AX K X (e :: es) da)
  (hbase:∀ j,attributeBase (.Name y yp) name (X j).env (eval (.Name y yp) (X j).env) = eval (.Name y yp) (X j).env:=by intro _; rfl)
  (hfew:∀ j,((backTo cpos (starEach (e :: es) (X j).env)).all (fun x=>!x.1) && (backToKw cpos (keywordEach [] (X j).env)).all (fun x=>x.1.isSome) && decide ((e :: es).length + ([]:List Keyword).length + (if ([]:List Keyword).isEmpty then 0 else 1) < 30)) = true:=by intro _; rfl)
  (hline:(apos.endLine == cpos.line) = true:=by rfl) (hs:∀ j,starEach (e :: es) (X j).env = (false,eval e (X j).env) :: starEach es (X j).env:=by intro _; rfl) (hplain:∀ j,(backTo cpos (starEach es (X j).env)).any (·.1) = false:=by intro _; rfl) :
  EX K X (.Call (.Attribute (.Name y yp) name apos) (e :: es) [] cpos) (dMut i h da) :=
 let ⟨t,q,u⟩:=ha; ⟨tBM K "list" r (tVar i) t,fun j=>by have:=pe_bm PySem.F.plainAttrs_list slot hty (hm j) (ho j) (q j) (hbase j) (hfew j) hline (hs j) (hplain j); rw [M.K j] at this; exact this,sim_mut hr u⟩
theorem ex_mut0 {i:Nat} {name:Str} {apos cpos:Pos} {id:String} {r:V → List V → Hp → VK → Prop} {h:En → List T → List S → Option (T × List T)} {y:Str} {yp:Pos} (M:Fm K mg k X) (slot:Slot "list" name id) (hty:typeOf (.builtin id) = pure (.type "method_descriptor")) (hm:∀ j,MtM (X j) id r) (hr:SimMut K r h)
  (ho:∀ j,PE (X j) (.Name y yp) (tVar i)) (hbase:∀ j,attributeBase (.Name y yp) name (X j).env (eval (.Name y yp) (X j).env) = eval (.Name y yp) (X j).env:=by intro _; rfl) (hline:(apos.endLine == cpos.line) = true:=by rfl) :
  EX K X (.Call (.Attribute (.Name y yp) name apos) [] [] cpos) (dMut i h dNil) :=
 ⟨tBM0 K "list" r (tVar i),fun j=>by have:=pe_bm0 PySem.F.plainAttrs_list slot hty (hm j) (ho j) (hbase j) hline; rw [M.K j] at this; exact this,sim_mut0 hr⟩
theorem pv' (i:Nat) {x:Str} {pos:Pos} (hN:∀ j,(X j).N[i]? = some x:=by intro _; rfl) (hv:∀ j,Vis (X j).env.scope x:=by intro _; first | exact Or.inl rfl | exact Or.inr (Or.inl rfl) | exact Or.inr (Or.inr rfl)) (hd:(x == ("__debug__":Str)) = false:=by decide)
  (hcd:(x == ("__classdict__":Str)) = false:=by decide):∀ j,PE (X j) (.Name x pos) (tVar i):=fun j=>pe_var (hN j) (hv j) hd hcd
variable {st:Stmt} {sts sts':List Stmt} {f g:DS}
theorem bx_nil:BX K X ip [] dNext:=⟨_,fun _=>pss_nil,simS_next⟩
theorem bx_one (h:SX K X ip st f):BX K X ip [st] f:=let ⟨_,p,s⟩:=h; ⟨_,fun j=>pss_one (p j),s⟩
theorem bx_cons (h:SX K X ip st f) (h2:BX K X ip sts g):BX K X ip (st :: sts) (dSeq f g):=let ⟨_,p,s⟩:=h; let ⟨_,q,u⟩:=h2; ⟨_,fun j=>pss_cons (p j) (q j),simS_seq s u⟩
theorem sx_expr (h:EX K X e fa) (hs:∀ j,swapsWith e none pos.line (X j).env = pure false:=by intro _; rfl):SX K X ip (.Expr e pos) (dDrop fa):=let ⟨_,p,s⟩:=h; ⟨_,fun j=>ps_expr (p j) (hs j),simS_drop s⟩
theorem sx_ret (h:EX K X e fa):SX K X ip (.Return (some e) pos) (dRet fa):=let ⟨_,p,s⟩:=h; ⟨_,fun j=>ps_ret (p j),simS_ret s⟩
theorem sx_if (hc:TX K X c ta) (h1:BX K X ip sts f) (h2:BX K X ip sts' g):SX K X ip (.If c sts sts' pos) (dIf ta f g):=let ⟨_,p,s⟩:=hc; let ⟨_,q,u⟩:=h1; let ⟨_,q',u'⟩:=h2; ⟨_,fun j=>ps_if (p j) (q j) (q' j),simS_if s u u'⟩
theorem sx_set (i:Nat) {pos':Pos} (h:EX K X e fa) (hi:ip ≠ some i:=by decide) (hN:∀ j,(X j).N.Nodup:=by intro _; show (List.Nodup _); decide +kernel) (hx':∀ j,(X j).N[i]? = some x:=by intro _; rfl) (hx:∀ j,Loc (X j).env.scope x:=by intro _; first | exact Or.inl rfl | exact Or.inr rfl)
  (hs:∀ j,swapsWith e (some (.Name x pos')) pos.line (X j).env = pure false:=by intro _; rfl) (hf:∀ j,(X j).fn x = true ∨ (X j).env.scope.names.lookup x = some .local:=by intro _; first | exact .inl rfl | exact .inr rfl):SX K X ip (.Assign [.Name x pos'] e pos) (dSet i fa) :=
 let ⟨_,p,s⟩:=h; ⟨_,fun j=>ps_set (hN j) (hx' j) (hx j) (p j) (hs j) (hf j),simS_set s hi⟩
theorem sx_setC {N':List Str} {ix:List (Option Nat)} {sc:Scope} {elt tg iter:Expr} {ifs:List Expr} {di:DI} {gg:En → T → Option En} {dc:DT} {de:DE} {pos' spos:Pos} (i:Nat) (mu:Option (Nat × Nat)) (M:Fm K mg k X) (S:∀ j,CompOk (X j) N' ix sc) (h1:IX K X tg iter di)
  (hg:GX K (cxF X N' sc) (mu.map (·.1)) tg gg) (ht:QX K (cxF X N' sc) ifs dc) (he:EX K (cxF X N' sc) elt de)
  (hix:∀ (j j' i:Nat),mu.map (·.2) = some i → ix[j]? = some (some i) → ix[j']? = some (some i) → j = j') (hi:ip ≠ some i:=by decide) (hmu:∀ j i,mu = some (j,i) → ix[j]? = some (some i):=by intro _ _ e; first | (cases e; rfl) | cases e)
  (hN:∀ j,(X j).N.Nodup:=by intro _; show (List.Nodup _); decide +kernel) (hx':∀ j,(X j).N[i]? = some x:=by intro _; rfl) (hx:∀ j,Loc (X j).env.scope x:=by intro _; first | exact Or.inl rfl | exact Or.inr rfl)
  (hsw:∀ j,swapsWith (.ListComp elt [⟨tg,iter,ifs,0⟩] sc pos) (some (.Name x pos')) spos.line (X j).env = pure true:=by intro _; rfl)
  (hf:∀ j,(X j).fn x = true ∨ (X j).env.scope.names.lookup x = some .local:=by intro _; first | exact .inl rfl | exact .inr rfl)
  (hs:∀ j x,foldedSetIterable iter (X j).env x = pure x:=by intro _ _; rfl):SX K X ip (.Assign [.Name x pos'] (.ListComp elt [⟨tg,iter,ifs,0⟩] sc pos) spos) (dSet i (dComp mu ix di gg dc de)) :=
 let ⟨_,p1,s1⟩:=h1; let ⟨_,p2,s2⟩:=hg; let ⟨_,p3,s3⟩:=ht; let ⟨_,p4,s4⟩:=he
 ⟨_,fun j=>ps_setC (hN j) (hx' j) (hx j) (S j) (M.calm j) (p1 j) (fun C cs s H ex=>p2 (j,C,cs,s,H,ex)) (fun C cs s H ex=>p3 (j,C,cs,s,H,ex)) (fun C cs s H ex=>p4 (j,C,cs,s,H,ex)) (hsw j) (hf j) (hs j),simS_set (sim_comp s1 s2 s3 s4 hmu hix) hi⟩
theorem sx_setIx (i:Nat) {y:Str} {yp p2:Pos} (he:EX K X e fa) (ho:∀ j,PE (X j) (.Name y yp) (tVar i)) (hb:EX K X b fb) (hs:∀ j,swapsWithSole [.Subscript (.Name y yp) b p2] e pos.line (X j).env = pure false:=by intro _; rfl) (hw:∀ j,swappedStores [.Subscript (.Name y yp) b p2] e (X j).env = pure none:=by intro _; rfl)
  (hA:∀ j v,assign (.Subscript (.Name y yp) b p2) (X j).env v = (do let ov ← holding [v] (eval (.Name y yp) (X j).env); let iv ← holding [v,ov] (eval b (X j).env); standAt p2; holding [v,ov,iv] (setItem ov iv v); release [v,ov,iv] []):=by intro _ _; rfl) (h1:∀ j,(assignEach [.Subscript (.Name y yp) b p2] (X j).env).map (·.2) = [assign (.Subscript (.Name y yp) b p2) (X j).env]:=by intro _; rfl) :
  SX K X ip (.Assign [.Subscript (.Name y yp) b p2] e pos) (dSetIx i fa fb) :=
 let ⟨_,p,s⟩:=he; let ⟨_,q,u⟩:=hb; ⟨_,fun j=>ps_asg (p j) (pg_sub (ho j) (q j) set_list (hA j)) (hs j) (hw j) (h1 j),simS_setIx s u⟩
theorem sx_par (i1 i2:Nat) {x1 x2:Str} {px py pt:Pos} {kt k2 pt2} (M:Fm K mg k X) (ha:AX K X [a,b] da) (h12:i1 ≠ i2:=by decide) (hi1:ip ≠ some i1:=by decide) (hi2:ip ≠ some i2:=by decide) (hN:∀ j,(X j).N.Nodup:=by intro _; show (List.Nodup _); decide +kernel)
  (e1:∀ j,(X j).N[i1]? = some x1:=by intro _; rfl) (e2:∀ j,(X j).N[i2]? = some x2:=by intro _; rfl) (l1:∀ j,(X j).env.scope.names.lookup x1 = some .local:=by intro _; rfl) (l2:∀ j,(X j).env.scope.names.lookup x2 = some .local:=by intro _; rfl)
  (hw:∀ j,swappedStores [.Tuple [.Name x1 px,.Name x2 py] kt pt] (.Tuple [a,b] k2 pt2) (X j).env = pure (some [x1,x2]):=by intro _; rfl)
  (hs:∀ j,swapsWithSole [.Tuple [.Name x1 px,.Name x2 py] kt pt] (.Tuple [a,b] k2 pt2) pos.line (X j).env = pure false:=by intro _; rfl) :
  SX K X ip (.Assign [.Tuple [.Name x1 px,.Name x2 py] kt pt] (.Tuple [a,b] k2 pt2) pos) (dPar2 i1 i2 da) :=
 let ⟨_,q,u⟩:=ha; ⟨_,fun j=>ps_par (M.calm j) (hN j) (e1 j) (e2 j) h12 (l1 j) (l2 j) (q j) (hw j) (hs j),simS_par u hi1 hi2⟩
theorem sx_par3 (i1 i2 i3:Nat) {x1 x2 x3:Str} {px py pz pt:Pos} {kt k2 pt2} (M:Fm K mg k X) (ha:AX K X [a,b,c] da) (h12:i1 ≠ i2:=by decide) (h13:i1 ≠ i3:=by decide) (h23:i2 ≠ i3:=by decide) (hi1:ip ≠ some i1:=by decide) (hi2:ip ≠ some i2:=by decide) (hi3:ip ≠ some i3:=by decide) (hN:∀ j,(X j).N.Nodup:=by intro _; show (List.Nodup _); decide +kernel)
  (e1:∀ j,(X j).N[i1]? = some x1:=by intro _; rfl) (e2:∀ j,(X j).N[i2]? = some x2:=by intro _; rfl) (e3:∀ j,(X j).N[i3]? = some x3:=by intro _; rfl) (l1:∀ j,(X j).env.scope.names.lookup x1 = some .local:=by intro _; rfl) (l2:∀ j,(X j).env.scope.names.lookup x2 = some .local:=by intro _; rfl) (l3:∀ j,(X j).env.scope.names.lookup x3 = some .local:=by intro _; rfl)
  (hw:∀ j,swappedStores [.Tuple [.Name x1 px,.Name x2 py,.Name x3 pz] kt pt] (.Tuple [a,b,c] k2 pt2) (X j).env = pure (some [x1,x2,x3]):=by intro _; rfl)
  (hs:∀ j,swapsWithSole [.Tuple [.Name x1 px,.Name x2 py,.Name x3 pz] kt pt] (.Tuple [a,b,c] k2 pt2) pos.line (X j).env = pure false:=by intro _; rfl) :
  SX K X ip (.Assign [.Tuple [.Name x1 px,.Name x2 py,.Name x3 pz] kt pt] (.Tuple [a,b,c] k2 pt2) pos) (dPar3 i1 i2 i3 da) :=
 let ⟨_,q,u⟩:=ha; ⟨_,fun j=>ps_par3 (M.calm j) (hN j) (e1 j) (e2 j) (e3 j) h12 h13 h23 (l1 j) (l2 j) (l3 j) (q j) (hw j) (hs j),simS_par3 u hi1 hi2 hi3⟩
theorem sx_while (nn:Nat) (hp:∀ j,PassesOwn (model (X j).prog (X j).w) (X j).A (X j).env (X j).xe) (hc:TX K X c ta) (hb:BX K X ip sts f):SX K X ip (.While c sts [] pos) (dWhile ta f nn) :=
 let ⟨_,p,s⟩:=hc; let ⟨_,q,u⟩:=hb; ⟨_,fun j=>ps_while (hp j) (p j) (q j),simS_while nn s u⟩
theorem sx_for {tg iter:Expr} {di:DI} {gg:En → T → Option En} (M:Fm K mg k X) (hp:∀ j,PassesOwn (model (X j).prog (X j).w) (X j).A (X j).env (X j).xe) (hi:IX K X tg iter di) (hg:GX K X ip tg gg) (hb:BX K X ip sts f)
  (hs:∀ j x,foldedSetIterable iter (X j).env x = pure x:=by intro _ _; rfl):SX K X ip (.For tg iter sts [] pos) (dFor ip di gg f) :=
 let ⟨_,p1,s1⟩:=hi; let ⟨_,p2,s2⟩:=hg; let ⟨_,p3,s3⟩:=hb; ⟨_,fun j=>ps_for (hp j) (M.calm j) (p1 j) (p2 j) (p3 j) (hs j),simS_for s1 s2 s3⟩
end
section
variable {P:Program} {wd:World} {base:Heap} {K:Fg} {mg:Str → Option Value} {k:Nat}
noncomputable abbrev cx1 (P:Program) (wd:World) (K:Fg) (mg:Str → Option Value) (base:Heap) (N:List Str) (qual:Str) (sc:Scope) (f:Addr) (cdv:Value) (A:Around) (outer:List Env) (s:Shared) (H:Hp) (E:XK):Unit → Cx:=fun _=>(cxOf CX0 P wd K mg base N qual sc f cdv A outer s H E).nox
theorem fd_of {x:Str} {st:Stmt} {f:Addr} {fd:FuncData} {N ps:List Str} {ip:Option Nat} {g:DS} (F:Fun K x x st f fd) (S:FnScope N ps (defScope st)) (hm:mg x = some (.ref f)) (hb:Binds K fd ps [])
  (body:∀ (cdv:Value) (A:Around) (outer:List Env) (s:Shared) (H:Hp) (E:XK),Fm K mg k (cx1 P wd K mg base N x (defScope st) f cdv A outer s H E) → Fb P wd base (cx1 P wd K mg base N x (defScope st) f cdv A outer s H E) → BX K (cx1 P wd K mg base N x (defScope st) f cdv A outer s H E) ip (defBody st) g) :
  FD P wd K mg base (k + 1) x ip ps.length (fnD ip ps.length N.length g):=by
 refine ⟨⟨f,fd,ps,?_,hm,F.kp,hb⟩,fnD_len⟩
 refine F.ok S (fun vs H Q E h=>h.1) fun cdv A outer s H vs Q E hr h=>?_
 obtain ⟨t,p,u⟩:=body cdv A outer s H E ⟨fun _=>rfl,fun _=>rfl,fun _=>rfl,fun _=>hr⟩ ⟨fun _=>rfl,fun _=>rfl,fun _=>rfl⟩
 exact ⟨t,p (),body_ok u h⟩
end
end D
set_option Elab.async false
set_option linter.all false
set_option maxRecDepth 100000
set_option maxHeartbeats 4000000
namespace D
open PySem L2
section
variable {P:Program} {wd:World} {base:Heap} {K:Fg} {mg:Str → Option Value} {k:Nat}
theorem fo_of {x:Str} {st:Stmt} {f:Addr} {fd:FuncData} {N ps:List Str} {ip:Option Nat} {g:DS} (F:Fun K x x st f fd) (S:FnScope N ps (defScope st))
  (body:∀ (cdv:Value) (A:Around) (outer:List Env) (s:Shared) (H:Hp) (E:XK),Fm K mg k (cx1 P wd K mg base N x (defScope st) f cdv A outer s H E) → Fb P wd base (cx1 P wd K mg base N x (defScope st) f cdv A outer s H E) → BX K (cx1 P wd K mg base N x (defScope st) f cdv A outer s H E) ip (defBody st) g) :
  FnOk P wd K mg base CX0 (k + 1) f fd ps (spD K ip ps.length (fnD ip ps.length N.length g)):=by
 refine F.ok S (fun vs H Q E h=>h.1) fun cdv A outer s H vs Q E hr h=>?_
 obtain ⟨t,p,u⟩:=body cdv A outer s H E ⟨fun _=>rfl,fun _=>rfl,fun _=>rfl,fun _=>hr⟩ ⟨fun _=>rfl,fun _=>rfl,fun _=>rfl⟩
 exact ⟨t,p (),body_ok u h⟩
theorem fd_zero {x:Str} {st:Stmt} {f:Addr} {fd:FuncData} {ps:List Str} {ip:Option Nat} {n:Nat} (F:Fun K x x st f fd) (hm:mg x = some (.ref f)) (hb:Binds K fd ps []) (hn:ps.length = n):FD P wd K mg base k x ip n (fun _=>none):=by
 refine ⟨⟨f,fd,ps,⟨fun vs H Q E h=>h.1.trans hn.symm,fun A outer s H args us vs Q E _ _ _ _ h=>?_⟩,hm,F.kp,hb⟩,fun gs r e=>nomatch e⟩
 obtain ⟨_,w,gs,r,ys,e,_⟩:=h
 cases e
theorem len1 {us:List Value} (h:us.length = 1):∃ a,us = [a]:=List.length_eq_one_iff.mp h
theorem lenSc {us:List Value} {n:Nat} (h:us.length = n + 1):∃ a r,us = a :: r ∧ r.length = n:=by
 cases us with
 | nil=>cases h
 | cons a r=>exact ⟨a,r,rfl,Nat.succ.inj h⟩
theorem len2 {us:List Value} (h:us.length = 2):∃ a b,us = [a,b]:=by
 obtain ⟨a,r,rfl,h'⟩:=lenSc h
 obtain ⟨b,rfl⟩:=len1 h'
 exact ⟨a,b,rfl⟩
theorem len3 {us:List Value} (h:us.length = 3):∃ a b c,us = [a,b,c]:=by
 obtain ⟨a,r,rfl,h'⟩:=lenSc h
 obtain ⟨b,c,rfl⟩:=len2 h'
 exact ⟨a,b,c,rfl⟩
theorem len4 {us:List Value} (h:us.length = 4):∃ a b c d,us = [a,b,c,d]:=by
 obtain ⟨a,r,rfl,h'⟩:=lenSc h
 obtain ⟨b,c,d,rfl⟩:=len3 h'
 exact ⟨a,b,c,d,rfl⟩
noncomputable def intsT (ns:List Int):List T:=ns.map fun i=>.a (.int i)
end
end D
set_option Elab.async false
set_option linter.all false
set_option maxRecDepth 100000
set_option maxHeartbeats 4000000
namespace D
open PySem L2
noncomputable def setM (i:Nat) (s:S) (Γ:En):Option En:=match s with
 | .v t=>some (Γ.set i (some (.v t)))
 | .l xs=>some (Γ.set i (some (.l xs)))
 | .d _=>none
 | .s j=>match Γ[j]? with
  | some (some (.r xs))=>some (Γ.set i (some (.r xs)))
  | some (some (.l xs))=>some ((Γ.set j none).set i (some (.l xs)))
  | _=>none
noncomputable def dMv (i j:Nat):DS:=fun Γ=>(dVar j Γ).bind fun p=>(setM i p.1 p.2).map .nx
theorem Rep.forget {K:Fg} {C:Fr} {w:W} {Γ:En} {σ:St} {H:Hp} {j:Nat} (r:Rep K C w Γ σ H) (hn:∀ q ∈ C.pins,q.1 ≠ j):Rep K C w (Γ.set j none) σ H where
 len:=by simpa using r.len
 val:=fun i g h=>by
  by_cases e:i = j
  ·subst e
   rw [List.getElem?_set] at h
   split at h
   ·split at h <;> simp at h
   ·exact absurd rfl ‹_›
  ·rw [List.getElem?_set_ne (Ne.symm e)] at h
   exact r.val i g h
 apart:=fun a b p ga gb ma mb h1 h2 h3 h4=>by
  have back:∀ (m:Nat) (zs:G),(Γ.set j none)[m]? = some (some zs) → Γ[m]? = some (some zs):=fun m zs h=>by
   by_cases e:m = j
   ·subst e
    rw [List.getElem?_set] at h
    split at h
    ·split at h <;> simp at h
    ·exact absurd rfl ‹_›
   ·rw [List.getElem?_set_ne (Ne.symm e)] at h; exact h
  exact r.apart a b p ga gb ma mb (back _ _ h1) (back _ _ h2) h3 h4
 lst:=r.lst
 own:=r.own
 ra:=r.ra
 rl:=r.rl
 frame:=r.frame
 tab:=r.tab
 pin:=fun q hq=>by
  obtain ⟨a,xs,b⟩:=r.pin q hq
  exact ⟨a,xs,by rw [List.getElem?_set_ne (Ne.symm (hn q hq))]; exact b⟩
theorem Rep.move {K:Fg} {C:Fr} {w:W} {Γ:En} {σ:St} {H:Hp} {i j:Nat} {v:V} {xs:List T} (r:Rep K C w Γ σ H) (hj:Γ[j]? = some (some (.l xs))) (hv:σ[j]? = some (some v)) (hni:∀ q ∈ C.pins,q.1 ≠ i) (hnj:∀ q ∈ C.pins,q.1 ≠ j) :
  Rep K C w ((Γ.set j none).set i (some (.l xs))) (σ.set i (some v)) H:=by
 have r':=r.forget (j:=j) hnj
 obtain ⟨v',e1,e2⟩:=r.val j _ hj
 rw [hv] at e1; cases e1
 obtain ⟨p,vs,rfl,hp,h1,h2⟩:=e2
 have hjl:j < Γ.length:=(List.getElem?_eq_some_iff.mp hj).1
 refine ⟨by simpa using r.len,fun m g h=>?_,fun a b c ga gb ma mb g1 g2 g3 g4=>?_,r.lst,r.own,r.ra,r.rl,r.frame,r.tab,fun q hq=>?_⟩
 ·by_cases e:m = i
  ·subst e
   have hml:m < (Γ.set j none).length:=by
    rcases Nat.lt_or_ge m (Γ.set j none).length with z | z
    ·exact z
    ·rw [List.getElem?_eq_none (by simpa using z)] at h; cases h
   rw [List.getElem?_set_self hml] at h
   cases h
   exact ⟨_,by rw [List.getElem?_set_self (by rw [r'.len]; exact hml)],p,vs,rfl,hp,h1,h2⟩
  ·rw [List.getElem?_set_ne (Ne.symm e)] at h
   rw [List.getElem?_set_ne (Ne.symm e)]
   exact r'.val m g h
 ·have old:∀ (m:Nat) (gc:G),isMut gc = true → m ≠ i → ((Γ.set j none).set i (some (.l xs)))[m]? = some (some gc) → (σ.set i (some (.ref p)))[m]? = some (some (.ref c)) → m ≠ j ∧ Γ[m]? = some (some gc) ∧ σ[m]? = some (some (.ref c)) ∧ c ≠ p:=fun m gc mc e h h'=>by
   rw [List.getElem?_set_ne (Ne.symm e)] at h
   rw [List.getElem?_set_ne (Ne.symm e)] at h'
   have hmj:m ≠ j:=fun z=>by subst z; rw [List.getElem?_set_self hjl] at h; cases h
   rw [List.getElem?_set_ne (Ne.symm hmj)] at h
   exact ⟨hmj,h,h',fun z=>hmj (r.apart m j c _ _ mc rfl h hj h' (z ▸ hv))⟩
  have at_i:∀ (h:(σ.set i (some (.ref p)))[i]? = some (some (V.ref c))),c = p:=fun h=>by
   have hil:i < (σ.set i (some (V.ref p))).length:=(List.getElem?_eq_some_iff.mp h).1
   rw [List.getElem?_set_self (by simpa using hil)] at h
   cases h; rfl
  by_cases ea:a = i
  ·by_cases eb:b = i
   ·rw [ea,eb]
   ·exact absurd (at_i (ea ▸ g3)) (old b gb mb eb g2 g4).2.2.2
  ·by_cases eb:b = i
   ·exact absurd (at_i (eb ▸ g4)) (old a ga ma ea g1 g3).2.2.2
   ·exact r.apart a b c ga gb ma mb (old a ga ma ea g1 g3).2.1 (old b gb mb eb g2 g4).2.1 (old a ga ma ea g1 g3).2.2.1 (old b gb mb eb g2 g4).2.2.1
 ·obtain ⟨a,ys,b⟩:=r'.pin q hq
  exact ⟨by rw [List.getElem?_set_ne (Ne.symm (hni q hq))]; exact a,ys,by rw [List.getElem?_set_ne (Ne.symm (hni q hq))]; exact b⟩
theorem setM_ok {K:Fg} {C:Fr} {w:W} {Γ Γ':En} {σ:St} {H:Hp} {v:V} {s:S} {i j:Nat} (R:Rep K C w Γ σ H) (o:SOk K C w σ H v s) (e:setM i s Γ = some Γ') (hs:∀ m,s = .s m → m = j) (hn:∀ q ∈ C.pins,q.1 ≠ i) (hm:∀ q ∈ C.pins,q.1 ≠ j):∃ w',Rep K C w' Γ' (σ.set i (some v)) H:=by
 cases s with
 | v t=>cases e; exact ⟨w,R.setv rfl o hn⟩
 | d _=>cases e
 | l xs =>
  cases e
  obtain ⟨p,vs,rfl,n1,n2,ow,h1,h2⟩:=o
  exact ⟨_,R.setl n1 n2 ow h1 h2 hn⟩
 | s m =>
  cases hs m rfl
  unfold setM at e
  dsimp only at e
  have o':σ[j]? = some (some v):=o
  split at e
  ·rename_i xs he
   cases e
   obtain ⟨v',e1,e2⟩:=R.val j _ he
   rw [o'] at e1; cases e1
   exact ⟨w,R.setv rfl e2 hn⟩
  ·rename_i xs he
   cases e
   exact ⟨w,R.move he o' hn hm⟩
  ·cases e
theorem dVar_s {j:Nat} {Γ:En} {p:S × En} (e:dVar j Γ = some p):∀ m,p.1 = .s m → m = j:=by
 intro m hm
 unfold dVar at e
 split at e <;> first | cases e | (cases e; cases hm) | (cases e; cases hm; rfl)
 all_goals first | (cases hm; done) | (cases hm; rfl)
theorem simS_mv {K:Fg} {ip:Option Nat} {i j:Nat} {te:TE} (h:SimE K te (dVar j)) (hi:ip ≠ some i) (hj:ip ≠ some j):SimS K ip (tAsg te (gName i)) (dMv i j):=by
 intro C w Γ σ H D o hp R e k
 obtain ⟨p,e1,e⟩:=bind_some e
 obtain ⟨Γ1,e2,e⟩:=map_some e
 subst e
 refine h C w Γ σ H p.1 p.2 _ R e1 fun v H1 R1 _ o1 _=>?_
 obtain ⟨w',R'⟩:=setM_ok (j:=j) R1 o1 e2 (dVar_s e1) (pins_ne hp hi) (pins_ne hp hj)
 exact k w' _ H1 R'
section
variable {ι:Type} {K:Fg} {X:ι → Cx} {ip:Option Nat} {e:Expr} {x:Str} {pos:Pos}
theorem sx_mv (i j:Nat) {pos':Pos} (h:EX K X e (dVar j)) (hi:ip ≠ some i:=by decide) (hj:ip ≠ some j:=by decide) (hN:∀ j,(X j).N.Nodup:=by intro _; show (List.Nodup _); decide +kernel) (hx':∀ j,(X j).N[i]? = some x:=by intro _; rfl) (hx:∀ j,Loc (X j).env.scope x:=by intro _; first | exact Or.inl rfl | exact Or.inr rfl)
  (hs:∀ j,swapsWith e (some (.Name x pos')) pos.line (X j).env = pure false:=by intro _; rfl) (hf:∀ j,(X j).fn x = true ∨ (X j).env.scope.names.lookup x = some .local:=by intro _; first | exact .inl rfl | exact .inr rfl):SX K X ip (.Assign [.Name x pos'] e pos) (dMv i j) :=
 let ⟨_,p,s⟩:=h; ⟨_,fun j=>ps_set (hN j) (hx' j) (hx j) (p j) (hs j) (hf j),simS_mv s hi hj⟩
end
end D
set_option Elab.async false
set_option linter.all false
set_option maxRecDepth 100000
set_option maxHeartbeats 4000000
namespace D
open PySem L2
end D
set_option Elab.async false
set_option linter.all false
set_option maxRecDepth 100000
set_option maxHeartbeats 4000000
namespace L2
open PySem PySem.Spec PyProof.Rows
theorem rv_init:Slot "reversed" "__init__" "object.__init__" :=
 .of (owner:="object") (n:="__init__") (by rw [typeLookup_type,builtinLookup_eq_fast]; kernel_rfl) (by decide +kernel) (by decide +kernel) (by decide +kernel)
  (by first | exact .inl (by decide +kernel) | exact .inr (by decide +kernel)) (by rw [isSubtype_type]; kernel_rfl)
theorem rv_called:TypeCalled "reversed" "reversed.__new__" "object.__init__" :=
 ⟨by decide +kernel,by decide +kernel,⟨_,_,F.mro_reversed⟩,F.made_reversed,by decide +kernel,by rw [isSubtype_type]; kernel_rfl,rv_init⟩
theorem rv_owner:Manifest.owners.lookup (String.ofList ['d','e','s','r','e','v','e','r'].reverse) = some Manifest.sig_reversed:=by kernel_rfl
theorem rv_next:Slot "reversed" "__next__" "reversed.__next__" :=
 .of (owner:="reversed") (n:="__next__") (by rw [typeLookup_type,builtinLookup_eq_fast]; kernel_rfl) (by decide +kernel) (by decide +kernel) (by decide +kernel)
  (by first | exact .inl (by decide +kernel) | exact .inr (by decide +kernel)) (by rw [isSubtype_type]; kernel_rfl)
theorem rv_next_entry:entryFor table "reversed.__next__" = some Builtin.«reversed.__next__»:=entryFor_of_tree (by kernel_rfl)
theorem rv_iter:Slot "reversed" "__iter__" "reversed.__iter__" :=
 .of (owner:="reversed") (n:="__iter__") (by rw [typeLookup_type,builtinLookup_eq_fast]; kernel_rfl) (by decide +kernel) (by decide +kernel) (by decide +kernel)
  (by first | exact .inl (by decide +kernel) | exact .inr (by decide +kernel)) (by rw [isSubtype_type]; kernel_rfl)
theorem rv_none:typeLookup (.type "tuple") "__reversed__" = pure none:=by rw [typeLookup_type,builtinLookup_eq_fast]; kernel_rfl
theorem rv_dict:isSubtype (.type "tuple") (.type "dict") = pure false:=by rw [isSubtype_type]; kernel_rfl
theorem rv_next_args (a:Value):argsOk "reversed.__next__" ⟨[a],[]⟩:=by
 unfold argsOk; rw [signature?_of (id:="reversed.__next__") (n:=['_','_','t','x','e','n','_','_']) (o:=['d','e','s','r','e','v','e','r']) (by kernel_rfl) rv_owner]; kernel_rfl
theorem rv_iter_args (a:Value):argsOk "reversed.__iter__" ⟨[a],[]⟩:=by
 unfold argsOk; rw [signature?_of (id:="reversed.__iter__") (n:=['_','_','r','e','t','i','_','_']) (o:=['d','e','s','r','e','v','e','r']) (by kernel_rfl) rv_owner]; kernel_rfl
theorem rv_iter_entry:entryFor table "reversed.__iter__" = some Builtin.«dict_keyiterator.__iter__» :=
 entryFor_alias (id':="dict_keyiterator.__iter__") (by kernel_rfl) (by first | rfl | decide +kernel | (unfold String.splitOn; simp +decide [String.splitOnAux])) (by decide +kernel) (by kernel_rfl)
noncomputable abbrev IsRv (h:Heap) (e l:Addr) (i:Int):Prop:=h.get? e = some { cls:=.type "reversed",dict:=none,data:=.fields #[.ref l,rawInt i],slots:=#[] }
section
variable {prog:Program} {w:World} {A:Around} {E:Value → Shared → Prop} {s:Shared}
theorem rv_slot {l:Addr} {xs:Array Value} {Q:Bool → Shared → Prop} (hl:s.heap.IsTuple l xs) (hQ:Q true s):wpAny (model prog w) A (do
  if ← isInstance (.ref l) (.type "dict") then return false
  match ← specialOf (.ref l) "__getitem__" with
  | none=>return false
  | some (.builtin id) =>
   if ["tuple.__getitem__","str.__getitem__","bytes.__getitem__","bytearray.__getitem__","memoryview.__getitem__","numpy.ndarray.__getitem__","sqlite3.Row.__getitem__"].contains id then return true
   if id == "sqlite3.Blob.__getitem__" then return false
   unsupported "reversed.__new__:is-it-a-sequence"
  | some _=>return true) Q E s:=by
 refine wpAny_bind (wpAny_isInstance hl.typeIs rv_dict ?_)
 refine wpAny_bind (wpAny_specialOf hl.typeIs F.slot_tuple_getitem.lookup ?_)
 exact wpAny_pure hQ
theorem meets_rvT (l:Addr) (xs:Array Value) (hz:xs.size ≤ sizeLine) :
  Meets (Builtin.«reversed.__new__» ⟨[.type "reversed",.ref l],[]⟩) (fun _ R s=>s.heap.IsTuple l xs ∧
   R (.ok (.ret (.ref s.heap.objs.size))) { s with heap:=s.heap.push { cls:=.type "reversed",data:=.fields #[.ref l,rawInt ((xs.size:Int) - 1)] },toks:=s.toks + 1 + 1 }) :=
 .of_wp fun prog w A R s h=>by
  obtain ⟨hl,h⟩:=h
  unfold Builtin.«reversed.__new__»
  refine wpAny_bind (wpAny_of_eq (newClass_reversed _) ?_)
  try dsimp only
  refine wpAny_bind (wpAny_of_eq (a:=()) (by first | rfl | kernel_rfl) ?_)
  refine wpAny_bind (wpAny_of_eq (a:=()) (by first | rfl | kernel_rfl) ?_)
  try dsimp only
  refine wpAny_bind (wpAny_specialOf hl.typeIs rv_none ?_)
  try dsimp only
  refine wpAny_bind (rv_slot hl ?_)
  rw [if_neg (by decide)]
  refine wpAny_bind (len_tuple hl (by have:=hz; rw [sizeLine_eq] at this; omega) ?_)
  refine wpAny_bind (wpAny_of_eq (a:=some (xs.size:Int)) (by first | rfl | kernel_rfl) ?_)
  try dsimp only
  refine wpAny_bind (m:=Builtin.SmallTypes.newRecord _ _) ?_
  unfold Builtin.SmallTypes.newRecord
  refine wpAny_newObj_type ?_ (by size_fits)
  exact wpAny_pure ⟨_,rfl,h⟩
theorem rv_pyIter {e l:Addr} {i:Int} {Q:Value → Shared → Prop} (he:IsRv s.heap e l i) (h:Q (.ref e) s):wpAny (model prog w) A (pyIter (.ref e)) Q E s:=by
 have hT:s.TypeIs (.ref e) "reversed":=⟨_,he,rfl⟩
 refine wpAny_pyIter_slot hT rv_iter (wpAny_call_entry rv_iter hT rv_iter_entry ?_ (rv_iter_args _))
 show wpAny _ _ (ret (.ref e)) _ _ s
 exact wpAny_pure ⟨_,rfl,"reversed",_,hT,rv_next.lookup,h⟩
theorem rv_item {e l:Addr} {i:Nat} {xs:Array Value} {x:Value} {Q:Option Value → Shared → Prop} (he:IsRv s.heap e l (i:Int)) (hl:s.heap.IsTuple l xs) (hz:xs.size ≤ sizeLine) (hx:xs[i]? = some x)
  (hQ:∀ h' tk,IsRv h' e l ((i:Int) - 1) → Heap.SameBut e s.heap h' → Q (some x) { s with heap:=h',toks:=tk }):wpAny (model prog w) A (pyNext (.ref e)) Q E s:=by
 have hT:s.TypeIs (.ref e) "reversed":=⟨_,he,rfl⟩
 have hi:i < xs.size:=(Array.getElem?_eq_some_iff.mp hx).1
 rw [sizeLine_eq] at hz
 obtain ⟨hp,g,d,tk,os⟩:=s
 unfold pyNext
 refine wpAny_bind (wpAny_attempt (wpAny_callSpecial?_slot (name:=Str.ofString "__next__") hT rv_next (wpAny_call_entry rv_next hT rv_next_entry ?_ (rv_next_args _))))
 unfold Builtin.«reversed.__next__»
 refine wpAny_bind (wpAny_of_eq (a:=(Value.ref e,[])) rfl ?_)
 try dsimp only
 refine wpAny_bind (wpAny_field he rfl (x:=.ref l) rfl ?_)
 refine wpAny_bind (wpAny_field he rfl (x:=rawInt (i:Int)) rfl ?_)
 show wpAny _ _ (if (i:Int) < 0 then _ else _) _ _ _
 rw [if_neg (by omega)]
 refine wpAny_bind (wpAny_specialOf hl.typeIs F.slot_tuple_getitem.lookup ?_)
 try dsimp only
 rw [if_neg (by decide)]
 refine wpAny_bind (wpAny_mkInt ?_)
 refine wpAny_bind (wpAny_attempt (PyProof.Rows.getItem_tuple (j:=i) hl (by omega) (by omega) (by rw [seqIndex_of (by omega) (by omega),Int.toNat_natCast]) hx ?_))
 show wpAny _ _ (field (.ref e) 1 >>= _) _ _ _
 refine wpAny_bind (wpAny_field he rfl (x:=rawInt (i:Int)) rfl ?_)
 show wpAny _ _ (setField (.ref e) 1 (rawInt ((i:Int) - 1)) >>= _) _ _ _
 refine wpAny_bind (wpAny_setField_rec he (by simp) fun h1 e1 b1=>?_)
 exact wpAny_pure ⟨x,rfl,wpAny_pure (hQ h1 _ e1 b1)⟩
theorem rv_end {e l:Addr} {Q:Option Value → Shared → Prop} (hh:A.handled = none) (he:IsRv s.heap e l (-1)) (hQ:∀ h',Heap.ExtBut e s.heap h' → Q none { s with heap:=h' }):wpAny (model prog w) A (pyNext (.ref e)) Q E s:=by
 have hT:s.TypeIs (.ref e) "reversed":=⟨_,he,rfl⟩
 obtain ⟨hp,g,d,tk,os⟩:=s
 unfold pyNext
 refine wpAny_bind (wpAny_attempt (wpAny_callSpecial?_slot (name:=Str.ofString "__next__") hT rv_next (wpAny_call_entry rv_next hT rv_next_entry ?_ (rv_next_args _))))
 unfold Builtin.«reversed.__next__»
 refine wpAny_bind (wpAny_of_eq (a:=(Value.ref e,[])) rfl ?_)
 try dsimp only
 refine wpAny_bind (wpAny_field he rfl (x:=.ref l) rfl ?_)
 refine wpAny_bind (wpAny_field he rfl (x:=rawInt (-1)) rfl ?_)
 show wpAny _ _ (if (-1:Int) < 0 then _ else _) _ _ _
 rw [if_pos (by decide)]
 refine wpAny_bind (wpAny_rule ?_)
 refine wpAny_bind ?_
 show wpAny _ _ (setField (.ref e) 1 (rawInt (-1)) >>= fun _=>setField (.ref e) 0 .none) _ _ _
 refine wpAny_bind (wpAny_setField_rec he (by simp) fun h1 e1 b1=>?_)
 replace e1:IsRv h1 e l (-1):=e1
 refine wpAny_setField_rec e1 (by simp) fun h2 e2 b2=>?_
 replace b1:Heap.SameBut e hp h1:=b1
 replace b2:Heap.SameBut e h1 h2:=b2
 have x2:Heap.ExtBut e hp h2:=fun c o hc q=>b2.extBut c o hc (b1.extBut c o hc q)
 refine wpAny_bind ?_
 show wpAny _ _ (newExc (.type "StopIteration") [] >>= _) _ _ _
 refine wpAny_bind ?_
 simp only [newExc,newTuple]
 refine wpAny_bind (wpAny_newObj_type ?_ (by size_fits))
 refine wpAny_bind (m:=firstArgMember _ _) (wpAny_of_eq (a:=Value.none) (by first | rfl | (simp only [firstArgMember]; rfl)) ?_)
 refine wpAny_newObj_type ?_ (by size_fits)
 simp only [raiseNew]
 refine wpAny_bind (wpAny_handled ?_)
 first | rw [show A.in1.handled = none from hh] | rw [hh]
 refine wpAny_bind (wpAny_pure (wpAny_throw ?_))
 refine wpAny_bind (wpAny_isInstance (T:="StopIteration") (b:=true) ⟨_,Heap.get?_push_size _ rfl,rfl⟩ isSubtype_stop ?_)
 exact wpAny_pure (hQ _ ((x2.push _).push _))
end
end L2
set_option Elab.async false
set_option linter.all false
set_option maxRecDepth 100000
set_option maxHeartbeats 4000000
namespace D
open PySem L2
noncomputable def intsOf:List T → Option (List Int)
 | []=>some []
 | .a (.int n) :: r=>(intsOf r).map fun ns=>n :: ns
 | _ :: _=>none
theorem intsOf_eq:∀ {xs:List T} {ns:List Int},intsOf xs = some ns → xs = (ns.map V.int).map T.a
 | [],ns,e=>by cases e; rfl
 | x :: r,ns,e=>by
  unfold intsOf at e
  split at e
  ·rename_i h; cases h
  ·rename_i n r' h
   cases h
   obtain ⟨ms,e1,e⟩:=map_some e
   subst e
   rw [intsOf_eq e1]; rfl
  ·cases e
end D
namespace D
open PySem L2
end D
set_option Elab.async false
set_option linter.all false
set_option maxRecDepth 100000
set_option maxHeartbeats 4000000
namespace D
open PySem L2
noncomputable def ixL {α:Type} (l:List α) (i:Nat):Option α:=l[i]?
@[simp,simp ↓] theorem ixL_0 {α:Type} {x:α} {r:List α}:ixL (x :: r) 0 = some x:=rfl
@[simp,simp ↓] theorem ixL_s {α:Type} {x:α} {r:List α} {n:Nat}:ixL (x :: r) (n + 1) = ixL r n:=rfl
@[simp,simp ↓] theorem ixL_n {α:Type} {n:Nat}:ixL ([]:List α) n = none:=rfl
@[simp high,simp ↓ high] theorem gd_0 {α:Type} {x:α}:gd 0 x = some x:=rfl
@[simp high,simp ↓ high] theorem gd_1 {α:Type} {x:α}:gd 1 x = some x:=rfl
@[simp high,simp ↓ high] theorem gd_2 {α:Type} {x:α}:gd 2 x = some x:=rfl
@[simp high,simp ↓ high] theorem gd_3 {α:Type} {x:α}:gd 3 x = some x:=rfl
@[simp high,simp ↓ high] theorem gd_4 {α:Type} {x:α}:gd 4 x = some x:=rfl
@[simp high,simp ↓ high] theorem gd_5 {α:Type} {x:α}:gd 5 x = some x:=rfl
@[simp high,simp ↓ high] theorem gd_6 {α:Type} {x:α}:gd 6 x = some x:=rfl
@[simp high,simp ↓ high] theorem gd_7 {α:Type} {x:α}:gd 7 x = some x:=rfl
@[simp high,simp ↓ high] theorem gd_8 {α:Type} {x:α}:gd 8 x = some x:=rfl
@[simp high,simp ↓ high] theorem gd_9 {α:Type} {x:α}:gd 9 x = some x:=rfl
@[simp high,simp ↓ high] theorem gd_10 {α:Type} {x:α}:gd 10 x = some x:=rfl
@[simp high,simp ↓ high] theorem gd_11 {α:Type} {x:α}:gd 11 x = some x:=rfl
@[simp high,simp ↓ high] theorem gd_12 {α:Type} {x:α}:gd 12 x = some x:=rfl
class Kf (α β:Type) where
 k:α → Option β
class Kg (α β:Type) where
 k:α → β
noncomputable def bnd {α β:Type} (x:Option α) [f:Kf α β]:Option β:=x.bind f.k
@[simp,simp ↓] theorem bnd_s {α β:Type} {a:α} {f:α → Option β}:bnd (some a) (f:=⟨f⟩) = f a:=rfl
@[simp,simp ↓] theorem bnd_n {α β:Type} {f:Kf α β}:bnd none (f:=f) = none:=rfl
noncomputable def omp {α β:Type} (x:Option α) [f:Kg α β]:Option β:=x.map f.k
@[simp,simp ↓] theorem omp_s {α β:Type} {a:α} {f:α → β}:omp (some a) (f:=⟨f⟩) = some (f a):=rfl
@[simp,simp ↓] theorem omp_n {α β:Type} {f:Kg α β}:omp none (f:=f) = none:=rfl
class Ka (α:Type) where
 v:α
noncomputable def ifB {α:Type} (b:Bool) [x:Ka α] [y:Ka α]:α:=if b = true then x.v else y.v
@[simp high,simp ↓ high] theorem ifB_t {α:Type} {x:α} {y:Ka α}:ifB true (x:=⟨x⟩) (y:=y) = x:=rfl
@[simp high,simp ↓ high] theorem ifB_f {α:Type} {x:Ka α} {y:α}:ifB false (x:=x) (y:=⟨y⟩) = y:=rfl
noncomputable def ifO {α:Type} (p:Option Nat) (k:Nat) (x y:α):α:=if p = some k then x else y
@[simp high,simp ↓ high] theorem ifO_n {α:Type} {k:Nat} {x y:α}:ifO none k x y = y:=rfl
noncomputable def ifN {α:Type} (m n:Nat) (x y:α):α:=if m = n then x else y
noncomputable def ifM {α:Type} (i:Nat) (l:List Nat) (x y:α):α:=if i ∈ l then x else y
@[simp high,simp ↓ high] theorem ifM_n {α:Type} {i:Nat} {x y:α}:ifM i [] x y = y:=rfl
noncomputable def apE {α:Type} (l:List α):List α:=l ++ []
@[simp,simp ↓] theorem apE_n {α:Type}:apE ([]:List α) = []:=rfl
@[simp,simp ↓] theorem apE_c {α:Type} {x:α} {r:List α}:apE (x :: r) = x :: apE r:=rfl
@[simp high,simp ↓ high] theorem ifO_00 {α:Type} {x y:α}:ifO (some 0) 0 x y = x:=rfl
@[simp high,simp ↓ high] theorem ifO_01 {α:Type} {x y:α}:ifO (some 0) 1 x y = y:=rfl
@[simp high,simp ↓ high] theorem ifO_02 {α:Type} {x y:α}:ifO (some 0) 2 x y = y:=rfl
@[simp high,simp ↓ high] theorem ifO_03 {α:Type} {x y:α}:ifO (some 0) 3 x y = y:=rfl
@[simp high,simp ↓ high] theorem ifO_04 {α:Type} {x y:α}:ifO (some 0) 4 x y = y:=rfl
@[simp high,simp ↓ high] theorem ifO_05 {α:Type} {x y:α}:ifO (some 0) 5 x y = y:=rfl
@[simp high,simp ↓ high] theorem ifO_06 {α:Type} {x y:α}:ifO (some 0) 6 x y = y:=rfl
@[simp high,simp ↓ high] theorem ifN_1 {α:Type} {x y:α}:ifN 1 1 x y = x:=rfl
@[simp high,simp ↓ high] theorem ifN_2 {α:Type} {x y:α}:ifN 2 2 x y = x:=rfl
@[simp high,simp ↓ high] theorem ifN_3 {α:Type} {x y:α}:ifN 3 3 x y = x:=rfl
@[simp high,simp ↓ high] theorem ifN_4 {α:Type} {x y:α}:ifN 4 4 x y = x:=rfl
@[simp high,simp ↓ high] theorem ifN_5 {α:Type} {x y:α}:ifN 5 5 x y = x:=rfl
@[simp high,simp ↓ high] theorem ifN_6 {α:Type} {x y:α}:ifN 6 6 x y = x:=rfl
@[simp high,simp ↓ high] theorem ifN_7 {α:Type} {x y:α}:ifN 7 7 x y = x:=rfl
@[simp high,simp ↓ high] theorem ifN_8 {α:Type} {x y:α}:ifN 8 8 x y = x:=rfl
section
variable {f g:DS} {fa fb fc fi:DE} {da fr:DA} {ta tb:DT} {Γ:En} {i j k:Nat} {h h':En → S → S → Option S}
@[simp,simp ↓] theorem dSeq_ap:dSeq f g Γ = bnd (f Γ) (f:=⟨fun o=>match o with | .nx Γ'=>g Γ' | o=>some o⟩):=rfl
@[simp,simp ↓] theorem dNext_ap:dNext Γ = some (.nx Γ):=rfl
@[simp,simp ↓] theorem dRet_ap:dRet fa Γ = omp (fa Γ) (f:=⟨fun p=>.rt p.1 p.2⟩):=rfl
@[simp,simp ↓] theorem dRetN_ap:dRetN Γ = some (.rt (.v (.a .non)) Γ):=rfl
@[simp,simp ↓] theorem dDrop_ap:dDrop fa Γ = omp (fa Γ) (f:=⟨fun p=>.nx p.2⟩):=rfl
@[simp,simp ↓] theorem dIf_b:dIf ta f g Γ = bnd (ta Γ) (f:=⟨fun p=>ifB p.1 (x:=⟨(f p.2)⟩) (y:=⟨(g p.2)⟩)⟩):=rfl
theorem dIf_ap:dIf ta f g Γ = (ta Γ).bind fun p=>if p.1 = true then f p.2 else g p.2:=rfl
@[simp,simp ↓] theorem dSet_ap:dSet i fa Γ = bnd (fa Γ) (f:=⟨fun p=>omp (setS i p.1 p.2) (f:=⟨.nx⟩)⟩):=rfl
@[simp,simp ↓] theorem setS_v {t:T}:setS i (.v t) Γ = some (Γ.set i (some (.v t))):=rfl
@[simp,simp ↓] theorem setS_l {t:List T}:setS i (.l t) Γ = some (Γ.set i (some (.l t))):=rfl
@[simp,simp ↓] theorem dVar_ap:dVar i Γ = match ixL Γ i with
 | some (some (.v t))=>some (.v t,Γ)
 | some (some (.l _))=>some (.s i,Γ)
 | some (some (.r _))=>some (.s i,Γ)
 | some (some (.k _))=>some (.s i,Γ)
 | some (some (.d _))=>some (.s i,Γ)
 | some (some (.e _))=>some (.s i,Γ)
 | _=>none:=rfl
@[simp,simp ↓] theorem dC_ap {v:V}:dC v Γ = some (.v (.a v),Γ):=rfl
@[simp,simp ↓] theorem dOp_ap:dOp h fa fb Γ = bnd (fa Γ) (f:=⟨fun p=>bnd (fb p.2) (f:=⟨fun q=>omp (h q.2 p.1 q.1) (f:=⟨fun s=>(s,q.2)⟩)⟩)⟩):=rfl
@[simp,simp ↓] theorem dUn_ap {h:En → S → Option S}:dUn h fa Γ = bnd (fa Γ) (f:=⟨fun p=>omp (h p.2 p.1) (f:=⟨fun s=>(s,p.2)⟩)⟩):=rfl
@[simp,simp ↓] theorem dCB_ap {h:En → List S → Option S}:dCB h da Γ = bnd (da Γ) (f:=⟨fun p=>omp (h p.2 p.1) (f:=⟨fun s=>(s,p.2)⟩)⟩):=rfl
@[simp,simp ↓] theorem dNil_ap:dNil Γ = some ([],Γ):=rfl
@[simp,simp ↓] theorem dCons_ap:dCons fa fr Γ = bnd (fa Γ) (f:=⟨fun p=>bnd (fr p.2) (f:=⟨fun q=>some (p.1 :: q.1,q.2)⟩)⟩):=rfl
@[simp,simp ↓] theorem tree_v {t:T}:S.tree (.v t) = some t:=rfl
@[simp,simp ↓] theorem trees_nil:trees [] = some []:=rfl
@[simp,simp ↓] theorem trees_cons {t:T} {r:List S}:trees (.v t :: r) = omp (trees r) (f:=⟨fun ts=>t :: ts⟩):=rfl
theorem line_eq:sizeLine = 16777216:=sizeLine_eq
@[simp,simp ↓] theorem dTup_ap:dTup da Γ = bnd (da Γ) (f:=⟨fun p=>bnd (trees p.1) (f:=⟨fun ts=>gd ts.length (.v (.t ts),p.2)⟩)⟩):=rfl
@[simp,simp ↓] theorem dLst_ap:dLst da Γ = bnd (da Γ) (f:=⟨fun p=>bnd (trees p.1) (f:=⟨fun ts=>gd ts.length (.l ts,p.2)⟩)⟩):=rfl
@[simp,simp ↓] theorem dTest_ap:dTest fa Γ = bnd (fa Γ) (f:=⟨fun p=>match p.1 with | .v (.a (.bl b))=>some (b,p.2) | _=>none⟩):=rfl
@[simp,simp ↓] theorem dAnd_b:dAnd ta tb Γ = bnd (ta Γ) (f:=⟨fun p=>ifB p.1 (x:=⟨(tb p.2)⟩) (y:=⟨(some (false,p.2))⟩)⟩):=rfl
theorem dAnd_ap:dAnd ta tb Γ = (ta Γ).bind fun p=>if p.1 = true then tb p.2 else some (false,p.2):=rfl
@[simp,simp ↓] theorem dOr_b:dOr ta tb Γ = bnd (ta Γ) (f:=⟨fun p=>ifB p.1 (x:=⟨(some (true,p.2))⟩) (y:=⟨(tb p.2)⟩)⟩):=rfl
@[simp,simp ↓] theorem dNot_ap:dNot ta Γ = bnd (ta Γ) (f:=⟨fun p=>some (!p.1,p.2)⟩):=rfl
@[simp,simp ↓] theorem dAndV_b:dAndV fa fb Γ = bnd (dTest fa Γ) (f:=⟨fun p=>ifB p.1 (x:=⟨(fb p.2)⟩) (y:=⟨(some (.v (.a (.bl false)),p.2))⟩)⟩):=rfl
@[simp,simp ↓] theorem dOrV_b:dOrV fa fb Γ = bnd (dTest fa Γ) (f:=⟨fun p=>ifB p.1 (x:=⟨(some (.v (.a (.bl true)),p.2))⟩) (y:=⟨(fb p.2)⟩)⟩):=rfl
@[simp,simp ↓] theorem dNotV_ap:dNotV fa Γ = bnd (dTest fa Γ) (f:=⟨fun p=>some (.v (.a (.bl !p.1)),p.2)⟩):=rfl
@[simp,simp ↓] theorem dIfE_b:dIfE ta fa fb Γ = bnd (ta Γ) (f:=⟨fun p=>ifB p.1 (x:=⟨(fa p.2)⟩) (y:=⟨(fb p.2)⟩)⟩):=rfl
@[simp] theorem dChain_ap:dChain h h' fa fb fc Γ = bnd (fa Γ) (f:=⟨fun p=>bnd (fb p.2) (f:=⟨fun q=>bnd (h q.2 p.1 q.1) (f:=⟨fun z=>match z with
 | .v (.a (.bl k))=>if k = true then bnd (fc q.2) (f:=⟨fun u=>omp (h' u.2 q.1 u.1) (f:=⟨fun s=>(s,u.2)⟩)⟩) else some (.v (.a (.bl false)),q.2)
 | _=>none⟩)⟩)⟩):=rfl
@[simp,simp ↓] theorem dMut_b {h:En → List T → List S → Option (T × List T)}:dMut i h da Γ = ifB (isLs Γ i) (x:=⟨(bnd (da Γ) (f:=⟨fun p=>match ixL p.2 i with
 | some (some (.l xs))=>bnd (gd xs.length ()) (f:=⟨fun _=>omp (h p.2 xs p.1) (f:=⟨fun q=>(.v q.1,p.2.set i (some (.l q.2)))⟩)⟩)
 | _=>none⟩))⟩) (y:=⟨none⟩):=rfl
@[simp,simp ↓] theorem isLs_ap:isLs Γ i = match ixL Γ i with | some (some (.l _))=>true | _=>false:=rfl
@[simp,simp ↓] theorem dSetIx_b:dSetIx i fa fi Γ = bnd (fa Γ) (f:=⟨fun p=>bnd p.1.tree (f:=⟨fun t=>ifB (isLs p.2 i) (x:=⟨(bnd (fi p.2) (f:=⟨fun q=>bnd (iS q.1) (f:=⟨fun k=>match ixL q.2 i with
  | some (some (.l xs))=>omp (ixN xs.length k) (f:=⟨fun j=>.nx (q.2.set i (some (.l (xs.set j t))))⟩)
  | _=>none⟩)⟩))⟩) (y:=⟨none⟩)⟩)⟩):=rfl
@[simp,simp ↓] theorem iS_ap {n:Int}:iS (.v (.a (.int n))) = some n:=rfl
@[simp,simp ↓] theorem opII_ap {g:Int → Int → V} {m n:Int}:opII g Γ (.v (.a (.int m))) (.v (.a (.int n))) = some (.v (.a (g m n))):=rfl
@[simp,simp ↓] theorem opII_t1 {g:Int → Int → V} {xs:List T} {b:S}:opII g Γ (.v (.t xs)) b = none:=rfl
@[simp,simp ↓] theorem opII_l1 {g:Int → Int → V} {xs:List T} {b:S}:opII g Γ (.l xs) b = none:=rfl
@[simp,simp ↓] theorem opII_s1 {g:Int → Int → V} {n:Nat} {b:S}:opII g Γ (.s n) b = none:=rfl
@[simp,simp ↓] theorem opII_str1 {g:Int → Int → V} {z:Str} {b:S}:opII g Γ (.v (.a (.str z))) b = none:=rfl
@[simp,simp ↓] theorem addS_ii {m n:Int}:addS Γ (.v (.a (.int m))) (.v (.a (.int n))) = some (.v (.a (.int (m + n)))):=rfl
@[simp] theorem addS_tt {xs ys:List T}:addS Γ (.v (.t xs)) (.v (.t ys)) = gd (xs.length + ys.length) (.v (.t (xs ++ ys))):=by
 show ((none:Option S).or ((addTup Γ (.v (.t xs)) (.v (.t ys))).or ((none:Option S).or none))) = _
 simp [addTup]
@[simp] theorem addS_l {xs:List T} {b:S}:addS Γ (.l xs) b = addLst Γ (.l xs) b:=by
 show ((none:Option S).or ((none:Option S).or ((addLst Γ (.l xs) b).or none))) = _
 simp
@[simp,simp ↓] theorem addLst_ap {a b:S}:addLst Γ a b = bnd (lsOf Γ a) (f:=⟨fun xs=>bnd (lsOf Γ b) (f:=⟨fun ys=>gd (xs.length + ys.length) (.l (xs ++ ys))⟩)⟩):=rfl
@[simp,simp ↓] theorem subS_ii {m n:Int}:subS Γ (.v (.a (.int m))) (.v (.a (.int n))) = some (.v (.a (.int (m - n)))):=rfl
@[simp] theorem mulS_ii {m n:Int}:mulS Γ (.v (.a (.int m))) (.v (.a (.int n))) = if CMul m n then some (.v (.a (.int (m * n)))) else none:=by
 show ((if CMul m n then some _ else none).or (none:Option S)) = _
 simp
@[simp] theorem modS_ii {m n:Int}:modS Γ (.v (.a (.int m))) (.v (.a (.int n))) = if 0 < n then some (.v (.a (.int (m % n)))) else none:=(rfl)
@[simp] theorem fdivS_ii {m n:Int}:fdivS Γ (.v (.a (.int m))) (.v (.a (.int n))) = if CDiv m n then some (.v (.a (.int (m / n)))) else none:=(rfl)
@[simp] theorem powS_ii {m n:Int}:powS Γ (.v (.a (.int m))) (.v (.a (.int n))) = if CPow m n then some (.v (.a (.int (m ^ n.toNat)))) else none:=(rfl)
@[simp,simp ↓] theorem ltS_ii {m n:Int}:ltS Γ (.v (.a (.int m))) (.v (.a (.int n))) = some (.v (.a (.bl (decide (m < n))))):=rfl
@[simp,simp ↓] theorem leS_ii {m n:Int}:leS Γ (.v (.a (.int m))) (.v (.a (.int n))) = some (.v (.a (.bl (decide (m ≤ n))))):=rfl
@[simp,simp ↓] theorem gtS_ii {m n:Int}:gtS Γ (.v (.a (.int m))) (.v (.a (.int n))) = some (.v (.a (.bl (decide (n < m))))):=rfl
@[simp,simp ↓] theorem geS_ii {m n:Int}:geS Γ (.v (.a (.int m))) (.v (.a (.int n))) = some (.v (.a (.bl (decide (n ≤ m))))):=rfl
@[simp,simp ↓] theorem negS_i {m:Int}:negS Γ (.v (.a (.int m))) = some (.v (.a (.int (-m)))):=rfl
@[simp,simp ↓] theorem ixS_t {xs:List T} {n:Int}:ixS Γ (.v (.t xs)) (.v (.a (.int n))) = omp (atI xs n) (f:=⟨.v⟩):=rfl
@[simp,simp ↓] theorem ixS_l {xs:List T} {n:Int}:ixS Γ (.l xs) (.v (.a (.int n))) = omp (atI xs n) (f:=⟨.v⟩):=rfl
@[simp,simp ↓] theorem ixS_s {m:Nat} {n:Int}:ixS Γ (.s m) (.v (.a (.int n))) = bnd (sqlOf Γ (.s m)) (f:=⟨fun xs=>omp (atI xs n) (f:=⟨.v⟩)⟩):=rfl
@[simp,simp ↓] theorem sqlOf_s {m:Nat}:sqlOf Γ (.s m) = match ixL Γ m with
  | some (some (.l xs))=>some xs
  | some (some (.r xs))=>some xs
  | some (some (.k xs))=>some xs
  | _=>none:=rfl
@[simp,simp ↓] theorem sqlOf_l {xs:List T}:sqlOf Γ (.l xs) = some xs:=rfl
@[simp,simp ↓] theorem lsOf_l {xs:List T}:lsOf Γ (.l xs) = some xs:=rfl
@[simp,simp ↓] theorem lsOf_s {m:Nat}:lsOf Γ (.s m) = match ixL Γ m with
  | some (some (.l xs))=>some xs
  | some (some (.r xs))=>some xs
  | _=>none:=rfl
@[simp,simp ↓] theorem lenS_t {xs:List T}:lenS Γ [.v (.t xs)] = some (.v (.a (.int xs.length))):=rfl
@[simp,simp ↓] theorem lenS_l {xs:List T}:lenS Γ [.l xs] = some (.v (.a (.int xs.length))):=rfl
@[simp,simp ↓] theorem lenS_s {m:Nat}:lenS Γ [.s m] = omp (sqlOf Γ (.s m)) (f:=⟨fun xs=>.v (.a (.int xs.length))⟩):=rfl
@[simp,simp ↓] theorem listS_t {xs:List T}:listS Γ [.v (.t xs)] = some (.l xs):=rfl
@[simp,simp ↓] theorem listS_s {m:Nat}:listS Γ [.s m] = omp (sqlOf Γ (.s m)) (f:=⟨.l⟩):=rfl
@[simp,simp ↓] theorem listS_l {xs:List T}:listS Γ [.l xs] = some (.l xs):=rfl
@[simp,simp ↓] theorem tupleS_t {xs:List T}:tupleS Γ [.v (.t xs)] = some (.v (.t xs)):=rfl
@[simp,simp ↓] theorem tupleS_l {xs:List T}:tupleS Γ [.l xs] = some (.v (.t xs)):=rfl
@[simp,simp ↓] theorem tupleS_s {m:Nat}:tupleS Γ [.s m] = omp (sqlOf Γ (.s m)) (f:=⟨fun xs=>.v (.t xs)⟩):=rfl
@[simp,simp ↓] theorem dNoPart_ap:dNoPart Γ = some (none,Γ):=rfl
@[simp,simp ↓] theorem dPart_ap:dPart fa Γ = bnd (fa Γ) (f:=⟨fun p=>omp (iS p.1) (f:=⟨fun i=>(some i,p.2)⟩)⟩):=rfl
@[simp,simp ↓] theorem dSl_ap {lo hi:DO}:dSl fa lo hi Γ = bnd (fa Γ) (f:=⟨fun p=>bnd (lo p.2) (f:=⟨fun l=>bnd (hi l.2) (f:=⟨fun h=>omp (slS h.2 l.1 h.1 p.1) (f:=⟨fun s=>(s,h.2)⟩)⟩)⟩)⟩):=rfl
@[simp,simp ↓] theorem slS_t {xs:List T} {lo hi:Option Int}:slS Γ lo hi (.v (.t xs)) = some (.v (.t (cutT xs lo hi))):=rfl
@[simp,simp ↓] theorem slS_l {xs:List T} {lo hi:Option Int}:slS Γ lo hi (.l xs) = some (.l (cutT xs lo hi)):=rfl
@[simp,simp ↓] theorem slS_s {m:Nat} {lo hi:Option Int}:slS Γ lo hi (.s m) = omp (sqlOf Γ (.s m)) (f:=⟨fun xs=>.l (cutT xs lo hi)⟩):=rfl
@[simp,simp ↓] theorem hAppend_v {xs:List T} {t:T}:hAppend Γ xs [.v t] = if xs.length < sizeLine then some (.a .non,xs ++ [t]) else none:=rfl
@[simp,simp ↓] theorem hPop_0 {xs:List T}:hPop Γ xs [] = omp (xs[xs.length - 1]?) (f:=⟨fun t=>(t,xs.dropLast)⟩):=rfl
@[simp] theorem hPopAt_i {xs:List T} {n:Int}:hPopAt Γ xs [.v (.a (.int n))] = if inR 9223372036854775807 n = true then bnd (seqIndex? n xs.length) (f:=⟨fun k=>omp (xs[k]?) (f:=⟨fun t=>(t,xs.eraseIdx k)⟩)⟩) else none:=rfl
@[simp,simp ↓] theorem intS_i {n:Int}:intS Γ [.v (.a (.int n))] = some (.v (.a (.int n))):=rfl
@[simp,simp ↓] theorem intS_b {b:Bool}:intS Γ [.v (.a (.bl b))] = some (.v (.a (.int (if b then 1 else 0)))):=rfl
@[simp,simp ↓] theorem max2S_ii {m n:Int}:max2S Γ [.v (.a (.int m)),.v (.a (.int n))] = some (.v (.a (.int (if n > m then n else m)))):=rfl
@[simp,simp ↓] theorem min2S_ii {m n:Int}:min2S Γ [.v (.a (.int m)),.v (.a (.int n))] = some (.v (.a (.int (if n < m then n else m)))):=rfl
@[simp] theorem dIndex_ap {fo:DE}:dIndex fo da Γ = bnd (fo Γ) (f:=⟨fun p=>bnd (da p.2) (f:=⟨fun q=>match p.1,q.1 with
 | .v (.t xs),[.v (.a y)]=>bnd (atomsOf xs) (f:=⟨fun vs=>if flatV y = true ∧ vs.all flatV = true then omp (vs.findIdx? fun z=>eqV z y) (f:=⟨fun j=>(mkI (j:Nat),q.2)⟩) else none⟩)
 | _,_=>none⟩)⟩):=rfl
@[simp,simp ↓] theorem mkI_ap {n:Int}:mkI n = .v (.a (.int n)):=rfl
@[simp,simp ↓] theorem mkB_ap {b:Bool}:mkB b = .v (.a (.bl b)):=rfl
@[simp] theorem dListRng_ap:dListRng da Γ = bnd (da Γ) (f:=⟨fun p=>omp (rngS p.1) (f:=⟨fun xs=>(.l xs,p.2)⟩)⟩):=rfl
@[simp] theorem dTupRng_ap:dTupRng da Γ = bnd (da Γ) (f:=⟨fun p=>omp (rngS p.1) (f:=⟨fun xs=>(.v (.t xs),p.2)⟩)⟩):=rfl
theorem rngS_nat (n:Nat) (h:n ≤ 100000):rngS [.v (.a (.int (n:Int)))] = some (rngT 0 n):=by
 unfold rngS
 dsimp only
 rw [inR_nat (by omega),Int.toNat_natCast,Bool.true_and,Nat.ble_eq_true_of_le (Nat.le_trans h (by decide)),if_pos rfl]
@[simp] theorem dRng1_ap:dRng1 da Γ = (da Γ).bind fun p=>if p.1.length = 1 then (rngS p.1).map fun xs=>((xs,[]),p.2) else none:=by
 unfold dRng1
 congr 1
 funext p
 obtain ⟨as,G⟩:=p
 match as with
 | []=>rfl
 | [a] =>
  match a with
  | .v (.a (.int j))=>simp only [rngS,List.length_singleton,if_true]; split <;> rfl
  | .v (.a .non)=>rfl
  | .v (.a (.bl _))=>rfl
  | .v (.a (.str _))=>rfl
  | .v (.a (.byt _))=>rfl
  | .v (.a (.flt _))=>rfl
  | .v (.a (.ref _))=>rfl
  | .v (.a (.ty _))=>rfl
  | .v (.t _)=>rfl
  | .v (.l _)=>rfl
  | .v (.f _)=>rfl
  | .v (.x _ _)=>rfl
  | .v (.m _ _)=>rfl
  | .l _=>rfl
  | .s _=>rfl
  | .d _=>rfl
 | a :: b :: r =>
  have:¬ (a :: b :: r).length = 1:=by simp
  rw [if_neg this]
  dsimp only
  split
  ·rename_i h; simp at h
  ·rfl
@[simp,simp ↓] theorem dSeqI_ap:dSeqI fa Γ = bnd (fa Γ) (f:=⟨fun p=>bnd (seqS p.2 p.1) (f:=⟨fun xs=>gd xs.length ((xs,srcS p.2 p.1),p.2)⟩)⟩):=rfl
@[simp,simp ↓] theorem seqS_t {xs:List T}:seqS Γ (.v (.t xs)) = some xs:=rfl
@[simp,simp ↓] theorem seqS_l {xs:List T}:seqS Γ (.l xs) = some xs:=rfl
@[simp,simp ↓] theorem seqS_s {m:Nat}:seqS Γ (.s m) = sqlOf Γ (.s m):=rfl
@[simp,simp ↓] theorem srcS_v {t:T}:srcS Γ (.v t) = []:=rfl
@[simp,simp ↓] theorem srcS_l {t:List T}:srcS Γ (.l t) = []:=rfl
@[simp,simp ↓] theorem srcS_s {m:Nat}:srcS Γ (.s m) = match ixL Γ m with | some (some (.l _))=>[m] | _=>[]:=rfl
@[simp,simp ↓] theorem dYes_ap:dYes Γ = some (true,Γ):=rfl
@[simp,simp ↓] theorem dTru_ap:dTru fa Γ = bnd (fa Γ) (f:=⟨fun p=>omp (truS p.2 p.1) (f:=⟨fun b=>(b,p.2)⟩)⟩):=rfl
@[simp,simp ↓] theorem truS_b {b:Bool}:truS Γ (.v (.a (.bl b))) = some b:=rfl
@[simp,simp ↓] theorem truS_i {n:Int}:truS Γ (.v (.a (.int n))) = some (n != 0):=rfl
@[simp,simp ↓] theorem truS_t {xs:List T}:truS Γ (.v (.t xs)) = some (!xs.isEmpty):=rfl
@[simp,simp ↓] theorem truS_s {m:Nat}:truS Γ (.s m) = omp (sqlOf Γ (.s m)) (f:=⟨fun xs=>!xs.isEmpty⟩):=rfl
@[simp,simp ↓] theorem truS_l {xs:List T}:truS Γ (.l xs) = some (!xs.isEmpty):=rfl
@[simp] theorem dPar2_ap:dPar2 i j da Γ = bnd (da Γ) (f:=⟨fun p=>match p.1 with
  | [.v a,.v b]=>some (.nx ((p.2.set i (some (.v a))).set j (some (.v b))))
  | _=>none⟩):=rfl
@[simp] theorem dPar3_ap:dPar3 i j k da Γ = bnd (da Γ) (f:=⟨fun p=>match p.1 with
  | [.v a,.v b,.v c]=>some (.nx (((p.2.set i (some (.v a))).set j (some (.v b))).set k (some (.v c))))
  | _=>none⟩):=rfl
@[simp,simp ↓] theorem dUnp_ap {tg:En → T → Option En}:dUnp tg fa Γ = bnd (fa Γ) (f:=⟨fun p=>bnd p.1.tree (f:=⟨fun t=>omp (tg p.2 t) (f:=⟨.nx⟩)⟩)⟩):=rfl
@[simp,simp ↓] theorem gdName_ap {t:T}:gdName i Γ t = some (Γ.set i (some (.v t))):=rfl
@[simp,simp ↓] theorem gdNil_ap:gdNil Γ [] = some Γ:=rfl
@[simp,simp ↓] theorem gdCons_ap {p:En → T → Option En} {q:En → List T → Option En} {t:T} {r:List T}:gdCons p q Γ (t :: r) = bnd (p Γ t) (f:=⟨fun Γ1=>q Γ1 r⟩):=rfl
@[simp,simp ↓] theorem gdTup_b {q:En → List T → Option En} {ts:List T}:gdTup i q Γ (.t ts) = ifN ts.length i (q Γ ts) none:=rfl
@[simp,simp ↓] theorem dCall_b {ip:Option Nat} {F:DF}:dCall ip F [] da Γ = bnd (da Γ) (f:=⟨fun p=>ifB (onceS ip p.1) (x:=⟨(bnd (argsG ip p.2 0 (apE p.1)) (f:=⟨fun gs=>omp (F gs) (f:=⟨fun q=>(toS q.1,backS ip p.2 p.1 q.2)⟩)⟩))⟩) (y:=⟨none⟩)⟩):=rfl
@[simp,simp ↓] theorem argsG_nil {ip:Option Nat}:argsG ip Γ k [] = some []:=rfl
@[simp high,simp ↓ high] theorem argsG_c0 {ip:Option Nat} {s:S} {r:List S}:argsG ip Γ 0 (s :: r) = bnd (argG ip Γ 0 s) (f:=⟨fun g=>omp (argsG ip Γ 1 r) (f:=⟨fun gs=>g :: gs⟩)⟩):=rfl
@[simp high,simp ↓ high] theorem argsG_c1 {ip:Option Nat} {s:S} {r:List S}:argsG ip Γ 1 (s :: r) = bnd (argG ip Γ 1 s) (f:=⟨fun g=>omp (argsG ip Γ 2 r) (f:=⟨fun gs=>g :: gs⟩)⟩):=rfl
@[simp high,simp ↓ high] theorem argsG_c2 {ip:Option Nat} {s:S} {r:List S}:argsG ip Γ 2 (s :: r) = bnd (argG ip Γ 2 s) (f:=⟨fun g=>omp (argsG ip Γ 3 r) (f:=⟨fun gs=>g :: gs⟩)⟩):=rfl
@[simp high,simp ↓ high] theorem argsG_c3 {ip:Option Nat} {s:S} {r:List S}:argsG ip Γ 3 (s :: r) = bnd (argG ip Γ 3 s) (f:=⟨fun g=>omp (argsG ip Γ 4 r) (f:=⟨fun gs=>g :: gs⟩)⟩):=rfl
@[simp high,simp ↓ high] theorem argsG_c4 {ip:Option Nat} {s:S} {r:List S}:argsG ip Γ 4 (s :: r) = bnd (argG ip Γ 4 s) (f:=⟨fun g=>omp (argsG ip Γ 5 r) (f:=⟨fun gs=>g :: gs⟩)⟩):=rfl
@[simp high,simp ↓ high] theorem argsG_c5 {ip:Option Nat} {s:S} {r:List S}:argsG ip Γ 5 (s :: r) = bnd (argG ip Γ 5 s) (f:=⟨fun g=>omp (argsG ip Γ 6 r) (f:=⟨fun gs=>g :: gs⟩)⟩):=rfl
@[simp high,simp ↓ high] theorem argsG_c6 {ip:Option Nat} {s:S} {r:List S}:argsG ip Γ 6 (s :: r) = bnd (argG ip Γ 6 s) (f:=⟨fun g=>omp (argsG ip Γ 7 r) (f:=⟨fun gs=>g :: gs⟩)⟩):=rfl
@[simp high,simp ↓ high] theorem argsG_c7 {ip:Option Nat} {s:S} {r:List S}:argsG ip Γ 7 (s :: r) = bnd (argG ip Γ 7 s) (f:=⟨fun g=>omp (argsG ip Γ 8 r) (f:=⟨fun gs=>g :: gs⟩)⟩):=rfl
@[simp,simp ↓] theorem argsG_cons {ip:Option Nat} {s:S} {r:List S}:argsG ip Γ k (s :: r) = bnd (argG ip Γ k s) (f:=⟨fun g=>omp (argsG ip Γ (k + 1) r) (f:=⟨fun gs=>g :: gs⟩)⟩):=rfl
@[simp,simp ↓] theorem argG_v {ip:Option Nat} {t:T}:argG ip Γ k (.v t) = some (.v t):=rfl
@[simp,simp ↓] theorem argG_lb {ip:Option Nat} {xs:List T}:argG ip Γ k (.l xs) = some (ifO ip k (.l xs) (.r xs)):=rfl
@[simp,simp ↓] theorem argG_s {ip:Option Nat} {m:Nat}:argG ip Γ k (.s m) = match ixL Γ m with
  | some (some (.l xs))=>some (ifO ip k (.l xs) (.r xs))
  | some (some (.r xs))=>ifO ip k none (some (.r xs))
  | some (some (.k xs))=>ifO ip k none (some (.k xs))
  | some (some (.d xs))=>ifO ip k none (some (.e xs))
  | some (some (.e xs))=>ifO ip k none (some (.e xs))
  | _=>none:=rfl
@[simp,simp ↓] theorem argG_d {ip:Option Nat} {xs:Dk}:argG ip Γ k (.d xs) = if ip = some k then none else some (.e xs):=rfl
@[simp,simp ↓] theorem setS_d {xs:Dk}:setS i (.d xs) Γ = some (Γ.set i (some (.d xs))):=rfl
@[simp,simp ↓] theorem isSl_d {xs:Dk}:isSl i (.d xs) = false:=rfl
@[simp,simp ↓] theorem isTmp_d {xs:Dk}:isTmp (.d xs) = false:=rfl
@[simp,simp ↓] theorem toS_d {xs:Dk}:toS (.d xs) = .d xs:=rfl
@[simp,simp ↓] theorem resG_d {ip:Option Nat} {xs:Dk}:resG ip Γ (.d xs) = some (.d xs):=rfl
@[simp,simp ↓] theorem onceS_n {ss:List S}:onceS none ss = true:=rfl
@[simp high,simp ↓ high] theorem onceS_0s {r:List S}:onceS (some 0) (.s i :: r) = r.all fun s=>!isSl i s:=rfl
@[simp high,simp ↓ high] theorem nsl_n:(List.all ([]:List S) fun s=>!isSl i s) = true:=rfl
@[simp high,simp ↓ high] theorem nsl_v {t:T} {r:List S}:(List.all (.v t :: r) fun s=>!isSl i s) = r.all fun s=>!isSl i s:=rfl
@[simp high,simp ↓ high] theorem nsl_l {t:List T} {r:List S}:(List.all (.l t :: r) fun s=>!isSl i s) = r.all fun s=>!isSl i s:=rfl
@[simp,simp ↓] theorem onceS_s {ss:List S}:onceS (some k) ss = match ixL ss k with
  | some (.s i)=>(ss.eraseIdx k).all fun s=>!isSl i s
  | some (.l _)=>(ss.eraseIdx k).all fun s=>!isTmp s
  | _=>false:=rfl
@[simp,simp ↓] theorem isSl_v {t:T}:isSl i (.v t) = false:=rfl
@[simp,simp ↓] theorem isSl_l {t:List T}:isSl i (.l t) = false:=rfl
@[simp,simp ↓] theorem isSl_s:isSl i (.s j) = (j == i):=rfl
@[simp,simp ↓] theorem isTmp_v {t:T}:isTmp (.v t) = false:=rfl
@[simp,simp ↓] theorem isTmp_s:isTmp (.s j) = false:=rfl
@[simp,simp ↓] theorem backS_n {ss:List S} {ys:List T}:backS none Γ ss ys = Γ:=rfl
@[simp high,simp ↓ high] theorem backS_0 {r:List S} {ys:List T}:backS (some 0) Γ (.s i :: r) ys = Γ.set i (some (.l ys)):=rfl
@[simp,simp ↓] theorem backS_s {ss:List S} {ys:List T}:backS (some k) Γ ss ys = match ixL ss k with | some (.s i)=>Γ.set i (some (.l ys)) | _=>Γ:=rfl
@[simp,simp ↓] theorem toS_v {t:T}:toS (.v t) = .v t:=rfl
@[simp,simp ↓] theorem toS_l {t:List T}:toS (.l t) = .l t:=rfl
@[simp,simp ↓] theorem outl_n:outl none Γ = []:=rfl
@[simp,simp ↓] theorem outl_s:outl (some k) Γ = match ixL Γ k with | some (some (.l xs))=>xs | _=>[]:=rfl
@[simp,simp ↓] theorem resG_v {ip:Option Nat} {t:T}:resG ip Γ (.v t) = some (.v t):=rfl
@[simp,simp ↓] theorem resG_l {ip:Option Nat} {t:List T}:resG ip Γ (.l t) = some (.l t):=rfl
@[simp,simp ↓] theorem resG_s {ip:Option Nat}:resG ip Γ (.s i) = if ip = some i then none else match ixL Γ i with | some (some (.l xs))=>some (.l xs) | some (some (.d xs))=>some (.d xs) | _=>none:=rfl
@[simp,simp ↓] theorem reprS_v {t:T}:reprS Γ [.v t] = bnd (toD t) (f:=⟨fun d=>if d.showable = true ∧ d.hasDict = false ∧ d.depth ≤ 100 ∧ d.shown.length ≤ sizeLine then some (.v (.a (.str d.shown))) else none⟩):=rfl
@[simp,simp ↓] theorem allS_l {xs:List T}:allS Γ [.l xs] = omp (boolsOf xs) (f:=⟨fun bs=>.v (.a (.bl (bs.all id)))⟩):=rfl
end
theorem atI_nat' {α:Type} {xs:List α} {n:Nat}:atI xs (n:Int) = xs[n]?:=by
 unfold atI ixN
 rw [if_pos (Int.natCast_nonneg n)]
 by_cases h:n < xs.length
 ·rw [if_pos (by omega)]; simp
 ·rw [if_neg (by omega),List.getElem?_eq_none (by omega)]; rfl
@[simp] theorem atI_0 {α:Type} {xs:List α}:atI xs 0 = xs[0]?:=atI_nat' (n:=0)
@[simp] theorem atI_1 {α:Type} {xs:List α}:atI xs 1 = xs[1]?:=atI_nat' (n:=1)
@[simp] theorem atI_2 {α:Type} {xs:List α}:atI xs 2 = xs[2]?:=atI_nat' (n:=2)
theorem line_big {n:Nat} (h:n ≤ 100000):n ≤ sizeLine:=Nat.le_trans h (by decide)
end D
set_option Elab.async false
set_option linter.all false
set_option maxRecDepth 100000
set_option maxHeartbeats 4000000
namespace D
open PySem L2
@[simp] noncomputable abbrev iT (n:Int):T:=.a (.int n)
@[simp] noncomputable abbrev bT (b:Bool):T:=.a (.bl b)
theorem atI_ints (ns:List Int) {i:Int} (h0:0 ≤ i) (h1:i < ns.length):∃ z,atI (intsT ns) i = some (iT z):=by
 obtain ⟨j,rfl⟩:∃ j:Nat,i = j:=⟨i.toNat,by omega⟩
 exact ⟨ns[j]'(by omega),by rw [atI_nat',intsT,List.getElem?_map,List.getElem?_eq_getElem (by omega)]; rfl⟩
theorem dWhile_succ {c:DT} {b:DS} {n:Nat} {Γ:En}:dWhile c b (n + 1) Γ = (c Γ).bind fun p=>if p.1 = true then (b p.2).bind fun o=>match o with
   | .nx Γ'=>dWhile c b n Γ'
   | .ct Γ'=>dWhile c b n Γ'
   | .bk Γ'=>some (.nx Γ')
   | .rt s Γ'=>some (.rt s Γ')
  else some (.nx p.2):=(rfl)
theorem forD_nil {tg:En → T → Option En} {b:DS} {Γ:En}:forD tg b [] Γ = some (.nx Γ):=(rfl)
theorem forD_cons {tg:En → T → Option En} {b:DS} {t:T} {r:List T} {Γ:En}:forD tg b (t :: r) Γ = (tg Γ t).bind fun Γ1=>(b Γ1).bind fun o=>match o with
  | .nx Γ'=>forD tg b r Γ'
  | .ct Γ'=>forD tg b r Γ'
  | .bk Γ'=>some (.nx Γ')
  | .rt s Γ'=>some (.rt s Γ'):=(rfl)
theorem compD_nil {tg:En → T → Option En} {dc:DT} {de:DE} {Γ:En}:compD tg dc de [] Γ = some ([],Γ):=(rfl)
theorem compD_cons {tg:En → T → Option En} {dc:DT} {de:DE} {t:T} {r:List T} {Γ:En}:compD tg dc de (t :: r) Γ = (tg Γ t).bind fun Γ1=>(dc Γ1).bind fun p=>if p.1 = true then (de p.2).bind fun q=>q.1.tree.bind fun t'=>(compD tg dc de r q.2).map fun z=>(t' :: z.1,z.2) else compD tg dc de r p.2:=(rfl)
@[simp,simp ↓] theorem dComp_n {ix:List (Option Nat)} {di:DI} {tg:En → T → Option En} {dc:DT} {de:DE} {Γ:En}:dComp none ix di tg dc de Γ = bnd (di Γ) (f:=⟨fun p=>omp (compD tg dc de p.1.1 (pick none ix p.2)) (f:=⟨fun z=>(.l z.1,p.2)⟩)⟩):=rfl
@[simp,simp ↓] theorem dComp_sb {i j:Nat} {ix:List (Option Nat)} {di:DI} {tg:En → T → Option En} {dc:DT} {de:DE} {Γ:En}:dComp (some (j,i)) ix di tg dc de Γ = bnd (di Γ) (f:=⟨fun p=>ifM i p.1.2 none (match ixL p.2 i with
  | some (some (.l _))=>omp (compD tg dc de p.1.1 (pick (some i) ix p.2)) (f:=⟨fun z=>(.l z.1,cback (some (j,i)) p.2 z.2)⟩)
  | _=>none)⟩):=rfl
@[simp,simp ↓] theorem dFor_b {ip:Option Nat} {di:DI} {tg:En → T → Option En} {b:DS} {Γ:En}:dFor ip di tg b Γ = bnd (di Γ) (f:=⟨fun p=>ifB (p.1.2.all fun i=>decide (ip ≠ some i)) (x:=⟨(forD tg b p.1.1 (frz p.2 p.1.2))⟩) (y:=⟨none⟩)⟩):=rfl
@[simp,simp ↓] theorem frz_nil {Γ:En}:frz Γ [] = Γ:=rfl
@[simp,simp ↓] theorem frz_cons {Γ:En} {i:Nat} {r:List Nat}:frz Γ (i :: r) = frz (frz1 Γ i) r:=rfl
@[simp,simp ↓] theorem pick_nil {mu:Option Nat} {Γ:En}:pick mu [] Γ = []:=rfl
@[simp,simp ↓] theorem pick_n {mu:Option Nat} {ix:List (Option Nat)} {Γ:En}:pick mu (none :: ix) Γ = none :: pick mu ix Γ:=rfl
@[simp,simp ↓] theorem pick_s {mu:Option Nat} {k:Nat} {ix:List (Option Nat)} {Γ:En}:pick mu (some k :: ix) Γ = pick1 mu k (ixL Γ k).join :: pick mu ix Γ:=rfl
@[simp,simp ↓] theorem pick1_v {mu:Option Nat} {k:Nat} {t:T}:pick1 mu k (some (.v t)) = some (.v t):=rfl
@[simp,simp ↓] theorem pick1_r {mu:Option Nat} {k:Nat} {t:List T}:pick1 mu k (some (.r t)) = some (.r t):=rfl
@[simp,simp ↓] theorem pick1_d {mu:Option Nat} {k:Nat} {t:Dk}:pick1 mu k (some (.d t)) = some (.e t):=rfl
@[simp,simp ↓] theorem pick1_e {mu:Option Nat} {k:Nat} {t:Dk}:pick1 mu k (some (.e t)) = some (.e t):=rfl
@[simp,simp ↓] theorem pick1_k {mu:Option Nat} {k:Nat} {t:List T}:pick1 mu k (some (.k t)) = some (.k t):=rfl
@[simp,simp ↓] theorem pick1_lb {mu:Option Nat} {k:Nat} {t:List T}:pick1 mu k (some (.l t)) = ifO mu k (some (.l t)) (some (.r t)):=rfl
@[simp,simp ↓] theorem pick1_n {mu:Option Nat} {k:Nat}:pick1 mu k none = none:=rfl
@[simp,simp ↓] theorem cback_s {j i:Nat} {Γ Γo:En}:cback (some (j,i)) Γ Γo = match ixL Γo j with | some (some (.l xs))=>Γ.set i (some (.l xs)) | _=>Γ:=rfl
@[simp] theorem eqS_ii {Γ:En} {m n:Int}:eqS Γ (.v (.a (.int m))) (.v (.a (.int n))) = some (.v (.a (.bl (decide (m = n))))):=by
 show ((some (mkB (decide (V.int m = V.int n)))).or _) = _
 simp
@[simp] theorem neS_ii {Γ:En} {m n:Int}:neS Γ (.v (.a (.int m))) (.v (.a (.int n))) = some (.v (.a (.bl (!decide (m = n))))):=by
 show ((some (mkB (!decide (V.int m = V.int n)))).or _) = _
 simp
@[simp] theorem eqS_ss {Γ:En} {m n:Str}:eqS Γ (.v (.a (.str m))) (.v (.a (.str n))) = some (.v (.a (.bl (decide (m = n))))):=by
 show ((some (mkB (decide (V.str m = V.str n)))).or _) = _
 simp
@[simp] theorem eqS_bb {Γ:En} {m n:Bool}:eqS Γ (.v (.a (.bl m))) (.v (.a (.bl n))) = some (.v (.a (.bl (decide (m = n))))):=by
 show ((some (mkB (decide (V.bl m = V.bl n)))).or _) = _
 simp
@[simp] theorem neS_bb {Γ:En} {m n:Bool}:neS Γ (.v (.a (.bl m))) (.v (.a (.bl n))) = some (.v (.a (.bl (!decide (m = n))))):=by
 show ((some (mkB (!decide (V.bl m = V.bl n)))).or _) = _
 simp
@[simp] noncomputable abbrev tvT (t:List Nat):List T:=t.map fun (k:Nat)=>iT (k:Int)
@[simp] noncomputable abbrev tuT (t:List Nat):T:=.t (tvT t)
structure IsT (n:Nat) (t:List Nat):Prop where
 len:t.length = n
 lt:∀ k ∈ t,k < n
 nd:t.Nodup
theorem IsT.get {n:Nat} {t:List Nat} (h:IsT n t) {i:Nat} (hi:i < n):∃ k,t[i]? = some k ∧ k < n:=by
 have hl:=h.len
 refine ⟨t[i]'(by omega),by simp,h.lt _ (List.getElem_mem _)⟩
theorem atoms_tv:∀ t:List Nat,atomsOf (tvT t) = some (t.map fun (k:Nat)=>V.int (k:Int))
 | []=>rfl
 | k :: r=>by simp only [tvT,List.map_cons,atomsOf]; rw [show atomsOf (r.map fun (k:Nat)=>iT (k:Int)) = _ from atoms_tv r]; rfl
theorem cut_take (xs:List T) (n:Nat):cutT xs none (some (n:Int)) = xs.take n:=by
 unfold cutT
 rw [HT.sIx_none,HT.sIx_nat,List.drop_zero,Nat.sub_zero]
 by_cases h:n ≤ xs.length
 ·rw [Nat.min_eq_left h]
 ·rw [Nat.min_eq_right (by omega),List.take_of_length_le (Nat.le_refl _),List.take_of_length_le (by omega)]
theorem cut_drop (xs:List T) (n:Nat):cutT xs (some (n:Int)) none = xs.drop n:=by
 unfold cutT
 rw [HT.sIx_none,HT.sIx_nat]
 by_cases h:n ≤ xs.length
 ·rw [Nat.min_eq_left h,List.take_of_length_le (by simp)]
 ·rw [Nat.min_eq_right (by omega),Nat.sub_self,List.take_zero,List.drop_eq_nil_of_le (by omega)]
theorem atI_tv {t:List Nat} {i k:Nat} (h:t[i]? = some k):atI (tvT t) (i:Int) = some (iT (k:Int)):=by
 rw [atI_nat']; simp [h]
noncomputable abbrev Stp:=Nat × List Nat × List Nat
@[simp] noncomputable abbrev stT (s:Stp):T:=.t [iT (s.1:Int),tuT s.2.1,tuT s.2.2]
structure AnsOk (qs:Nat) (as:List Nat):Prop where
 len:as.length = qs
 lt:∀ x ∈ as,x < 2
theorem ans_get {qs:Nat} {as:List Nat} (h:AnsOk qs as) {q:Nat} (hq:q < qs):as[q]? = some (as.getD q 0):=by
 have:=h.len
 rw [List.getD_eq_getElem?_getD,List.getElem?_eq_getElem (by omega)]; rfl
end D
namespace D
open PySem L2
@[simp] noncomputable abbrev prT (p:T × T):T:=.t [p.1,p.2]
end D
namespace D
open PySem L2
noncomputable def intsD (t:List Nat):List PyData:=t.map fun (k:Nat)=>PyData.int (k:Int)
theorem toDs_tv:∀ t:List Nat,toDs (tvT t) = some (intsD t)
 | []=>by simp [toDs,intsD]
 | k :: r=>by
  have:=toDs_tv r
  simp only [tvT,iT,List.map_cons] at this ⊢
  rw [toDs,this]
  simp [toD,toDa,intsD]
theorem canLay_ints:∀ t:List Nat,PyData.canLayAll0 (intsD t) = true
 | []=>by simp [intsD,PyData.canLayAll0]
 | k :: r=>by
  have:=canLay_ints r
  simp only [intsD,List.map_cons] at this ⊢
  simp [PyData.canLayAll0,PyData.canLay0,this]
theorem depth_ints:∀ t:List Nat,PyData.depthAll (intsD t) = 0
 | []=>by simp [intsD,PyData.depthAll]
 | k :: r=>by
  have:=depth_ints r
  simp only [intsD,List.map_cons] at this ⊢
  simp [PyData.depthAll,PyData.depth,this]
end D
set_option Elab.async false
set_option linter.all false
set_option maxRecDepth 100000
set_option maxHeartbeats 4000000
namespace L2
open PySem PySem.Spec PyProof.Rows
section
variable {X:Cx} {pins:List (Addr × Obj)} {s:Shared} {σ:St} {H:Hp} {p:Addr} {vs:List V}
theorem iter_seq {Q:Value → Shared → Prop} {E:Value → Shared → Prop} (hc:X.calm = true) (I:Inv X pins σ H s) (hq:SqL X.K H p vs ∨ SqT X.K H p vs)
  (h:∀ (its:List Value) (o:Obj) (St:Nat → Heap → Prop),Vals vs its → Walks X.prog X.w X.A.in1 s.heap.objs.size [s.heap.objs.size,p] [s.heap.objs.size] its.length (fun i v=>its[i]? = some v) St →
   St 0 (s.heap.push o) → p < s.heap.objs.size → Q (.ref s.heap.objs.size) { s with heap:=s.heap.push o }):wpAny (model X.prog X.w) X.A.in1 (pyIter (.ref p)) Q E s:=by
 rcases hq with hq | hq
 ·obtain ⟨its,rv,pl,hz⟩:=I.list hq
  have hl:=pl.isList
  have hlt:p < s.heap.objs.size:=by obtain ⟨_,e,_⟩:=hl; exact Heap.lt_size e
  refine wpAny_pyIter_list hl ?_
  have W:=Walks.list (prog:=X.prog) (w:=X.w) (A:=X.A.in1) (I.ok.hd hc) s.heap.objs.size p (Nat.ne_of_lt hlt) its.toArray
  have W':Walks X.prog X.w X.A.in1 s.heap.objs.size [s.heap.objs.size,p] [s.heap.objs.size] its.length (fun i v=>its[i]? = some v) (fun i h=>h.IsListIter s.heap.objs.size p i ∧ h.IsList p its.toArray):=by simpa using W
  exact h its _ _ rv W' ⟨⟨_,Heap.get?_push_size _ rfl,rfl,rfl⟩,hl.push _⟩ hlt
 ·obtain ⟨its,rv,hl,hz⟩:=I.tuple hq
  have hlt:p < s.heap.objs.size:=by obtain ⟨_,e,_⟩:=hl; exact Heap.lt_size e
  have hl':s.heap.IsTuple p its.toArray:=by obtain ⟨o,e,c,n,d⟩:=hl; exact ⟨o,e,c,n,d⟩
  refine wpAny_pyIter_tuple hl' ?_
  have W:=Walks.tuple (prog:=X.prog) (w:=X.w) (A:=X.A.in1) (I.ok.hd hc) s.heap.objs.size p (Nat.ne_of_lt hlt) its.toArray
  have W':Walks X.prog X.w X.A.in1 s.heap.objs.size [s.heap.objs.size,p] [s.heap.objs.size] its.length (fun i v=>its[i]? = some v) (fun i h=>h.IsTupleIter s.heap.objs.size p i ∧ h.IsTuple p its.toArray):=by simpa using W
  exact h its _ _ rv W' ⟨⟨_,Heap.get?_push_size _ rfl,rfl,rfl⟩,hl'.push _⟩ hlt
theorem ints_at {ns:List Int}:∀ {its:List Value},Vals (ns.map V.int) its → ∀ (i:Nat) v,its[i]? = some v → ∃ t,v = .int (ns.getD i 0) t:=by
 induction ns with
 | nil=>intro its h; cases h; intro i v e; simp at e
 | cons n r ih =>
  intro its h
  cases h with
  | cons h1 h2 =>
   intro i v e
   obtain ⟨t,rfl⟩:=h1
   cases i with
   | zero=>simp at e; exact ⟨t,e.symm⟩
   | succ i=>simpa using ih h2 i v (by simpa using e)
theorem call_sumS (hc:X.calm = true):CallR X (.builtin "sum") (fun xs H Q=>∃ (p:Addr) (ns:List Int),xs = [.ref p] ∧ (SqL X.K H p (ns.map V.int) ∨ SqT X.K H p (ns.map V.int)) ∧ Q (.int ns.sum) H):=by
 intro pins s σ H xs us Q I r h
 obtain ⟨p,ns,rfl,hq,q⟩:=h
 obtain ⟨u,rfl,rx⟩:=vals1 r
 cases rx
 refine call_sum_walkG (iter_seq hc I hq fun its o St rv W st0 hlt=>?_)
 refine ⟨_,_,_,_,_,_,fun i=>ns.getD i 0,rfl,W,st0,fun b hb=>?_,ints_at rv,fun h' tk t' hk=>?_⟩
 ·rw [Heap.size_push]
  simp only [List.mem_cons,List.not_mem_nil,or_false] at hb
  rcases hb with rfl | rfl
  ·exact Nat.lt_succ_self _
  ·exact Nat.lt_succ_of_lt hlt
 ·have hl:=rv.length
  rw [preSum_getD,List.take_of_length_le (by rw [← hl]; simp)]
  exact ⟨.int ns.sum,H,I.kept (LSm.kept_iter hk),⟨_,rfl⟩,q⟩
noncomputable def minI:List Int → Int
 | []=>0
 | x :: r=>r.foldl (fun a b=>if b < a then b else a) x
noncomputable def maxI:List Int → Int
 | []=>0
 | x :: r=>r.foldl (fun a b=>if a < b then b else a) x
theorem minI_spec:∀ (r:List Int) (x:Int),(r.foldl (fun a b=>if b < a then b else a) x ∈ x :: r) ∧ ∀ y ∈ x :: r,r.foldl (fun a b=>if b < a then b else a) x ≤ y
 | [],x=>by simp
 | z :: r,x=>by
  obtain ⟨h1,h2⟩:=minI_spec r (if z < x then z else x)
  rw [List.foldl_cons]
  refine ⟨?_,fun y hy=>?_⟩
  ·rcases List.mem_cons.mp h1 with e | e
   ·rw [e]; split <;> simp
   ·simp [e]
  ·have h0:=h2 _ List.mem_cons_self
   rcases List.mem_cons.mp hy with e | e
   ·subst e; split at h0 <;> (split <;> omega)
   ·rcases List.mem_cons.mp e with e | e
    ·subst e; split at h0 <;> (split <;> omega)
    ·exact h2 y (List.mem_cons_of_mem _ e)
theorem maxI_spec:∀ (r:List Int) (x:Int),(r.foldl (fun a b=>if a < b then b else a) x ∈ x :: r) ∧ ∀ y ∈ x :: r,y ≤ r.foldl (fun a b=>if a < b then b else a) x
 | [],x=>by simp
 | z :: r,x=>by
  obtain ⟨h1,h2⟩:=maxI_spec r (if x < z then z else x)
  rw [List.foldl_cons]
  refine ⟨?_,fun y hy=>?_⟩
  ·rcases List.mem_cons.mp h1 with e | e
   ·rw [e]; split <;> simp
   ·simp [e]
  ·have h0:=h2 _ List.mem_cons_self
   rcases List.mem_cons.mp hy with e | e
   ·subst e; split at h0 <;> (split <;> omega)
   ·rcases List.mem_cons.mp e with e | e
    ·subst e; split at h0 <;> (split <;> omega)
    ·exact h2 y (List.mem_cons_of_mem _ e)
theorem best_min (val:Nat → Int):∀ k,argBest (fun i j=>decide (val i < val j)) k ≤ k ∧ ∀ j,j ≤ k → val (argBest (fun i j=>decide (val i < val j)) k) ≤ val j
 | 0=>⟨Nat.le_refl _,fun j hj=>by rw [Nat.le_zero.mp hj]; exact Int.le_refl _⟩
 | k + 1=>by
  obtain ⟨h1,h2⟩:=best_min val k
  unfold argBest
  split
  ·rename_i h; simp at h
   refine ⟨Nat.le_refl _,fun j hj=>?_⟩
   by_cases e:j = k + 1
   ·rw [e]; exact Int.le_refl _
   ·have:=h2 j (by omega); omega
  ·rename_i h; simp at h
   refine ⟨by omega,fun j hj=>?_⟩
   by_cases e:j = k + 1
   ·rw [e]; exact h
   ·exact h2 j (by omega)
theorem best_max (val:Nat → Int):∀ k,argBest (fun i j=>decide (val i > val j)) k ≤ k ∧ ∀ j,j ≤ k → val j ≤ val (argBest (fun i j=>decide (val i > val j)) k)
 | 0=>⟨Nat.le_refl _,fun j hj=>by rw [Nat.le_zero.mp hj]; exact Int.le_refl _⟩
 | k + 1=>by
  obtain ⟨h1,h2⟩:=best_max val k
  unfold argBest
  split
  ·rename_i h; have h:=of_decide_eq_true h
   refine ⟨Nat.le_refl _,fun j hj=>?_⟩
   by_cases e:j = k + 1
   ·rw [e]; exact Int.le_refl _
   ·have:=h2 j (by omega); omega
  ·rename_i h; have h:=fun z=>h (decide_eq_true z)
   refine ⟨by omega,fun j hj=>?_⟩
   by_cases e:j = k + 1
   ·rw [e]; exact Int.not_lt.mp h
   ·exact h2 j (by omega)
theorem getD_memI {ns:List Int} {i:Nat} (h:i < ns.length):ns.getD i 0 ∈ ns:=by
 rw [List.getD_eq_getElem?_getD,List.getElem?_eq_getElem h]; exact List.getElem_mem h
theorem mem_getDI {ns:List Int} {a:Int} (h:a ∈ ns):∃ i,i < ns.length ∧ ns.getD i 0 = a:=by
 obtain ⟨i,hi,e⟩:=List.getElem_of_mem h
 exact ⟨i,hi,by rw [List.getD_eq_getElem?_getD,List.getElem?_eq_getElem hi,e]; rfl⟩
end
end L2
namespace D
open PySem L2
noncomputable def sumS:En → List S → Option S:=fun Γ as=>match as with
 | [a]=>(seqS Γ a).bind fun xs=>(intsOf xs).map fun ns=>.v (.a (.int ns.sum))
 | _=>none
noncomputable def min1S:En → List S → Option S:=fun Γ as=>match as with
 | [a]=>(seqS Γ a).bind fun xs=>(intsOf xs).bind fun ns=>if 0 < ns.length then some (.v (.a (.int (minI ns)))) else none
 | _=>none
noncomputable def max1S:En → List S → Option S:=fun Γ as=>match as with
 | [a]=>(seqS Γ a).bind fun xs=>(intsOf xs).bind fun ns=>if 0 < ns.length then some (.v (.a (.int (maxI ns)))) else none
 | _=>none
noncomputable def anyS:En → List S → Option S:=fun Γ as=>match as with
 | [a]=>(sqlOf Γ a).bind fun xs=>(boolsOf xs).map fun bs=>.v (.a (.bl (bs.any id)))
 | _=>none
theorem seq_ints {K:Fg} {C:Fr} {w:W} {Γ:En} {σ:St} {H:Hp} {x:V} {s:S} {xs:List T} {ns:List Int} (R:Rep K C w Γ σ H) (o:SOk K C w σ H x s) (e:seqS Γ s = some xs) (e2:intsOf xs = some ns) :
  ∃ p,x = .ref p ∧ (SqL K H p (ns.map V.int) ∨ SqT K H p (ns.map V.int)):=by
 obtain ⟨p,us,rfl,h1,i1⟩:=seq_ok R o e
 have hu:us = ns.map V.int:=by rw [intsOf_eq e2] at i1; exact i1.of_atoms
 subst hu
 exact ⟨p,rfl,h1⟩
theorem simRs_sum {K:Fg}:SimRs K (fun xs H Q=>∃ (p:Addr) (ns:List Int),xs = [.ref p] ∧ (SqL K H p (ns.map V.int) ∨ SqT K H p (ns.map V.int)) ∧ Q (.int ns.sum) H) sumS:=by
 intro C w Γ σ H vs as s Q R o e k
 unfold sumS at e
 split at e
 ·obtain ⟨xs,e1,e⟩:=bind_some e
  obtain ⟨ns,e2,e⟩:=map_some e
  cases e
  obtain ⟨v,rfl,o1⟩:=soks1 o
  obtain ⟨p,rfl,h⟩:=seq_ints R o1 e1 e2
  exact ⟨p,ns,rfl,h,k _ H R .refl SOk.atom trivial⟩
 ·cases e
section
variable {ι:Type} {K:Fg} {X:ι → Cx} {mg:Str → Option Value} {k:Nat}
theorem br_sum (M:Fm K mg k X):CalR K X (.builtin "sum") sumS:=⟨_,fun j=>by have:=call_sumS (M.calm j); rw [M.K j] at this; exact this,simRs_sum⟩
end
section
variable {Γ:En}
@[simp] theorem sumS_ap {a:S}:sumS Γ [a] = bnd (seqS Γ a) (f:=⟨fun xs=>omp (intsOf xs) (f:=⟨fun ns=>.v (.a (.int ns.sum))⟩)⟩):=rfl
@[simp,simp ↓] theorem min1S_ap {a:S}:min1S Γ [a] = bnd (seqS Γ a) (f:=⟨fun xs=>bnd (intsOf xs) (f:=⟨fun ns=>if 0 < ns.length then some (.v (.a (.int (minI ns)))) else none⟩)⟩):=rfl
@[simp,simp ↓] theorem max1S_ap {a:S}:max1S Γ [a] = bnd (seqS Γ a) (f:=⟨fun xs=>bnd (intsOf xs) (f:=⟨fun ns=>if 0 < ns.length then some (.v (.a (.int (maxI ns)))) else none⟩)⟩):=rfl
@[simp,simp ↓] theorem anyS_ap {a:S}:anyS Γ [a] = bnd (sqlOf Γ a) (f:=⟨fun xs=>omp (boolsOf xs) (f:=⟨fun bs=>.v (.a (.bl (bs.any id)))⟩)⟩):=rfl
end
end D
set_option Elab.async false
set_option linter.all false
set_option maxRecDepth 100000
set_option maxHeartbeats 4000000
namespace D
open PySem L2
noncomputable def dK (t:T):DE:=fun Γ=>some (.v t,Γ)
section
variable {Γ:En}
@[simp,simp ↓] theorem dK_ap {t:T}:dK t Γ = some (.v t,Γ):=rfl
end
end D
set_option Elab.async false
set_option linter.all false
set_option maxRecDepth 100000
set_option maxHeartbeats 4000000
namespace D
open PySem L2
end D
set_option Elab.async false
set_option linter.all false
set_option maxRecDepth 100000
set_option maxHeartbeats 4000000
namespace D
open PySem L2
open PySem.SeqAt
theorem readsAll_at {h:Heap}:∀ {vs:List Value} {ds:List PyData} {as:List Addr},ReadsAll h vs ds as → ∀ (i:Nat) (v:Value),vs[i]? = some v → ∃ d as',ds[i]? = some d ∧ Reads h v d as':=by
 intro vs ds as r
 induction ds generalizing vs as with
 | nil =>
  intro i v e
  cases r
  simp at e
 | cons d ds ih =>
  intro i v e
  cases r with
  | cons r1 r2 =>
   cases i with
   | zero=>simp at e; subst e; exact ⟨d,_,rfl,r1⟩
   | succ i=>simpa using ih r2 i v (by simpa using e)
theorem layAll_at:∀ {ds:List PyData},PyData.canLayAll0 ds = true → ∀ (i:Nat) (d:PyData),ds[i]? = some d → d.canLay0 = true
 | [],_,i,d,e=>by simp at e
 | x :: r,h,i,d,e=>by
  simp only [PyData.canLayAll0,Bool.and_eq_true] at h
  cases i with
  | zero=>simp at e; subst e; exact h.1
  | succ i=>exact layAll_at h.2 i d (by simpa using e)
noncomputable def eqOf (h:Heap) (dx:PyData) (y:Value):Bool:=@decide (∃ d as,Reads h y d as ∧ d.canLay0 = true ∧ PyData.eqv d dx = true) (Classical.propDecidable _)
theorem eqOf_is {h:Heap} {dx d:PyData} {y:Value} {as:List Addr} (r:Reads h y d as) (c:d.canLay0 = true):eqOf h dx y = PyData.eqv d dx:=by
 unfold eqOf
 cases e:PyData.eqv d dx with
 | true=>exact @decide_eq_true _ (Classical.propDecidable _) ⟨d,as,r,c,e⟩
 | false =>
  refine @decide_eq_false _ (Classical.propDecidable _) ?_
  rintro ⟨d',as',r',c',e'⟩
  have:=Reads.unique d d' y as as' c r r'
  subst this
  rw [e] at e'; cases e'
noncomputable def rLFind (K:Fg) (g:List PyData → PyData → Option Int):V → List V → Hp → VK → Prop:=fun x vs H Q=>∃ p us y ts t ds d j,x = .ref p ∧ vs = [y] ∧ SqL K H p us ∧ Ims K H us ts ∧ toDs ts = some ds ∧ Im K H y t ∧ toD t = some d ∧ PyData.canLayAll0 ds = true ∧ d.canLay0 = true ∧ d.depth ≤ 100 ∧ g ds d = some j ∧ Q (.int j) H
noncomputable def gCount (ds:List PyData) (d:PyData):Option Int:=some ((ds.countP fun z=>PyData.eqv z d:Nat):Int)
section
variable {X:Cx} {k:Nat}
theorem eq_each {pins:List (Addr × Obj)} {σ:St} {H:Hp} {s:Shared} {y:V} {v:Value} {its:List Value} {us:List V} {ts:List T} {t:T} {ds:List PyData} {d:PyData} (hr:Room k X.A) (I:Inv X pins σ H s) (rv:Vals us its) (hi:Ims X.K H us ts) (e1:toDs ts = some ds) (ry:RelV y v) (hy:Im X.K H y t) (e2:toD t = some d) (c1:PyData.canLayAll0 ds = true) (c2:d.canLay0 = true) (dp:d.depth ≤ 100) :
  (∀ u,u ∈ its.toArray → EqAt X.A.in1 s u v (eqOf s.heap d u)) ∧ ∀ (i:Nat) u,its[i]? = some u → ∃ z,ds[i]? = some z ∧ eqOf s.heap d u = PyData.eqv z d:=by
 obtain ⟨as1,ra⟩:=readsAll_of I hi rv e1
 obtain ⟨as2,rx⟩:=reads_of I hy ry e2
 have each:∀ (i:Nat) u,its[i]? = some u → ∃ z as,ds[i]? = some z ∧ Reads s.heap u z as ∧ z.canLay0 = true:=fun i u e=>by
  obtain ⟨z,as,e3,r3⟩:=readsAll_at ra i u e
  exact ⟨z,as,e3,r3,layAll_at c1 i z e3⟩
 refine ⟨fun u hu=>?_,fun i u e=>?_⟩
 ·obtain ⟨i,hi',rfl⟩:=List.getElem_of_mem (List.mem_toArray.mp hu)
  obtain ⟨z,as,e3,r3,c3⟩:=each i its[i] (by simp [hi'])
  rw [eqOf_is r3 c3]
  exact eqAt_reads z d X.A.in1 s _ v as as2 r3 rx c3 c2 (by have:=hr.un; show X.A.units + 1 + min z.depth d.depth < cLine; omega)
 ·obtain ⟨z,as,e3,r3,c3⟩:=each i u e
  exact ⟨z,e3,eqOf_is r3 c3⟩
theorem mt_lcount (hr:Room k X.A):MtM X "list.count" (rLFind X.K gCount):=by
 intro pins s σ H x vs v us Q I rx rv h
 obtain ⟨p,ws,y,ts,t,ds,d,j,rfl,rfl,hq,hi,e1,hy,e2,c1,c2,dp,eg,q⟩:=h
 cases rx
 obtain ⟨u,rfl,ru⟩:=rv.one
 obtain ⟨its,rw',⟨⟨cls,dd,data,sl⟩,n,ho,hc,hdd,hd⟩,hz⟩:=I.list hq
 simp only at hc hd hdd
 subst hc hd
 cases eg
 obtain ⟨E1,E2⟩:=eq_each hr I rw' hi e1 ru hy e2 c1 c2 dp
 obtain ⟨as3,ra3⟩:=readsAll_of I hi rw' e1
 have hl3:=ReadsAll.length ds its as3 ra3
 have cnt:∀ (a:List Value) (b:List PyData),a.length = b.length → (∀ (i:Nat) u,a[i]? = some u → ∃ z,b[i]? = some z ∧ eqOf s.heap d u = PyData.eqv z d) → a.countP (eqOf s.heap d) = b.countP fun z=>PyData.eqv z d:=by
  intro a
  induction a with
  | nil=>intro b hb _; rw [List.length_eq_zero_iff.mp hb.symm]; rfl
  | cons x r ih =>
   intro b hb hh
   cases b with
   | nil=>cases hb
   | cons z b =>
    obtain ⟨z',ez,e⟩:=hh 0 x rfl
    cases ez
    rw [List.countP_cons,List.countP_cons,e,ih b (by simpa using hb) fun i u hu=>by simpa using hh (i + 1) u (by simpa using hu)]
 refine call_meets PySem.F.slot_list_count ⟨_,ho,rfl⟩ PySem.F.entry_list_count (PySem.F.args_list_count_2 _ _) (list_countAt p its.toArray n dd sl u (eqOf s.heap d)) ⟨ho,E1,?_⟩
 rw [show its.toArray.toList = its from rfl,cnt its ds hl3 E2]
 exact ⟨.int _,H,I.tok _,⟨_,rfl⟩,q⟩
end
noncomputable def dLFind (g:List PyData → PyData → Option Int) (fo:DE) (fa:DA):DE:=fun Γ=>(fo Γ).bind fun p=>if (sqlOf p.2 p.1).isSome = true then (fa p.2).bind fun q=>match q.1 with
 | [.v t]=>(sqlOf q.2 p.1).bind fun ts=>(toDs ts).bind fun ds=>(toD t).bind fun d=>if PyData.canLayAll0 ds = true ∧ d.canLay0 = true ∧ d.depth ≤ 100 then (g ds d).map fun j=>(mkI j,q.2) else none
 | _=>none
 else none
theorem sim_lfind {K:Fg} {g:List PyData → PyData → Option Int} {to:TE} {ta:TA} {fo:DE} {fa:DA} (ho:SimE K to fo) (ha:SimA K ta fa):SimE K (tBM K "list" (rLFind K g) to ta) (dLFind g fo fa):=by
 intro C w Γ σ H s Γ' Q R e k
 obtain ⟨⟨a,G1⟩,e1,e⟩:=bind_some e
 dsimp only at e
 split at e
 rotate_left
 ·cases e
 rename_i hs0
 obtain ⟨ts0,hs0⟩:=Option.isSome_iff_exists.mp hs0
 obtain ⟨⟨as,G2⟩,e2,e⟩:=bind_some e
 dsimp only at e
 split at e
 rotate_left
 ·cases e
 rename_i t
 obtain ⟨ts,e3,e⟩:=bind_some e
 obtain ⟨ds,e4,e⟩:=bind_some e
 obtain ⟨d,e5,e⟩:=bind_some e
 split at e
 rotate_left
 ·cases e
 rename_i hh
 obtain ⟨j,e6,e⟩:=map_some e
 cases e
 refine ho C w Γ σ H a G1 _ R e1 fun v H1 R1 ev1 o1 n1=>?_
 obtain ⟨p0,vs0,rfl,q0,_⟩:=sql_ok R1 o1 hs0
 refine ⟨.inl ⟨rfl,vs0,q0⟩,?_⟩
 refine ha C w G1 σ H1 [.v t] _ _ R1 e2 fun us H2 R2 ev2 o2 n2=>?_
 obtain ⟨y,rfl,oy⟩:=soks1 o2
 obtain ⟨p1,vs1,ep,q1,i1⟩:=sql_ok R2 (o1.evo ev2 R1.lst) e3
 cases ep
 exact ⟨p0,vs1,y,ts,t,ds,d,j,rfl,rfl,q1,i1,e4,oy,e5,hh.1,hh.2.1,hh.2.2,e6,k _ H2 R2 (ev1.trans ev2) SOk.atom trivial⟩
section
variable {ι:Type} {K:Fg} {mg:Str → Option Value} {k:Nat} {X:ι → Cx} {o e:Expr} {es:List Expr} {fa:DE} {da:DA}
theorem ex_lfind {g:List PyData → PyData → Option Int} {name:Str} {id:String} {apos cpos:Pos} (M:Fm K mg k X) (slot:Slot "list" name id) (hty:typeOf (.builtin id) = pure (.type "method_descriptor")) (hm:∀ j,MtM (X j) id (rLFind (X j).K g)) (ho:EX K X o fa) (ha:AX K X (e :: es) da)
  (hbase:∀ j,attributeBase o name (X j).env (eval o (X j).env) = eval o (X j).env:=by intro _; rfl)
  (hfew:∀ j,((backTo cpos (starEach (e :: es) (X j).env)).all (fun x=>!x.1) && (backToKw cpos (keywordEach [] (X j).env)).all (fun x=>x.1.isSome) && decide ((e :: es).length + ([]:List Keyword).length + (if ([]:List Keyword).isEmpty then 0 else 1) < 30)) = true:=by intro _; rfl)
  (hline:(apos.endLine == cpos.line) = true:=by rfl) (hs:∀ j,starEach (e :: es) (X j).env = (false,eval e (X j).env) :: starEach es (X j).env:=by intro _; rfl) (hplain:∀ j,(backTo cpos (starEach es (X j).env)).any (·.1) = false:=by intro _; rfl) :
  EX K X (.Call (.Attribute o name apos) (e :: es) [] cpos) (dLFind g fa da) :=
 let ⟨t0,q0,u0⟩:=ho; let ⟨t,q,u⟩:=ha
 ⟨tBM K "list" (rLFind K g) t0 t,fun j=>by have:=pe_bm PySem.F.plainAttrs_list slot hty (hm j) (q0 j) (q j) (hbase j) (hfew j) hline (hs j) (hplain j); rw [M.K j] at this; exact this,sim_lfind u0 u⟩
@[simp] theorem dLFind_ap {g:List PyData → PyData → Option Int} {fo:DE} {fa:DA} {Γ:En}:dLFind g fo fa Γ = (fo Γ).bind fun p=>if (sqlOf p.2 p.1).isSome = true then (fa p.2).bind fun q=>match q.1 with
 | [.v t]=>(sqlOf q.2 p.1).bind fun ts=>(toDs ts).bind fun ds=>(toD t).bind fun d=>if PyData.canLayAll0 ds = true ∧ d.canLay0 = true ∧ d.depth ≤ 100 then (g ds d).map fun j=>(mkI j,q.2) else none
 | _=>none
 else none:=(rfl)
end
end D
set_option Elab.async false
set_option linter.all false
set_option maxRecDepth 100000
set_option maxHeartbeats 4000000
namespace D
open PySem L2
noncomputable def dParLL (i j:Nat):DS:=fun Γ=>some (.nx ((Γ.set i (some (.l []))).set j (some (.l []))))
section
variable {ι:Type} {K:Fg} {mg:Str → Option Value} {k:Nat} {X:ι → Cx} {ip:Option Nat} {pos:Pos}
@[simp,simp ↓] theorem dParLL_ap {i j:Nat} {Γ:En}:dParLL i j Γ = some (.nx ((Γ.set i (some (.l []))).set j (some (.l [])))):=rfl
end
end D
set_option Elab.async false
set_option linter.all false
set_option maxRecDepth 100000
set_option maxHeartbeats 4000000
namespace D
open PySem L2
end D
set_option Elab.async false
set_option linter.all false
set_option maxRecDepth 100000
set_option maxHeartbeats 4000000
namespace L2
open PySem PySem.Spec PyProof.Rows
theorem kV_is {P:Program} {w:World} {k:Key} {u:Value} (r:RelV (kV k) u):(mixKind P w).is k u = true:=by
 cases k with
 | inl i=>obtain ⟨t,e⟩:=(show ∃ t,u = Value.int i t from r); subst e; exact mixKind_int P w i t
 | inr x=>obtain ⟨t,e⟩:=(show ∃ t,u = Value.str x t from r); subst e; exact mixKind_str P w x t
noncomputable def NoSl (i:Expr):Prop:=∀ ov iv,subscripted i false ov iv = operate [ov,iv] (getItem ov iv)
theorem subD_of {prog:Program} {w:World} {A:Around} {E:Value → Shared → Prop} {s:Shared} {env:Env} {value slice:Expr} {pos:Pos} {T id:String} {Q:Value → Shared → Prop}
  (hl:typeLookup (.type T) "__getitem__" = pure (some (.builtin id))) (hs:NoSl slice)
  (h:wpAny (model prog w) A (eval value env) (fun o s₁=>wpAny (model prog w) A (eval slice env) (fun i s₂=>s₂.TypeIs o T ∧ wpAny (model prog w) A (getItem o i) Q E s₂) E s₁) E s) :
  wpAny (model prog w) A (eval (.Subscript value slice pos) env) Q E s:=by
 refine Subscript_ (wpAny_mono h (fun o s₁ h₁=>wpAny_mono h₁ (fun i s₂ h₂=>?_) fun _ _ x=>x) fun _ _ x=>x)
 obtain ⟨hT,h₂⟩:=h₂
 unfold subscriptTail
 refine wpAny_bind ?_
 rw [getitemInPython_of_ne hT.not_modules]
 refine wpAny_bind (wpAny_specialOf hT hl ?_)
 have fin:wpAny (model prog w) A (subscripted slice false o i) (fun r s₃=>wpAny (model prog w) A (letTemporaryGo value o r >>= fun _=>pure r) Q E s₃) E s₂:=by
  rw [hs o i]
  exact wpAny_operating (wpAny_mono h₂ (fun r s₃ h₃=>wpAny_bind (wpAny_letTemporaryGo (wpAny_pure h₃))) fun _ _ x=>x)
 first
  | exact wpAny_pure (wpAny_bind fin)
  | exact wpAny_bind (wpAny_pure (wpAny_bind fin))
  | exact wpAny_bind fin
noncomputable abbrev VV:List (V × V) → List (Value × Value) → Prop:=Paired fun p q=>RelV p.1 q.1 ∧ RelV p.2 q.2
end L2
set_option Elab.async false
set_option linter.all false
set_option maxRecDepth 100000
set_option maxHeartbeats 4000000
set_option Elab.async false
set_option linter.all false
set_option maxRecDepth 100000
set_option maxHeartbeats 4000000
namespace D
open PySem L2
end D
set_option Elab.async false
set_option linter.all false
set_option maxRecDepth 100000
set_option maxHeartbeats 4000000
set_option Elab.async false
set_option linter.all false
set_option maxRecDepth 100000
set_option maxHeartbeats 4000000
set_option Elab.async false
set_option linter.all false
set_option maxRecDepth 100000
set_option maxHeartbeats 4000000
set_option Elab.async false
set_option linter.all false
set_option maxRecDepth 100000
set_option maxHeartbeats 4000000
namespace D
open PySem L2
end D
set_option Elab.async false
set_option linter.all false
set_option maxRecDepth 100000
set_option maxHeartbeats 4000000
namespace L2
open PySem PySem.W PyProof.Rows
section
variable {n:Nat} (h0:0 < n)
include h0
end
end L2
set_option Elab.async false
set_option linter.all false
set_option maxRecDepth 100000
set_option maxHeartbeats 4000000
set_option Elab.async false
set_option linter.all false
set_option maxRecDepth 100000
set_option maxHeartbeats 4000000
set_option Elab.async false
set_option linter.all false
set_option maxRecDepth 100000
set_option maxHeartbeats 4000000
set_option Elab.async false
set_option linter.all false
set_option maxRecDepth 100000
set_option maxHeartbeats 4000000
set_option Elab.async false
set_option linter.all false
set_option maxRecDepth 100000
set_option maxHeartbeats 4000000
set_option Elab.async false
set_option linter.all false
set_option maxRecDepth 100000
set_option maxHeartbeats 4000000
set_option Elab.async false
set_option linter.all false
set_option maxRecDepth 100000
set_option maxHeartbeats 4000000
namespace D
open PySem L2 PyProof.Rows
noncomputable def asTI:T → Option (List Int)
 | .t xs=>intsOf xs
 | _=>none
end D
set_option Elab.async false
set_option linter.all false
set_option maxRecDepth 100000
set_option maxHeartbeats 4000000
set_option Elab.async false
set_option linter.all false
set_option maxRecDepth 100000
set_option maxHeartbeats 4000000
set_option Elab.async false
set_option linter.all false
set_option maxRecDepth 100000
set_option maxHeartbeats 4000000
set_option Elab.async false
set_option linter.all false
set_option maxRecDepth 100000
set_option maxHeartbeats 4000000
set_option Elab.async false
set_option linter.all false
set_option maxRecDepth 100000
set_option maxHeartbeats 4000000
set_option Elab.async false
set_option linter.all false
set_option maxRecDepth 100000
set_option maxHeartbeats 4000000
set_option Elab.async false
set_option linter.all false
set_option maxRecDepth 100000
set_option maxHeartbeats 4000000
set_option Elab.async false
set_option linter.all false
set_option maxRecDepth 100000
set_option maxHeartbeats 4000000
namespace D
open PySem L2
end D
set_option Elab.async false
set_option linter.all false
set_option maxRecDepth 100000
set_option maxHeartbeats 4000000
namespace D
open PySem L2
end D
set_option Elab.async false
set_option linter.all false
set_option maxRecDepth 100000
set_option maxHeartbeats 4000000
namespace D
open PySem L2
noncomputable def ltTS:En → S → S → Option S:=fun _ a b=>match a,b with
 | .v s,.v t=>(asTI s).bind fun ns=>(asTI t).map fun ms=>mkB (HT.lexLt ns ms)
 | _,_=>none
section
variable {ι:Type} {K:Fg} {X:ι → Cx} {mg:Str → Option Value} {k:Nat} {Γ:En}
@[simp,simp ↓] theorem ltTS_ap {s t:T}:ltTS Γ (.v s) (.v t) = bnd (asTI s) (f:=⟨fun ns=>omp (asTI t) (f:=⟨fun ms=>mkB (HT.lexLt ns ms)⟩)⟩):=rfl
end
end D
set_option Elab.async false
set_option linter.all false
set_option Elab.async false
set_option linter.all false
set_option maxRecDepth 100000
set_option maxHeartbeats 4000000
set_option Elab.async false
set_option linter.all false
set_option maxRecDepth 100000
set_option maxHeartbeats 4000000
set_option Elab.async false
set_option linter.all false
set_option maxRecDepth 100000
set_option maxHeartbeats 4000000
namespace D
open PySem L2
end D
set_option Elab.async false
set_option linter.all false
set_option maxRecDepth 100000
set_option maxHeartbeats 4000000
namespace D
open PySem L2
example (P:Program) (w:World):(mixKind P w).hash (.inl 1) = 1 ∧ (mixKind P w).hash (.inl 2) = 2:=⟨by rfl,by rfl⟩
end D
set_option Elab.async false
set_option linter.all false
set_option maxRecDepth 100000
set_option maxHeartbeats 4000000
namespace D
open PySem L2
end D
set_option Elab.async false
set_option linter.all false
set_option maxRecDepth 100000
set_option maxHeartbeats 4000000
namespace L2
open PySem PySem.Spec PyProof.Rows PySem.W
structure Kds (prog:Program) (w:World) (T:String) (r d:Addr) (n:Nat) (P:Nat → Value → Prop) (St:Nat → Heap → Prop):Prop where
 type:∀ s:Shared,St 0 s.heap → s.TypeIs (.ref r) T
 there:∀ h:Heap,St 0 h → r < h.objs.size ∧ d < h.objs.size
 notList:(Value.type T == Value.type "list") = false
 notTuple:(Value.type T == Value.type "tuple") = false
 hint:∀ (A:Around) (E:Value → Shared → Prop) (s:Shared) (Q:Bool → Shared → Prop),St 0 s.heap → (∀ b tk,Q b { s with toks:=tk }) → wpAny (model prog w) A (Builtin.List.listLengthHint (.ref r)) Q E s
 iter:∀ (A:Around) (E:Value → Shared → Prop) (s:Shared) (Q:Value → Shared → Prop),St 0 s.heap → Q (.ref r) s → wpAny (model prog w) A (pyIter (.ref r)) Q E s
 walks:∀ (A:Around),A.handled = none → Walks prog w A r [r,d] [r] n P St
section
variable {prog:Program} {w:World} {A:Around} {E:Value → Shared → Prop} {s:Shared} {T:String} {r d:Addr} {n:Nat} {P:Nat → Value → Prop} {St:Nat → Heap → Prop}
theorem kds_extend {R:Result → Shared → Prop} (K:Kds prog w T r d n P St) (hh:A.handled = none) (hok:St 0 s.heap) (S:Addr) (hSr:S ≠ r) (hSd:S ≠ d) (res:Value) (c₀:Nat) (hS:s.heap.get? S = some { cls:=.type "list",data:=.seq #[] c₀ })
  (hR:∀ h' tk acc' c',(∀ b o,b ≠ S → b ≠ r → s.heap.get? b = some o → h'.get? b = some o) → h'.get? S = some { cls:=.type "list",dict:=none,data:=.seq acc' c',slots:=#[] } → ItemsOf P acc' n → R (.ok (.ret res)) { s with heap:=h',toks:=tk }) (hn:n ≤ sizeLine) :
  wpAny (model prog w) A.in1 (Builtin.List.listExtendWith (.ref S) (.ref r) res)
   (fun fin s'=>match fin with | .done f=>R (.ok f) s' | .again c'=>c'.quiet = true ∧ codeAny (model prog w) A c' R s') (fun e s'=>R (.error e) s') s:=by
 have hSf:S ∉ [r,d]:=by simp only [List.mem_cons,List.not_mem_nil,or_false,not_or]; exact ⟨hSr,hSd⟩
 have W:=K.walks A.in1 hh
 have key:∀ (h:Heap) (c₁ tk:Nat),St 0 h → (∀ b o,b ≠ S → b ≠ r → s.heap.get? b = some o → h.get? b = some o) →
   h.get? S = some { cls:=.type "list",data:=.seq #[] c₁ } → codeAny (model prog w) A (.builtin "list.extend.loop" ⟨[.ref S,.ref r,res],[]⟩) R { s with heap:=h,toks:=tk }:=by
  intro h c₁ tk hst hk hS₁
  refine codeAny_extend_loopS W.toS hn S hSf res n 0 _ #[] c₁ rfl (Nat.zero_le _) hst hS₁ (ItemsOf.nil _) fun s' acc' c' hm hS' hacc=>?_
  rw [Moved.eq_with hm]
  refine hR s'.heap s'.toks acc' c' (fun b o hb hb2 e=>hm.heap b o (fun hmem=>?_) (hk b o hb hb2 e)) hS' hacc
  rcases List.mem_cons.mp hmem with e' | hmem
  ·exact hb e'
  ·exact hb2 (List.mem_singleton.mp hmem)
 unfold Builtin.List.listExtendWith
 refine wpAny_bind (wpAny_typeOf (T:=T) (K.type s hok) ?_)
 have h1:Builtin.List.listSameRef (.ref S) (.ref r) = false:=by simp [Builtin.List.listSameRef,hSr]
 simp only [h1,K.notList,K.notTuple,Bool.or_false,Bool.false_eq_true,if_false]
 refine wpAny_bind (K.iter _ _ _ _ hok ?_)
 refine wpAny_bind (wpAny_holding (K.hint _ _ _ _ hok fun b tk=>?_))
 refine wpAny_ite_split (fun _=>?_) (fun _=>wpAny_pure ⟨plainId_quiet PySem.F.plain_extend_loop _,key _ c₀ _ hok (fun b o _ _ e=>e) hS⟩)
 refine wpAny_bind (wpAny_rule ?_)
 refine wpAny_bind ?_
 show wpAny _ _ (updateSeq S (·.push .none) >>= fun _=>updateSeq S (·.pop)) _ _ _
 refine wpAny_bind (wpAny_updateSeq hS rfl ?_)
 have hS₂:=Heap.get?_update_self (Obj.mapSeq (·.push Value.none)) hS rfl
 refine wpAny_updateSeq (hz:=by seq_fits) hS₂ rfl ?_
 have hS₃:=Heap.get?_update_self (Obj.mapSeq (·.pop)) hS₂ rfl
 refine wpAny_pure ⟨plainId_quiet PySem.F.plain_extend_loop _,key _ _ _ ?_ (fun b o hb _ e=>?_) hS₃⟩
 ·refine W.frame 0 _ _ hok fun b hb o e=>?_
  have hbS:b ≠ S:=fun h=>hSf (h ▸ hb)
  exact (Heap.get?_update_other _ _ (Ne.symm hbS)).trans ((Heap.get?_update_other _ _ (Ne.symm hbS)).trans e)
 ·exact (Heap.get?_update_other _ _ (Ne.symm hb)).trans ((Heap.get?_update_other _ _ (Ne.symm hb)).trans e)
theorem kds_init {R:Result → Shared → Prop} (K:Kds prog w T r d n P St) (hh:A.handled = none) (hok:St 0 s.heap) (S:Addr) (hSr:S ≠ r) (hSd:S ≠ d) (hS:s.heap.get? S = some { cls:=.type "list",data:=.seq #[] })
  (hR:∀ h' tk acc' c',(∀ b o,b ≠ S → b ≠ r → s.heap.get? b = some o → h'.get? b = some o) → h'.get? S = some { cls:=.type "list",dict:=none,data:=.seq acc' c',slots:=#[] } → ItemsOf P acc' n → R (.ok (.ret .none)) { s with heap:=h',toks:=tk }) (hn:n ≤ sizeLine) :
  wpAny (model prog w) A.in1 (Builtin.«list.__init__» ⟨[.ref S,.ref r],[]⟩)
   (fun fin s'=>match fin with | .done f=>R (.ok f) s' | .again c'=>c'.quiet = true ∧ codeAny (model prog w) A c' R s') (fun e s'=>R (.error e) s') s:=by
 show wpAny _ _ (do let old ← Builtin.List.listItems (.ref S); Builtin.List.listUpdate (.ref S) (fun _=>#[]); letGo old.toList.reverse; Builtin.List.listExtendWith (.ref S) (.ref r) .none) _ _ s
 refine wpAny_bind ?_
 unfold Builtin.List.listItems
 refine wpAny_bind (wpAny_seqItems hS rfl (wpAny_pure ?_))
 show wpAny _ _ (updateSeq S (fun _=>#[]) >>= fun _=>letGo (#[]:Array Value).toList.reverse >>= fun _=>Builtin.List.listExtendWith (.ref S) (.ref r) .none) _ _ s
 refine wpAny_bind (wpAny_updateSeq hS rfl ?_)
 have hS₂:=Heap.get?_update_self (Obj.mapSeq (fun _=>(#[]:Array Value))) hS rfl
 have oth:∀ b o,b ≠ S → s.heap.get? b = some o → (s.heap.update S (Obj.mapSeq (fun _=>(#[]:Array Value)))).get? b = some o :=
  fun b o hb e=>(Heap.get?_update_other _ _ (Ne.symm hb)).trans e
 refine wpAny_bind (wpAny_letGo ?_)
 refine kds_extend K hh ((K.walks A hh).frame 0 _ _ hok fun b hb o e=>oth b o (fun z=>by
  subst z
  simp only [List.mem_cons,List.not_mem_nil,or_false] at hb
  rcases hb with q | q
  ·exact hSr q
  ·exact hSd q) e) S hSr hSd .none _ hS₂ (fun h' tk acc' c' hk hS' hacc=>?_) hn
 exact hR h' tk acc' c' (fun b o hb hb2 e=>hk b o hb hb2 (oth b o hb e)) hS' hacc
theorem kds_call {Q:Value → Shared → Prop} (K:Kds prog w T r d n P St) (hh:A.handled = none) (hok:St 0 s.heap) (hn:n ≤ sizeLine)
  (hQ:∀ h' tk acc' c',(∀ b o,b ≠ r → s.heap.get? b = some o → h'.get? b = some o) → h'.get? s.heap.objs.size = some { cls:=.type "list",dict:=none,data:=.seq acc' c',slots:=#[] } → ItemsOf P acc' n → Q (.ref s.heap.objs.size) { s with heap:=h',toks:=tk }) :
  wpAny (model prog w) A (call (.type "list") [.ref r]) Q E s:=by
 refine callType_codes (Q₁:=fun obj s₁=>obj = .ref s.heap.objs.size ∧ s₁ = { s with heap:=s.heap.push { cls:=.type "list",data:=.seq #[] } }) PySem.F.called_list (PySem.F.typeCall_list_1 _) PySem.F.entry_list_init
  (code_list_new _ ⟨rfl,rfl⟩) fun obj s₁ h₁=>?_
 obtain ⟨rfl,rfl⟩:=h₁
 have hS:(s.heap.push { cls:=.type "list",data:=.seq #[] }).get? s.heap.objs.size = some { cls:=.type "list",data:=.seq #[] }:=Heap.get?_push_size _ rfl
 have hlt:=K.there _ hok
 refine ⟨⟨_,hS,rfl⟩,PySem.F.args_list_init_2 _ _,kds_init (A:=A.in1) K hh ((K.walks A hh).frame 0 _ _ hok fun b _ o e=>Heap.get?_push_of_some _ e) _ (Nat.ne_of_gt hlt.1) (Nat.ne_of_gt hlt.2) hS (fun h' tk acc' c' hk hS' hacc=>?_) hn⟩
 exact ⟨rfl,hQ h' tk acc' c' (fun b o hb e=>hk b o (Nat.ne_of_lt (Heap.lt_size e)) hb (Heap.get?_push_of_some _ e)) hS' hacc⟩
end
section
variable {prog:Program} {w:World} {A:Around} {E:Value → Shared → Prop} {s:Shared}
theorem hint_lri {r:Addr} {Q:Bool → Shared → Prop} (hT:s.TypeIs (.ref r) "list_reverseiterator") (h:Q false s):wpAny (model prog w) A (Builtin.List.listLengthHint (.ref r)) Q E s:=by
 unfold Builtin.List.listLengthHint
 refine wpAny_bind (wpAny_specialOf (r:=none) hT (by rw [typeLookup_type,builtinLookup_eq_fast]; kernel_rfl) ?_)
 wp_delta
 refine wpAny_bind (wpAny_specialOf (r:=some (.builtin "list_reverseiterator.__length_hint__")) hT (by rw [typeLookup_type,builtinLookup_eq_fast]; kernel_rfl) ?_)
 generalize hid:("list_reverseiterator.__length_hint__":String) = id0
 wp_delta
 rw [show splitId id0 = some ("list_reverseiterator","__length_hint__") from by subst hid; decide +kernel]
 subst hid
 refine wpAny_bind (wpAny_isInstance (T:="list_reverseiterator") (b:=true) hT (by rw [isSubtype_type]; kernel_rfl) ?_)
 refine wpAny_ite_split (fun hab=>absurd hab (by decide)) (fun _=>?_)
 refine wpAny_ite_split (fun _=>?_) (fun hab=>absurd (by decide +kernel) hab)
 refine wpAny_ite_split (fun hab=>absurd hab (by decide +kernel)) (fun _=>?_)
 exact wpAny_pure h
theorem rv_hint:Slot "reversed" "__length_hint__" "reversed.__length_hint__" :=
 .of (owner:="reversed") (n:="__length_hint__") (by rw [typeLookup_type,builtinLookup_eq_fast]; kernel_rfl) (by decide +kernel) (by decide +kernel) (by decide +kernel)
  (by first | exact .inl (by decide +kernel) | exact .inr (by decide +kernel)) (by rw [isSubtype_type]; kernel_rfl)
theorem rv_hint_entry:entryFor table "reversed.__length_hint__" = some Builtin.«reversed.__length_hint__»:=entryFor_of_tree (by kernel_rfl)
theorem rv_hint_args (a:Value):argsOk "reversed.__length_hint__" ⟨[a],[]⟩:=by
 unfold argsOk; rw [signature?_of (id:="reversed.__length_hint__") (n:=['_','_','t','n','i','h','_','h','t','g','n','e','l','_','_']) (o:=['d','e','s','r','e','v','e','r']) (by kernel_rfl) rv_owner]; kernel_rfl
theorem hint_rv {r l:Addr} {i:Nat} {xs:Array Value} {Q:Bool → Shared → Prop} (he:IsRv s.heap r l ((i:Int) - 1)) (hl:s.heap.IsTuple l xs) (hz:xs.size ≤ sizeLine) (hi:i ≤ xs.size) (h:∀ b tk,Q b { s with toks:=tk }):wpAny (model prog w) A (Builtin.List.listLengthHint (.ref r)) Q E s:=by
 have hT:s.TypeIs (.ref r) "reversed":=⟨_,he,rfl⟩
 unfold Builtin.List.listLengthHint
 refine wpAny_bind (wpAny_specialOf (r:=none) hT (by rw [typeLookup_type,builtinLookup_eq_fast]; kernel_rfl) ?_)
 wp_delta
 refine wpAny_bind (wpAny_specialOf (r:=some (.builtin "reversed.__length_hint__")) hT (by rw [typeLookup_type,builtinLookup_eq_fast]; kernel_rfl) ?_)
 generalize hid:("reversed.__length_hint__":String) = id0
 wp_delta
 rw [show splitId id0 = some ("reversed","__length_hint__") from by subst hid; decide +kernel]
 subst hid
 refine wpAny_bind (wpAny_isInstance (T:="reversed") (b:=true) hT (by rw [isSubtype_type]; kernel_rfl) ?_)
 refine wpAny_ite_split (fun hab=>absurd hab (by decide)) (fun _=>?_)
 refine wpAny_ite_split (fun hab=>absurd hab (by decide +kernel)) (fun _=>?_)
 refine wpAny_bind (wpAny_rule ?_)
 refine wpAny_bind (wpAny_of_eq (rv_hint.bind _) ?_)
 try dsimp only
 refine wpAny_bind (wpAny_attempt (wpAny_call_entry rv_hint hT rv_hint_entry ?_ (rv_hint_args _)))
 unfold Builtin.«reversed.__length_hint__»
 refine wpAny_bind (wpAny_of_eq (a:=Value.ref r) rfl ?_)
 try dsimp only
 refine wpAny_bind (wpAny_field he rfl (x:=.ref l) rfl ?_)
 have h62:(sizeLine:Int) < 2 ^ 62:=by decide
 refine wpAny_ite_split (fun hab=>absurd (show false = true from hab) (by decide)) (fun _=>?_)
 refine wpAny_bind (len_tuple hl (by have:=hz; rw [sizeLine_eq] at this; omega) ?_)
 refine wpAny_bind (wpAny_of_eq (a:=some (xs.size:Int)) (by first | rfl | kernel_rfl) ?_)
 try dsimp only
 refine wpAny_bind (wpAny_field he rfl (x:=rawInt ((i:Int) - 1)) rfl ?_)
 try dsimp only [rawInt]
 refine wpAny_ite_split (fun hab=>?_) (fun _=>?_)
 ·exact absurd hab (by omega)
 ·unfold retInt
  refine wpAny_bind (wpAny_mkInt ?_)
  refine wpAny_pure ⟨_,rfl,?_⟩
  refine wpAny_bind (wpAny_of_eq (a:=some ((i:Int) - 1 + 1)) (by first | rfl | kernel_rfl) ?_)
  try dsimp only
  have e1:(i:Int) - 1 + 1 = i:=by omega
  rw [e1]
  have e2:Builtin.List.listFitsIndex (i:Int) = true:=by
   unfold Builtin.List.listFitsIndex
   rw [Bool.and_eq_true]
   exact ⟨decide_eq_true (by omega),decide_eq_true (by omega)⟩
  have e3:Builtin.List.listTooLong (i:Int).toNat = false:=by
   unfold Builtin.List.listTooLong
   exact decide_eq_false (by rw [Int.toNat_natCast]; omega)
  rw [if_neg (by rw [e2]; decide),if_neg (by omega),if_neg (by rw [e3]; decide)]
  exact wpAny_pure (h _ _)
end
end L2
set_option Elab.async false
set_option linter.all false
set_option maxRecDepth 100000
set_option maxHeartbeats 4000000
namespace L2
open PySem PySem.Spec PyProof.Rows PySem.W
section
variable {prog:Program} {w:World} {r l:Addr}
theorem kds_list (hne:l ≠ r) (items:Array Value):Kds prog w "list_reverseiterator" r l items.size (fun i v=>items[items.size - 1 - i]? = some v) (fun i h=>i ≤ items.size ∧ h.IsRevIter r l ((items.size:Int) - 1 - (i:Int)) ∧ h.IsList l items) where
 type:=fun s st=>st.2.1.typeIs
 there:=fun h st=>by
  obtain ⟨_,⟨o,e,_⟩,⟨o2,e2,_⟩⟩:=st
  exact ⟨Heap.lt_size e,Heap.lt_size e2⟩
 notList:=by decide
 notTuple:=by decide
 hint:=fun A E s Q st h=>hint_lri st.2.1.typeIs (h false s.toks)
 iter:=fun A E s Q st h=>wpAny_pyIter_revIter st.2.1 h
 walks:=fun A hh=>Walks.listRev hh r l hne items
theorem kds_tup (hne:l ≠ r) (items:Array Value) (hz:items.size ≤ sizeLine):Kds prog w "reversed" r l items.size (fun i v=>items[items.size - 1 - i]? = some v) (fun i h=>i ≤ items.size ∧ IsRv h r l ((items.size:Int) - 1 - (i:Int)) ∧ h.IsTuple l items) where
 type:=fun s st=>⟨_,st.2.1,rfl⟩
 there:=fun h st=>by
  obtain ⟨_,e,⟨o2,e2,_⟩⟩:=st
  exact ⟨Heap.lt_size e,Heap.lt_size e2⟩
 notList:=by decide
 notTuple:=by decide
 hint:=fun A E s Q st h=>by
  have:=st.2.1
  simp only [Int.natCast_zero,Int.sub_zero] at this
  exact hint_rv this st.2.2 hz (Nat.le_refl _) h
 iter:=fun A E s Q st h=>rv_pyIter st.2.1 h
 walks:=fun A hh=>{
  sub:=fun b hb=>by simp at hb; simp [hb]
  frame:=fun i h h' x hk=>⟨x.1,hk r (by simp) _ x.2.1,by
   obtain ⟨o,e,q⟩:=x.2.2
   exact ⟨o,hk l (by simp) _ e,q⟩⟩
  item:=fun i s Q E hi x hQ=>by
   have e:(items.size:Int) - 1 - (i:Int) = ((items.size - 1 - i:Nat):Int):=by omega
   have hit:=x.2.1
   rw [e] at hit
   have hx:items[items.size - 1 - i]? = some (items[items.size - 1 - i]'(by omega)):=Array.getElem?_eq_getElem (by omega)
   refine rv_item hit x.2.2 hz hx fun h' tk hit' hs'=>?_
   have e2:((items.size - 1 - i:Nat):Int) - 1 = (items.size:Int) - 1 - ((i + 1:Nat):Int):=by omega
   rw [e2] at hit'
   refine hQ _ h' tk hx ⟨hi,hit',?_⟩ fun b o hb eo=>hs'.extBut b o (fun h=>hb (by simp [h])) eo
   obtain ⟨o,eo,q⟩:=x.2.2
   exact ⟨o,(hs'.2 l hne).trans eo,q⟩
  done:=fun s Q E x hQ=>by
   have e:(items.size:Int) - 1 - (items.size:Int) = -1:=by omega
   have hit:=x.2.1
   rw [e] at hit
   exact rv_end hh hit fun h' he'=>hQ h' s.toks fun b o hb eo=>he' b o (fun h=>hb (by simp [h])) eo
  self:=fun _ _ _ _ x hQ=>rv_pyIter x.2.1 hQ }
end
theorem rev_items {items:List Value} {acc:Array Value} (h:ItemsOf (fun i v=>items.toArray[items.toArray.size - 1 - i]? = some v) acc items.toArray.size):acc.toList = items.reverse:=by
 have h1:acc.size = items.length:=by have:=h.1; simpa using this
 refine List.ext_getElem? fun i=>?_
 rcases Nat.lt_or_ge i items.length with hi | hi
 ·have hi':i < acc.size:=by omega
  have:=h.2 i acc[i] (by simp [hi'])
  rw [List.getElem?_reverse hi]
  simp only [List.size_toArray,List.getElem?_toArray] at this
  rw [this]
  simp [hi']
 ·rw [List.getElem?_eq_none (by simpa using by omega),List.getElem?_eq_none (by simpa using hi)]
theorem Vals.rev:∀ {xs:List V} {us:List Value},Vals xs us → Vals xs.reverse us.reverse
 | _,_,.nil=>.nil
 | _,_,.cons r t=>by
  simp only [List.reverse_cons]
  exact (Vals.rev t).append (.cons r .nil)
section
variable {X:Cx}
noncomputable def tLRev (K:PySem.W.Frag) (ta:TA):TE:=fun σ H Q=>ta σ H fun vs H1=>∃ (a:Addr) (xs:List V),vs = [.ref a] ∧ (SqL K H1 a xs ∨ SqT K H1 a xs) ∧ ∀ l,H1 l = none → Q (.ref l) (upd H1 l (.lst xs.reverse))
theorem pe_lrev {e1:Expr} {ta:TA} {p0 p1 pos0 pos1:Pos} (hr:X.A.handled = none) (hg0:Gl X "list") (hm0:X.mg "list" = none) (hg1:Gl X "reversed") (hm1:X.mg "reversed" = none) (ha:PA X [e1] ta)
  (hs:starEach [e1] X.env = [(false,eval e1 X.env)]:=by rfl)
  (hs3:starEach [.Call (.Name "reversed" p1) [e1] [] pos1] X.env = [(false,eval (.Call (.Name "reversed" p1) [e1] [] pos1) X.env)]:=by rfl) :
  PE X (.Call (.Name "list" p0) [.Call (.Name "reversed" p1) [e1] [] pos1] [] pos0) (tLRev X.K ta):=by
 intro pins s σ H Q I h
 refine Call_ (ld_blt I hg0 hm0 PyProof.Rows.boot_list (PyProof.Rows.callWith_type1 ?_ hs3 rfl))
 rw [hs3]
 refine Calls.spliced_cons ?_
 refine Call_ (ld_blt I hg1 hm1 boot_reversed (PyProof.Rows.callWith_type1 (thn (ha pos1 pins s σ H _ I h) fun us s1 ⟨vs,H1,I1,r1,q1⟩=>?_) (by rw [hs]; rfl) (by rfl)))
 obtain ⟨a,xs,e,hq,q⟩:=q1
 subst e
 obtain ⟨u1,e,r⟩:=r1.one
 subst e
 cases r
 have fin:∀ (s2:Shared) (its:List Value) (h':Heap) (tk:Nat) (acc:Array Value) (c:Nat),s2.heap.objs.size = s1.heap.objs.size + 1 → s2 = { s1 with heap:=s2.heap,toks:=s2.toks } → (∀ b o,s1.heap.get? b = some o → s2.heap.get? b = some o) → Vals xs its → xs.length ≤ sizeLine →
   (∀ b o,b ≠ s1.heap.objs.size → s2.heap.get? b = some o → h'.get? b = some o) → h'.get? s2.heap.objs.size = some { cls:=.type "list",dict:=none,data:=.seq acc c,slots:=#[] } → acc.toList = its.reverse →
   EP X pins σ Q (.ref s2.heap.objs.size) { s2 with heap:=h',toks:=tk }:=fun s2 its h' tk acc c hz he k12 rv hl kp hS ea=>by
  have kk:∀ b o,s1.heap.get? b = some o → h'.get? b = some o:=fun b o e=>kp b o (Nat.ne_of_lt (Heap.lt_size e)) (k12 b o e)
  have hf:H1 s2.heap.objs.size = none:=I1.hok.fresh (by omega)
  refine ⟨.ref s2.heap.objs.size,upd H1 s2.heap.objs.size (.lst xs.reverse),?_,rfl,q _ hf⟩
  rw [he]
  refine I1.laid (t':=tk) kk (by show s1.heap.objs.size ≤ s2.heap.objs.size; omega) ⟨by simpa using hl,its.reverse,c,rv.rev,?_⟩
  rw [← ea,Array.toArray_toList]
  exact hS
 rcases hq with h1 | h1
 ·obtain ⟨its,rv,pl,z⟩:=I1.list h1
  have l1:=rv.length
  have hlist:s1.heap.IsList a its.toArray:=pl.isList
  have lt1:a < s1.heap.objs.size:=by obtain ⟨o,e,_⟩:=hlist; exact Heap.lt_size e
  refine call_reversed_list hlist (Calls.spliced_nil ?_)
  refine kds_call (s:={ s1 with heap:=s1.heap.push (revObj a ((its.toArray.size:Int) - 1)) }) (kds_list (Nat.ne_of_lt lt1) its.toArray) hr ⟨Nat.zero_le _,⟨_,Heap.get?_push_size _ rfl,rfl,by simp [revObj]⟩,hlist.at fun o e=>Heap.get?_push_of_some _ e⟩ (by rw [List.size_toArray]; omega) fun h' tk acc c kp hS hacc=>?_
  exact fin { s1 with heap:=s1.heap.push (revObj a ((its.toArray.size:Int) - 1)) } its h' tk acc c (Heap.size_push _ _) rfl (fun b o e=>Heap.get?_push_of_some _ e) rv (by omega) kp hS (rev_items hacc)
 ·obtain ⟨its,rv,pl,z⟩:=I1.tuple h1
  have l1:=rv.length
  have htup:s1.heap.IsTuple a its.toArray:=pl
  have lt1:a < s1.heap.objs.size:=by obtain ⟨o,e,_⟩:=htup; exact Heap.lt_size e
  refine callType_new rv_called (by decide) (F.typeCall_reversed_1 _) (F.newCall_reversed_1 _) (fun obj=>F.args_object_init_2 obj _) F.entry_reversed_new (meets_rvT a its.toArray (by rw [List.size_toArray]; omega)) ⟨htup,?_⟩
  have g:=Heap.get?_push_size s1.heap (o:={ cls:=.type "reversed",data:=.fields #[.ref a,rawInt ((its.toArray.size:Int) - 1)] }) rfl
  refine ⟨⟨_,g,rfl⟩,Calls.spliced_nil ?_⟩
  refine kds_call (kds_tup (Nat.ne_of_lt lt1) its.toArray (by rw [List.size_toArray]; omega)) hr ⟨Nat.zero_le _,by simpa using g,by
   obtain ⟨o,e,q⟩:=htup
   exact ⟨o,Heap.get?_push_of_some _ e,q⟩⟩ (by rw [List.size_toArray]; omega) fun h' tk acc c kp hS hacc=>?_
  exact fin _ its h' tk acc c (Heap.size_push _ _) rfl (fun b o e=>Heap.get?_push_of_some _ e) rv (by omega) kp hS (rev_items hacc)
end
end L2
namespace D
open PySem L2
noncomputable def dLRev (fa:DA):DE:=fun Γ=>(fa Γ).bind fun p=>match p.1 with
 | [a]=>(seqS p.2 a).map fun xs=>(.l xs.reverse,p.2)
 | _=>none
theorem sim_lrev {K:Fg} {ta:TA} {fa:DA} (ha:SimA K ta fa):SimE K (tLRev K ta) (dLRev fa):=by
 intro C w Γ σ H s Γ' Q R e k
 obtain ⟨⟨as,G1⟩,e1,e⟩:=bind_some e
 dsimp only at e
 split at e
 ·obtain ⟨xs,e2,e⟩:=map_some e
  cases e
  refine ha C w Γ σ H _ _ _ R e1 fun vs H1 R1 ev1 o1 n1=>?_
  obtain ⟨v,rfl,o2⟩:=soks1 o1
  obtain ⟨p,us,rfl,h1,i1⟩:=seq_ok R1 o2 e2
  exact ⟨p,us,rfl,h1,fun l hl=>k _ _ (R1.new hl) (ev1.trans (Evo.new hl)) (R1.newl hl i1.rev) ⟨l,rfl,none_back ev1 R1.lst hl⟩⟩
 ·cases e
section
variable {ι:Type} {K:Fg} {X:ι → Cx} {mg:Str → Option Value} {k:Nat} {a:Expr} {da:DA} {Γ:En}
theorem ex_lrev {p0 p1 pos0 pos1:Pos} (M:Fm K mg k X) (hm0:mg "list" = none) (hm1:mg "reversed" = none) (ha:AX K X [a] da) (hg0:∀ j,Gl (X j) "list":=by intro _; rfl) (hg1:∀ j,Gl (X j) "reversed":=by intro _; rfl)
  (hs:∀ j,starEach [a] (X j).env = [(false,eval a (X j).env)]:=by intro _; rfl)
  (hs3:∀ j,starEach [.Call (.Name "reversed" p1) [a] [] pos1] (X j).env = [(false,eval (.Call (.Name "reversed" p1) [a] [] pos1) (X j).env)]:=by intro _; rfl) :
  EX K X (.Call (.Name "list" p0) [.Call (.Name "reversed" p1) [a] [] pos1] [] pos0) (dLRev da) :=
 let ⟨t,q,u⟩:=ha; ⟨tLRev K t,fun j=>by have:=pe_lrev (p0:=p0) (p1:=p1) (pos0:=pos0) (pos1:=pos1) (M.room j).hd (hg0 j) (by rw [M.mg]; exact hm0) (hg1 j) (by rw [M.mg]; exact hm1) (q j) (hs j) (hs3 j); rw [M.K j] at this; exact this,sim_lrev u⟩
@[simp] theorem dLRev_ap:dLRev da Γ = (da Γ).bind fun p=>match p.1 with
 | [a]=>(seqS p.2 a).map fun xs=>(.l xs.reverse,p.2)
 | _=>none:=(rfl)
end
end D
set_option Elab.async false
set_option linter.all false
set_option maxRecDepth 100000
set_option maxHeartbeats 4000000
namespace L2
open PySem PySem.Spec PyProof.Rows
noncomputable def Itw (K:PySem.W.Frag) (a1:Addr) (n:Nat):It :=
 ⟨fun i H=>∃ xs x,SqL K H a1 xs ∧ xs.length = n ∧ i < n ∧ xs[n - 1 - i]? = some x,
  fun i H v H'=>H' = H ∧ ∀ xs,SqL K H a1 xs → xs[n - 1 - i]? = some v,
  fun i H=>i = n⟩
theorem turn_rvL {P:Program} {w:World} {K:PySem.W.Frag} {tg:Expr} {e a1:Addr} (n:Nat) (hle:a1 ≠ e) :
  Turn P w K tg (Itw K a1 n) [e] e (fun i h=>h.IsRevIter e a1 ((n:Int) - 1 - (i:Int))) where
 mem:=by simp
 obj:=fun i h st b hb=>by
  have q:b = e:=by simpa using hb
  subst q
  obtain ⟨o,e,c,d⟩:=st
  exact ⟨o,e,fun v z=>by rw [d] at z; cases z⟩
 keep:=fun i h h' st k=>st.at fun o q=>k e (by simp) o q
 item:=by
  intro X hP hw hK hc i pins s σ H E I hf st hg
  subst hP hw hK
  obtain ⟨xs,x,h1,hn,hi,hx⟩:=hg
  obtain ⟨its1,v1,o1,z1⟩:=I.list h1
  obtain ⟨u1,e1,r1⟩:=v1.get hx
  have l1:=v1.length
  have ei:(n:Int) - 1 - (i:Int) = ((n - 1 - i:Nat):Int):=by omega
  have st':s.heap.IsRevIter e a1 ((n - 1 - i:Nat):Int):=by rw [← ei]; exact st
  obtain ⟨f0,f1,f2,f3,f4,f5⟩:=hf e (by simp)
  refine wpAny_pyNext_rev_item (items:=its1.toArray) st' o1.isList (x:=u1) (by simpa using e1) fun h' he sb=>?_
  have I1:Inv X pins σ H { s with heap:=h' }:=I.turned (t':=s.toks) (fun b o hb q=>(sb.2 b hb).trans q) f0 f1 f3 f4 f5
  have he':h'.IsRevIter e a1 ((n:Int) - 1 - ((i + 1:Nat):Int)):=by
   have:(n:Int) - 1 - ((i + 1:Nat):Int) = ((n - 1 - i:Nat):Int) - 1:=by omega
   rw [this]; exact he
  obtain ⟨o,q1,q2,q3⟩:=id he'
  exact ⟨u1,rfl,go_of (s:={ s with heap:=h' }) q1 q2 q3 (by decide) ⟨x,H,I1,r1,⟨rfl,fun ys hy=>by rw [I.list_inj hy h1]; exact hx⟩,he',fun b hb=>(hf b hb).1⟩⟩
 done:=by
  intro X hP hw hK hc i pins s σ H E I hf st hg
  subst hP hw hK
  have hg:i = n:=hg
  subst hg
  obtain ⟨f0,f1,f2,f3,f4,f5⟩:=hf e (by simp)
  have st':s.heap.IsRevIter e a1 (-1):=by
   have:(i:Int) - 1 - (i:Int) = -1:=by omega
   rw [← this]; exact st
  exact wpAny_pyNext_rev_end (I.ok.hd hc) st' fun h' eb=>⟨rfl,I.turned (t':=s.toks) (fun b o hb q=>eb b o hb q) f0 f1 f3 f4 f5⟩
 self:=fun _ _ _ _ _ st h=>wpAny_pyIter_revIter st h
section
variable {X:Cx} {tg:Expr}
noncomputable def iRevL (K:PySem.W.Frag) (ta:TA):TI:=fun σ H R=>ta σ H fun vs H1=>∃ (a1:Addr) (xs:List V),vs = [.ref a1] ∧ SqL K H1 a1 xs ∧ R (Itw K a1 xs.length) H1
theorem pi_revL {e1:Expr} {ta:TA} {p pos:Pos} (hg:Gl X "reversed") (hm:X.mg "reversed" = none) (ha:PA X [e1] ta) (hs:starEach [e1] X.env = [(false,eval e1 X.env)]:=by rfl) :
  PI X tg (.Call (.Name "reversed" p) [e1] [] pos) (iRevL X.K ta):=by
 intro pins s σ H R I h
 refine Call_ (ld_blt I hg hm boot_reversed (PyProof.Rows.callWith_type1 (thn (ha pos pins s σ H _ I h) fun us s1 ⟨vs,H1,I1,r1,q1⟩=>?_) (by rw [hs]; rfl) (by rfl)))
 obtain ⟨a1,xs,e,h1,q⟩:=q1
 subst e
 obtain ⟨u1,e,r⟩:=r1.one
 subst e
 cases r
 obtain ⟨its1,v1,o1,z1⟩:=I1.list h1
 have l1:=v1.length
 have hlist:s1.heap.IsList a1 its1.toArray:=o1.isList
 have lt1:a1 < s1.heap.objs.size:=by obtain ⟨o,e,_⟩:=hlist; exact Heap.lt_size e
 refine call_reversed_list hlist ?_
 have st':(s1.heap.push (revObj a1 ((its1.toArray.size:Int) - 1))).IsRevIter s1.heap.objs.size a1 ((xs.length:Int) - 1 - ((0:Nat):Int)):=by
  have:((xs.length:Int) - 1 - ((0:Nat):Int)) = (its1.toArray.size:Int) - 1:=by rw [List.size_toArray]; omega
  rw [this]
  exact ⟨_,Heap.get?_push_size _ rfl,rfl,rfl⟩
 refine wpAny_pyIter_revIter st' ?_
 refine ⟨_,_,_,_,H1,rfl,I1.kept (t':=s1.toks) fun b o e=>Heap.get?_push_of_some _ e,turn_rvL xs.length (Nat.ne_of_lt lt1),st',fun c hc=>?_,q⟩
 have e:c = s1.heap.objs.size:=by simpa using hc
 subst e
 exact I1.fpOk (Nat.le_refl _) (I1.hok.fresh (Nat.le_refl _))
end
end L2
namespace D
open PySem L2
noncomputable def dRevL (fa:DA):DI:=fun Γ=>(fa Γ).bind fun p=>match p.1 with
 | [a]=>(sqlOf p.2 a).bind fun xs=>gd xs.length ((xs.reverse,srcS p.2 a),p.2)
 | _=>none
section
variable {K:Fg}
theorem simI_revL {ta:TA} {fa:DA} (ha:SimA K ta fa):SimI K (iRevL K ta) (dRevL fa):=by
 intro C w Γ σ H its src Γ' R Rp e k
 obtain ⟨⟨as,G1⟩,e1,e⟩:=bind_some e
 dsimp only at e
 split at e
 ·obtain ⟨xs,e2,e⟩:=bind_some e
  obtain ⟨hz,e⟩:=gd_of e
  cases e
  refine ha C w Γ σ H _ _ _ Rp e1 fun vs H1 R1 ev1 o1 n1=>?_
  obtain ⟨v,rfl,o2⟩:=soks1 o1
  obtain ⟨p,us,rfl,h1,i1,st⟩:=stay_list R1 o2 e2
  refine ⟨p,us,rfl,h1,k _ H1 R1 ev1 ⟨by simpa using hz,fun L' hs av H2 ev=>?_⟩⟩
  have hL:LL L' H1:=fun q hq=>R1.lst q (hs q hq)
  have h2:=st L' hs av H2 ev
  have i2:=i1.evo ev hL
  have l2:=i2.len
  refine ⟨fun i t e=>?_,by show _ = _; simp [l2]⟩
  have hi:i < xs.length:=by simpa using (List.getElem?_eq_some_iff.mp e).1
  rw [List.getElem?_reverse hi] at e
  obtain ⟨v,e3,hv⟩:=i2.get e
  refine ⟨⟨us,v,h2,rfl,by omega,by rw [l2]; exact e3⟩,fun x H3 y=>?_⟩
  obtain ⟨rfl,k1⟩:=y
  have q1:=k1 us h2
  rw [l2,e3] at q1; cases q1
  exact ⟨fun b o e=>e,hv⟩
 ·cases e
end
section
variable {ι:Type} {K:Fg} {X:ι → Cx} {mg:Str → Option Value} {k:Nat} {a:Expr} {da:DA} {p pos:Pos} {Γ:En}
theorem ix_revL {tg:Expr} (M:Fm K mg k X) (hm:mg "reversed" = none) (ha:AX K X [a] da) (hg:∀ j,Gl (X j) "reversed":=by intro _; rfl) (hs:∀ j,starEach [a] (X j).env = [(false,eval a (X j).env)]:=by intro _; rfl) :
  IX K X tg (.Call (.Name "reversed" p) [a] [] pos) (dRevL da) :=
 let ⟨t,q,u⟩:=ha; ⟨iRevL K t,fun j=>by have:=pi_revL (tg:=tg) (p:=p) (pos:=pos) (hg j) (by rw [M.mg]; exact hm) (q j) (hs j); rw [M.K j] at this; exact this,simI_revL u⟩
@[simp] theorem dRevL_ap:dRevL da Γ = (da Γ).bind fun p=>match p.1 with
 | [a]=>(sqlOf p.2 a).bind fun xs=>gd xs.length ((xs.reverse,srcS p.2 a),p.2)
 | _=>none:=(rfl)
end
end D
set_option Elab.async false
set_option linter.all false
set_option maxRecDepth 100000
set_option maxHeartbeats 4000000
namespace D
open PySem L2
@[simp high,simp ↓ high] theorem ifO_11 {α:Type} {x y:α}:ifO (some 1) 1 x y = x:=rfl
@[simp high,simp ↓ high] theorem ifO_22 {α:Type} {x y:α}:ifO (some 2) 2 x y = x:=rfl
@[simp high,simp ↓ high] theorem ifO_33 {α:Type} {x y:α}:ifO (some 3) 3 x y = x:=rfl
@[simp high,simp ↓ high] theorem ifO_44 {α:Type} {x y:α}:ifO (some 4) 4 x y = x:=rfl
@[simp high,simp ↓ high] theorem ifO_55 {α:Type} {x y:α}:ifO (some 5) 5 x y = x:=rfl
@[simp high,simp ↓ high] theorem ifO_66 {α:Type} {x y:α}:ifO (some 6) 6 x y = x:=rfl
@[simp high,simp ↓ high] theorem ifO_77 {α:Type} {x y:α}:ifO (some 7) 7 x y = x:=rfl
@[simp high,simp ↓ high] theorem ifO_88 {α:Type} {x y:α}:ifO (some 8) 8 x y = x:=rfl
@[simp high,simp ↓ high] theorem ifO_99 {α:Type} {x y:α}:ifO (some 9) 9 x y = x:=rfl
@[simp high,simp ↓ high] theorem ifO_1010 {α:Type} {x y:α}:ifO (some 10) 10 x y = x:=rfl
end D
namespace L2
open PySem PySem.Spec PyProof.Rows
section
variable {X:Cx} {x:Str} {p pos:Pos} {e:Expr} {es:List Expr} {t:TA} {k:Nat}
noncomputable def tCallV (i:Nat) (C:Addr → Sp → Prop) (t:TA):TE:=fun σ H Q=>∃ f sp,σ[i]? = some (some (.ref f)) ∧ C f sp ∧ t σ H fun vs H1=>sp (vs ++ []) H1 Q E0
theorem pe_callV {i:Nat} {C:Addr → Sp → Prop} (hC:Mod X.K X.mg X.base → ∀ f sp,C f sp → ∃ fd ps,FnOk X.prog X.w X.K X.mg X.base CX0 k f fd ps sp ∧ PySem.W.keepIn X.K (.ref f) = true ∧ Binds X.K fd ps [])
  (hr:Room k X.A) (hN:X.N[i]? = some x) (hv:Vis X.env.scope x) (ha:PA X (e :: es) t) (hd:(x == ("__debug__":Str)) = false:=by decide) (hcd:(x == ("__classdict__":Str)) = false:=by decide)
  (he:starEach (e :: es) X.env = (false,eval e X.env) :: starEach es X.env:=by rfl) (hpl:(backTo pos (starEach es X.env)).any (·.1) = false:=by rfl) :
  PE X (.Call (.Name x p) (e :: es) [] pos) (tCallV i C t):=by
 intro pins s σ H Q I h
 obtain ⟨f,sp,e1,c,h⟩:=h
 obtain ⟨fd,ps,F,hk,hb⟩:=hC I.mod f sp c
 refine wpAny_Call_Name_kw ?_
 refine thn (pe_var (X:=X) (i:=i) (x:=x) (pos:=p) hN hv hd hcd pins s σ H (fun v H'=>v = .ref f ∧ H' = H) I ⟨.ref f,e1,rfl,rfl⟩) fun u s1 ⟨v,H1,I1,r1,q1⟩=>?_
 obtain ⟨rfl,rfl⟩:=q1
 obtain rfl:u = Value.ref f:=r1
 refine PySem.W.callWith_K (h₀:=X.base) I1.ok.mod.kin hk (thn (ha pos pins s1 σ _ _ I1 h) fun us s2 ⟨vs,H2,I2,r,q⟩=>⟨I2.kIn,?_⟩) he hpl
 exact run_fn F hr hb .nil pass0 I2 r q
end
end L2
namespace D
open PySem L2
noncomputable abbrev Tb:=List (Str × Nat × DF)
noncomputable def TbOk (P:Program) (wd:World) (K:Fg) (mg:Str → Option Value) (base:Heap) (k:Nat) (tb:Tb):Prop:=∀ q ∈ tb,FD P wd K mg base k q.1 none q.2.1 q.2.2
section
variable {P:Program} {wd:World} {K:Fg} {mg:Str → Option Value} {base:Heap} {k:Nat}
theorem FD.mono {k':Nat} {x:Str} {ip:Option Nat} {n:Nat} {F:DF} (D0:FD P wd K mg base k' x ip n F) (h:k' ≤ k):FD P wd K mg base k x ip n F:=by
 obtain ⟨f,fd,ps,h1,h2⟩:=D0.ex
 exact ⟨⟨f,fd,ps,h1.mono h,h2⟩,D0.len⟩
theorem tb_nil:TbOk P wd K mg base k []:=fun _ h=>nomatch h
theorem tb_cons {k':Nat} {x:Str} {n:Nat} {F:DF} {tb:Tb} (D0:FD P wd K mg base k' x none n F) (r:TbOk P wd K mg base k tb) (h:k' ≤ k:=by first | exact Nat.le_refl _ | decide | omega):TbOk P wd K mg base k ((x,n,F) :: tb):=fun q hq=>by
 rcases List.mem_cons.mp hq with rfl | hq
 ·exact D0.mono h
 ·exact r q hq
end
noncomputable def dFn (n:Str):DE:=fun Γ=>some (.v (.f n),Γ)
noncomputable def dCallV (i:Nat) (tb:Tb) (fa:DA):DE:=fun Γ=>match Γ[i]? with
 | some (some (.v (.f n)))=>match tb.find? fun q=>decide (q.1 = n) with
  | some q=>dCall none q.2.2 [] fa Γ
  | none=>none
 | _=>none
noncomputable def NK (K:Fg) (mg:Str → Option Value) (n:Str):Prop:=∃ f,PySem.W.nsIn K mainGlobals n = some (some (.ref f)) ∧ mg n = some (.ref f)
theorem sim_fn {K:Fg} {n:Str} {f:Addr} (h:PySem.W.nsIn K mainGlobals n = some (some (.ref f))):SimE K (tC (.ref f)) (dFn n):=by
 intro C w Γ σ H s Γ' Q R e k
 cases e
 exact k _ H R .refl (show Im K H _ (.f n) from Im.fn ⟨f,rfl,h⟩) trivial
noncomputable def CallC (K:Fg) (tb:Tb) (f:Addr) (sp:Sp):Prop:=∃ q ∈ tb,PySem.W.nsIn K mainGlobals q.1 = some (some (.ref f)) ∧ sp = spD K none q.2.1 q.2.2
theorem sim_callV {K:Fg} {i:Nat} {tb:Tb} {t:TA} {fa:DA} (hl:∀ q ∈ tb,∀ gs r,q.2.2 gs = some r → gs.length = q.2.1) (ha:SimA K t fa):SimE K (tCallV i (CallC K tb) t) (dCallV i tb fa):=by
 intro C w Γ σ H s Γ' Q R e k
 unfold dCallV at e
 split at e
 ·rename_i n hn
  split at e
  ·rename_i q hq
   obtain ⟨v,e1,hv⟩:=R.val i _ hn
   obtain ⟨f,rfl,hf⟩:=(show Im K H v (.f n) from hv).invf
   have hm:=List.mem_of_find?_eq_some hq
   have hqn:q.1 = n:=by simpa using List.find?_some hq
   exact ⟨f,spD K none q.2.1 q.2.2,e1,⟨q,hm,by rw [hqn]; exact hf,rfl⟩,sim_call (hl q hm) ha C w Γ σ H s Γ' Q R e k⟩
  ·cases e
 ·cases e
section
variable {ι:Type} {P:Program} {wd:World} {base:Heap} {K:Fg} {mg:Str → Option Value} {k k' n:Nat} {X:ι → Cx} {e:Expr} {es:List Expr} {pos p:Pos} {da:DA} {x:Str} {tb:Tb} {Γ:En}
theorem ex_fn (M:Fm K mg k X) (h:NK K mg x) (hg:∀ j,Gl (X j) x:=by intro _; rfl) (hd:(x == ("__debug__":Str)) = false:=by decide):EX K X (.Name x pos) (dFn x):=by
 obtain ⟨f,h1,h2⟩:=h
 exact ⟨_,fun j=>pe_glob (v:=.ref f) (hg j) (by rw [M.mg]; exact h2) rfl hd,sim_fn h1⟩
theorem ex_callV (i:Nat) (M:Fm K mg k X) (B:Fb P wd base X) (T0:TbOk P wd K mg base k' tb) (ha:AX K X (e :: es) da) (hk:k' ≤ k:=by first | exact Nat.le_refl _ | decide | omega)
  (hN:∀ j,(X j).N[i]? = some x:=by intro _; rfl) (hv:∀ j,Vis (X j).env.scope x:=by intro _; first | exact Or.inl rfl | exact Or.inr (Or.inl rfl) | exact Or.inr (Or.inr rfl)) (hd:(x == ("__debug__":Str)) = false:=by decide) (hcd:(x == ("__classdict__":Str)) = false:=by decide)
  (he:∀ j,starEach (e :: es) (X j).env = (false,eval e (X j).env) :: starEach es (X j).env:=by intro _; rfl) (hpl:∀ j,(backTo pos (starEach es (X j).env)).any (·.1) = false:=by intro _; rfl) :
  EX K X (.Call (.Name x p) (e :: es) [] pos) (dCallV i tb da):=by
 obtain ⟨t,q,u⟩:=ha
 refine ⟨tCallV i (CallC K tb) t,fun j=>?_,sim_callV (fun q hq=>(T0 q hq).len) u⟩
 refine pe_callV (k:=k') (fun hm f sp hc=>?_) ((M.room j).mono hk) (hN j) (hv j) (q j) hd hcd (he j) (hpl j)
 obtain ⟨q,hq,h1,rfl⟩:=hc
 obtain ⟨f',fd,ps,g1,g2,g3,g4⟩:=(T0 q hq).ex
 have hm':Mod K mg base:=by rw [← M.K j,← M.mg j,← B.b j]; exact hm
 have e:=PySem.W.mg_of hm'.kin hm'.glob h1
 rw [g2] at e
 cases e
 exact ⟨fd,ps,by rw [B.P,B.w,M.K,M.mg,B.b]; exact g1,by rw [M.K]; exact g3,by rw [M.K]; exact g4⟩
@[simp,simp ↓] theorem dFn_ap {n:Str}:dFn n Γ = some (.v (.f n),Γ):=rfl
end
end D
set_option Elab.async false
set_option linter.all false
set_option maxRecDepth 100000
set_option maxHeartbeats 4000000
namespace D
open PySem L2
noncomputable def fuelX:Nat:=100000
theorem fuelX_eq:fuelX = 100000:=rfl
inductive Rs where
 | mk (e v:T) (ks:List Rs)
noncomputable def Rs.e:Rs → T | .mk e _ _=>e
noncomputable def Rs.v:Rs → T | .mk _ v _=>v
mutual
noncomputable def Rs.pre:Rs → List Rs
 | .mk e v ks=>.mk e v ks :: pres ks
noncomputable def pres:List Rs → List Rs
 | []=>[]
 | r :: rs=>r.pre ++ pres rs
end
theorem pres_nil:pres [] = []:=by unfold pres; rfl
theorem pres_cons (r:Rs) (rs:List Rs):pres (r :: rs) = r.pre ++ pres rs:=by rw [pres]
theorem pre_mk (e v:T) (ks:List Rs):(Rs.mk e v ks).pre = .mk e v ks :: pres ks:=by rw [Rs.pre]
theorem pres_app:∀ (a b:List Rs),pres (a ++ b) = pres a ++ pres b
 | [],b=>by rw [pres_nil]; rfl
 | r :: a,b=>by rw [List.cons_append,pres_cons,pres_cons,pres_app a b,List.append_assoc]
mutual
noncomputable def Rs.In (ins:DF):Rs → Prop
 | .mk e _ ks=>(ins [.v e] = some (.v (.t (ks.map Rs.e)),[]) ∨ ins [.v e] = some (.l (ks.map Rs.e),[])) ∧ Ins ins ks
noncomputable def Ins (ins:DF):List Rs → Prop
 | []=>True
 | r :: rs=>r.In ins ∧ Ins ins rs
end
theorem ins_cons {ins:DF} {r:Rs} {rs:List Rs}:Ins ins (r :: rs) ↔ r.In ins ∧ Ins ins rs:=by rw [Ins]
theorem in_mk {ins:DF} {e v:T} {ks:List Rs}:(Rs.mk e v ks).In ins ↔ (ins [.v e] = some (.v (.t (ks.map Rs.e)),[]) ∨ ins [.v e] = some (.l (ks.map Rs.e),[])) ∧ Ins ins ks:=by rw [Rs.In]
theorem ins_nil {ins:DF}:Ins ins []:=by unfold Ins; trivial
theorem ins_app {ins:DF}:∀ {a b:List Rs},Ins ins a → Ins ins b → Ins ins (a ++ b)
 | [],_,_,h=>h
 | _ :: _,_,h,h'=>ins_cons.mpr ⟨(ins_cons.mp h).1,ins_app (ins_cons.mp h).2 h'⟩
theorem dCallV_of {i:Nat} {tb:Tb} {fa:DA} {Γ:En} {n:Str} {a:Nat} {F:DF} (h:Γ[i]? = some (some (.v (.f n)))) (hf:tb.find? (fun q=>decide (q.1 = n)) = some (n,a,F)):dCallV i tb fa Γ = dCall none F [] fa Γ:=by
 unfold dCallV
 rw [h]
 dsimp only
 rw [hf]
noncomputable def awC:DT:=dTru (dVar 3)
noncomputable def awB (tb:Tb):DS:=dSeq (dSet 4 (dMut 3 hPop dNil)) (dSeq (dDrop (dMut 2 hAppend (dCons (dVar 4) dNil))) (dDrop (dMut 3 hExtend (dCons (dLRev (dCons (dCallV 1 tb (dCons (dVar 4) dNil)) dNil)) dNil))))
noncomputable def awD (tb:Tb):DS:=dSeq (dSet 2 (dLst dNil)) (dSeq (dSet 3 (dLst (dCons (dVar 0) dNil))) (dSeq (dWhile awC (awB tb) fuelX) (dRet (dVar 2))))
@[simp] theorem hExtend_l {Γ:En} {xs ys:List T} (h:xs.length + ys.length ≤ sizeLine):hExtend Γ xs [.l ys] = some (.a .non,xs ++ ys):=by
 unfold hExtend
 dsimp only
 simp [sqlOf_l,gd,h]
section
variable {tb:Tb} {n:Str} {ka:Nat} {ins:DF}
theorem aw_loop (hf:tb.find? (fun q=>decide (q.1 = n)) = some (n,ka,ins)):∀ (m:Nat) (st:List Rs) (acc:List T) (w:T) (p4:Option G) (fuel:Nat),(pres st).length = m → m < fuel → acc.length + m ≤ 90000 → st.length ≤ 90000 → Ins ins st →
  ∃ p4',dWhile awC (awB tb) fuel [some (.v w),some (.v (.f n)),some (.l acc),some (.l (st.reverse.map Rs.e)),p4] = some (.nx [some (.v w),some (.v (.f n)),some (.l (acc ++ (pres st).map Rs.e)),some (.l []),p4']):=by
 intro m
 induction m with
 | zero =>
  intro st acc w p4 fuel hm hfu hb hs hi
  cases st with
  | nil =>
   obtain ⟨f,rfl⟩:∃ f,fuel = f + 1:=⟨fuel - 1,by omega⟩
   exact ⟨p4,by rw [dWhile_succ]; simp [awC,pres_nil]⟩
  | cons r rs =>
   cases r with
   | mk e v ks=>rw [pres_cons,pre_mk] at hm; simp at hm
 | succ m ih =>
  intro st acc w p4 fuel hm hfu hb hs hi
  obtain ⟨f,rfl⟩:∃ f,fuel = f + 1:=⟨fuel - 1,by omega⟩
  cases st with
  | nil=>rw [pres_nil] at hm; cases hm
  | cons r rs =>
   cases r with
   | mk e v ks =>
    obtain ⟨h1,h2⟩:=ins_cons.mp hi
    obtain ⟨h3,h4⟩:=in_mk.mp h1
    rw [pres_cons,pre_mk] at hm
    have hlen:∀ l:List Rs,l.length ≤ (pres l).length:=fun l=>by
     induction l with
     | nil=>simp
     | cons x l ih =>
      cases x with
      | mk a b c=>rw [pres_cons,pre_mk]; simp; omega
    have hk:=hlen ks
    have hr:=hlen rs
    simp only [List.cons_append,List.length_cons,List.length_append] at hm
    obtain ⟨p4',e4⟩:=ih (ks ++ rs) (acc ++ [e]) w (some (.v e)) f (by rw [pres_app,List.length_append]; omega) (by omega) (by simp; omega) (by simp; omega) (ins_app h4 h2)
    refine ⟨p4',?_⟩
    have hl1:acc.length < sizeLine:=Nat.lt_of_lt_of_le (show acc.length < 100000 by omega) (by decide)
    have hl2:rs.length + ks.length ≤ sizeLine:=Nat.le_trans (show rs.length + ks.length ≤ 100000 by omega) (by decide)
    have e0:(List.map Rs.e (Rs.mk e v ks :: rs).reverse) = List.map Rs.e rs.reverse ++ [e]:=by simp [Rs.e]
    have pop:(awB tb) [some (.v w),some (.v (.f n)),some (.l acc),some (.l (List.map Rs.e rs.reverse ++ [e])),p4] = some (.nx [some (.v w),some (.v (.f n)),some (.l (acc ++ [e])),some (.l (List.map Rs.e rs.reverse ++ (ks.map Rs.e).reverse)),some (.v e)]):=by
     have cv:dCallV 1 tb (dCons (dVar 4) dNil) [some (.v w),some (.v (.f n)),some (.l (acc ++ [e])),some (.l (List.map Rs.e rs.reverse)),some (.v e)] = dCall none ins [] (dCons (dVar 4) dNil) [some (.v w),some (.v (.f n)),some (.l (acc ++ [e])),some (.l (List.map Rs.e rs.reverse)),some (.v e)]:=dCallV_of rfl hf
     have ex:∀ Γ,hExtend Γ (List.map Rs.e rs.reverse) [.l (ks.map Rs.e).reverse] = some (.a .non,List.map Rs.e rs.reverse ++ (ks.map Rs.e).reverse):=fun Γ=>hExtend_l (by simpa using hl2)
     have hs':rs.length + 1 ≤ sizeLine:=Nat.le_trans (show rs.length + 1 ≤ 100000 by simp at hs; omega) (by decide)
     have hq:(List.map Rs.e rs.reverse).length + 1 ≤ sizeLine:=by simpa using hs'
     have hl0:acc.length ≤ sizeLine:=Nat.le_of_lt hl1
     generalize List.map Rs.e rs.reverse = RR at cv ex hq ⊢
     have hq':RR.length ≤ sizeLine:=by omega
     rcases h3 with h3 | h3
     ·simp [awB,cv,h3,hl1,ex,gd,hq,hq',hl0]
     ·simp [awB,cv,h3,hl1,ex,gd,hq,hq',hl0]
    rw [dWhile_succ,e0]
    have tr:awC [some (.v w),some (.v (.f n)),some (.l acc),some (.l (List.map Rs.e rs.reverse ++ [e])),p4] = some (true,[some (.v w),some (.v (.f n)),some (.l acc),some (.l (List.map Rs.e rs.reverse ++ [e])),p4]):=by
     simp [awC]
    rw [tr,Option.bind_some,if_pos rfl,pop,Option.bind_some]
    dsimp only
    have e5:List.map Rs.e rs.reverse ++ (ks.map Rs.e).reverse = List.map Rs.e (ks ++ rs).reverse:=by simp
    rw [e5,e4,pres_app]
    rw [pres_cons,pre_mk]
    simp [Rs.e]
theorem all_within_ok (hf:tb.find? (fun q=>decide (q.1 = n)) = some (n,ka,ins)) (r:Rs) (h:r.In ins) (hb:r.pre.length ≤ 80000):fnD none 2 5 (awD tb) [.v r.e,.v (.f n)] = some (.l (r.pre.map Rs.e),[]):=by
 have hp:pres [r] = r.pre:=by rw [pres_cons,pres_nil,List.append_nil]
 obtain ⟨p4',e⟩:=aw_loop hf r.pre.length [r] [] r.e none fuelX (by rw [hp]) (by rw [fuelX_eq]; omega) (by simp; omega) (by simp) (ins_cons.mpr ⟨h,ins_nil⟩)
 rw [hp] at e
 simp only [List.reverse_cons,List.reverse_nil,List.nil_append,List.map_cons,List.map_nil] at e
 have g1:(1:Nat) ≤ sizeLine:=by decide
 simp [fnD,awD,gd,e,g1]
end
noncomputable def fwE:DE:=dMut 1 hPop dNil
theorem fw_pop:∀ (es vs t0:List T) (o:Option G),es.length = vs.length → t0.length + vs.length ≤ 100000 → ∃ o',compD (gdName 0) dYes fwE es [o,some (.l (t0 ++ vs.reverse))] = some (vs,[o',some (.l t0)])
 | [],[],t0,o,_,_=>⟨o,by simp [compD_nil]⟩
 | [],_ :: _,_,_,h,_=>by cases h
 | _ :: _,[],_,_,h,_=>by cases h
 | e :: es,v :: vs,t0,o,h,hb=>by
  obtain ⟨o',h2⟩:=fw_pop es vs t0 (some (.v e)) (by simpa using h) (by simp at hb; omega)
  refine ⟨o',?_⟩
  have e1:t0 ++ (v :: vs).reverse = (t0 ++ vs.reverse) ++ [v]:=by simp
  have hq:(t0 ++ vs.reverse).length + 1 ≤ sizeLine:=Nat.le_trans (show _ ≤ 100001 by simp at hb ⊢; omega) (by decide)
  rw [e1,compD_cons]
  generalize t0 ++ vs.reverse = RR at h2 hq ⊢
  unfold fwE at h2 ⊢
  simp [gd,hq,h2]
end D
set_option Elab.async false
set_option linter.all false
set_option maxRecDepth 100000
set_option maxHeartbeats 4000000
namespace D
open PySem L2
noncomputable def dDispK (ks:List Key) (fa:DA):DE:=fun Γ=>(fa Γ).bind fun p=>(trees p.1).bind fun ts=>if ks.length ≤ 15 ∧ ks.Nodup then some (.d (.inl (ks.zip ts)),p.2) else none
section
variable {ι:Type} {K:Fg} {mg:Str → Option Value} {k:Nat} {X:ι → Cx} {fa:DA} {pos:Pos} {Γ:En}
@[simp,simp ↓] theorem dDispK_ap {ks:List Key}:dDispK ks fa Γ = bnd (fa Γ) (f:=⟨fun p=>bnd (trees p.1) (f:=⟨fun ts=>if ks.length ≤ 15 ∧ ks.Nodup then some (.d (.inl (ks.zip ts)),p.2) else none⟩)⟩):=rfl
end
end D
set_option Elab.async false
set_option linter.all false
set_option maxRecDepth 100000
set_option maxHeartbeats 4000000
namespace D
open PySem L2
end D
set_option Elab.async false
set_option linter.all false
set_option maxRecDepth 100000
set_option maxHeartbeats 4000000
namespace L2
open PySem PySem.Spec PyProof.Rows
section
variable {prog:Program} {w:World} {A:Around} {E:Value → Shared → Prop} {s:Shared}
theorem args_maxd (a d:Value):argsOk "max" ⟨[a],[("default",d)]⟩:=by unfold argsOk; kernel_rfl
theorem call_tree_kw {id:String} {b:Builtin} {args:List Value} {kw:List (Str × Value)} {Q:Value → Shared → Prop} (hk:builtinKind id = none) (hp:plainId id = true) (hb:entryFor table id = some b) (ha:argsOk id ⟨args,kw⟩)
  (hc:wpAny (model prog w) A.in1 (b ⟨args,kw⟩) (fun fin s'=>match fin with
   | .done f=>(match (Except.ok f:Result) with | .ok (.ret v)=>Q v s' | .ok _=>False | .error e=>E e s')
   | .again c'=>c'.quiet = true ∧ codeAny (model prog w) A c' (fun r s'=>match r with | .ok (.ret v)=>Q v s' | .ok _=>False | .error e=>E e s') s') E s) :
  wpAny (model prog w) A (call (.builtin id) args kw) Q E s:=by
 refine wpAny_call (codeAny_call_builtin hp hb ?_)
 unfold checkBuiltinCall
 rw [hk]
 cases hsig:Manifest.signature? id with
 | none=>exact wpAny_pure hc
 | some sig =>
  have h2:Bind.checkArgs id sig ⟨args,kw⟩ = pure ():=by simpa only [argsOk,hsig] using ha
  show wpAny _ A.in1 (Bind.checkArgs id sig ⟨args,kw⟩) _ _ s
  rw [h2]
  exact wpAny_pure hc
end
section
variable {prog:Program} {w:World} {A:Around} {R:Result → Shared → Prop} {I:Addr} {fp wr:List Addr} {n:Nat} {P:Nat → Value → Prop} {St:Nat → Heap → Prop}
noncomputable def Best (bt:Nat → Nat → Bool) (P:Nat → Value → Prop) (j:Nat) (xs:Array Value):Prop:=(j = 0 ∧ xs = #[]) ∨ ∃ v,0 < j ∧ P (argBest bt (j - 1)) v ∧ xs = #[v,v]
theorem max_turns (W:Walks prog w A.in1 I fp wr n P St) (bt:Nat → Nat → Bool) (hcmp:CmpOf prog w A.in1 .Gt P bt) (S:Addr) (hSf:S ∉ fp) (d:Value) :
  ∀ (k j:Nat) (s:Shared) (xs:Array Value) (c:Nat),n - j = k → j ≤ n → St j s.heap → Best bt P j xs → s.heap.get? S = some { cls:=.type "list",dict:=none,data:=.seq xs c,slots:=#[] } →
  (∀ v h' tk,(n = 0 ∧ v = d ∨ 0 < n ∧ P (argBest bt (n - 1)) v) → (∀ b o,b ∉ wr → b ≠ S → s.heap.get? b = some o → h'.get? b = some o) → R (.ok (.ret v)) { s with heap:=h',toks:=tk }) →
  codeAny (model prog w) A (.builtin "max.loop" ⟨[.ref I,.none,.ref S],[("default",d)]⟩) R s:=by
 have hSw:S ∉ wr:=fun h=>hSf (W.sub _ h)
 have hname:(toString "max" ++ toString ".loop":String) = "max.loop":=by decide
 intro k
 induction k with
 | zero =>
  intro j s xs c hk hj hst hb hS hR
  have hin:j = n:=by omega
  subst hin
  refine codeAny_builtin F.entry_max_loop ?_
  rw [Around.under_plainId F.plain_max_loop _]
  show wpAny _ A.in1 (seqItems? (.ref S) >>= _) _ _ s
  refine wpAny_bind (wpAny_seqItems hS rfl ?_)
  show wpAny _ A.in1 (tryCatch (pyNext (.ref I)) _ >>= _) _ _ s
  refine wpAny_bind (wpAny_tryCatch (W.done s _ _ hst fun h' tk hk'=>?_))
  have hS':=hk' S _ hSw hS
  rcases hb with ⟨h0,rfl⟩ | ⟨v,h0,hv,rfl⟩
  ·refine wpAny_bind (wpAny_rule (wpAny_pure ?_))
   exact hR d h' tk (.inl ⟨h0,rfl⟩) fun b o hbw _ e=>hk' b o hbw e
  ·show wpAny _ A.in1 (updateSeq S (fun _=>#[]) >>= _) _ _ _
   refine wpAny_bind ?_
   refine wpAny_updateSeq hS' rfl (wpAny_bind (wpAny_letGo (wpAny_pure ?_)))
   exact hR v _ tk (.inr ⟨h0,hv⟩) fun b o hbw hbS e=>(Heap.get?_update_other _ _ (Ne.symm hbS)).trans (hk' b o hbw e)
 | succ k ih =>
  intro j s xs c hk hj hst hb hS hR
  have hlt:j < n:=by omega
  refine codeAny_builtin F.entry_max_loop ?_
  rw [Around.under_plainId F.plain_max_loop _]
  show wpAny _ A.in1 (seqItems? (.ref S) >>= _) _ _ s
  refine wpAny_bind (wpAny_seqItems hS rfl ?_)
  show wpAny _ A.in1 (tryCatch (pyNext (.ref I)) _ >>= _) _ _ s
  refine wpAny_bind (wpAny_tryCatch (W.item j s _ _ hlt hst fun v h' tk hP hst' hk'=>?_))
  have hS':=hk' S _ hSw hS
  have go:∀ (u:Value),P (argBest bt j) u → codeAny (model prog w) A (.builtin "max.loop" ⟨[.ref I,.none,.ref S],[("default",d)]⟩) R { s with heap:=h'.update S (Obj.mapSeq fun _=>#[u,u]),toks:=tk }:=fun u hu =>
   ih (j + 1) _ #[u,u] _ (by omega) hlt (W.frame _ _ _ hst' fun b hbf o e=>(Heap.get?_update_other _ _ (fun h:S = b=>hSf (by rw [h]; exact hbf))).trans e) (.inr ⟨u,Nat.succ_pos _,hu,rfl⟩) (Heap.get?_update_self _ hS' rfl)
    fun v' h'' tk'' hP' hk''=>hR v' h'' tk'' hP' fun b o hbw hbS e=>hk'' b o hbw hbS ((Heap.get?_update_other _ _ (Ne.symm hbS)).trans (hk' b o hbw e))
  rcases hb with ⟨rfl,rfl⟩ | ⟨u,h0,hu,rfl⟩
  ·show wpAny _ A.in1 (updateSeq S (fun _=>#[v,v]) >>= _) _ _ _
   refine wpAny_bind ?_
   refine wpAny_updateSeq hS' rfl ?_
   rw [hname]
   exact wpAny_pure ⟨plainId_quiet F.plain_max_loop _,go v hP⟩
  ·obtain ⟨i,rfl⟩:∃ i,j = i + 1:=⟨j - 1,by omega⟩
   have hu':P (argBest bt i) u:=hu
   show wpAny _ A.in1 (tryCatch (holding [v,v] (richCompare .Gt v u >>= _)) _ >>= _) _ _ _
   refine wpAny_bind (wpAny_tryCatch (wpAny_holding (wpAny_bind (hcmp (i + 1) (argBest bt i) v u _ _ _ hP hu' ?_))))
   refine wpAny_bind (wpAny_holding (wpAny_truthy_bool ?_))
   refine wpAny_bind (wpAny_letGo (wpAny_pure ?_))
   cases hc:bt (i + 1) (argBest bt i) with
   | true =>
    simp only [if_true]
    refine wpAny_bind ?_
    refine wpAny_updateSeq hS' rfl (wpAny_bind (wpAny_letGo ?_))
    rw [hname]
    exact wpAny_pure ⟨plainId_quiet F.plain_max_loop _,go v (by simp only [argBest,hc,if_true]; exact hP)⟩
   | false =>
    simp only [Bool.false_eq_true,if_false]
    refine wpAny_bind (wpAny_letGo ?_)
    rw [hname]
    exact wpAny_pure ⟨plainId_quiet F.plain_max_loop _,ih (i + 1 + 1) _ #[u,u] c (by omega) hlt hst' (.inr ⟨u,Nat.succ_pos _,by simp only [Nat.add_sub_cancel,argBest,hc,Bool.false_eq_true,if_false]; exact hu',rfl⟩) hS'
     fun v' h'' tk'' hP' hk''=>hR v' h'' tk'' hP' fun b o hbw hbS e=>hk'' b o hbw hbS (hk' b o hbw e)⟩
end
section
variable {prog:Program} {w:World} {A:Around} {E:Value → Shared → Prop} {s:Shared}
theorem call_maxd {x d:Value} {Q:Value → Shared → Prop}
  (h:wpAny (model prog w) A.in1 (pyIter x) (fun it s₂=>∃ I fp wr n P St bt,it = .ref I ∧ Walks prog w A.in1 I fp wr n P St ∧ St 0 s₂.heap ∧ (∀ b ∈ fp,b < s₂.heap.objs.size) ∧ CmpOf prog w A.in1 .Gt P bt ∧
   ∀ v h' tk,(n = 0 ∧ v = d ∨ 0 < n ∧ P (argBest bt (n - 1)) v) → (∀ b o,b ∉ wr → s₂.heap.get? b = some o → h'.get? b = some o) → Q v { s₂ with heap:=h',toks:=tk }) E s) :
  wpAny (model prog w) A (call (.builtin "max") [x] [("default",d)]) Q E s:=by
 have hname:(toString "max" ++ toString ".loop":String) = "max.loop":=by decide
 refine call_tree_kw F.kind_max F.plain_max F.entry_max (args_maxd _ _) ?_
 show wpAny _ A.in1 (Builtin.Builtins.bindParams "max" ["key","default"] 0 ⟨[],[("default",d)]⟩ >>= _) _ _ s
 refine wpAny_bind (wpAny_of_eq (show Builtin.Builtins.bindParams "max" ["key","default"] 0 ⟨[],[("default",d)]⟩ = pure [none,some d] from rfl) ?_)
 refine wpAny_bind (wpAny_pure ?_)
 refine wpAny_bind (wpAny_mono h (fun it s₂ h₂=>?_) fun _ _ e=>e)
 obtain ⟨I,fp,wr,n,P,St,bt,rfl,W,hst,hfp,hcmp,hQ⟩:=h₂
 refine wpAny_bind (wpAny_newObj_type ?_)
 rw [hname]
 refine wpAny_pure ⟨plainId_quiet F.plain_max_loop _,max_turns W bt hcmp s₂.heap.objs.size (fun hm=>Nat.lt_irrefl _ (hfp _ hm)) d _ 0 _ #[] _ rfl (Nat.zero_le _) (W.frame _ _ _ hst fun b _ o e=>Heap.get?_push_of_some _ e) (.inl ⟨rfl,rfl⟩) (Heap.get?_push_size _ rfl) fun v h' tk hP hk=>?_⟩
 exact hQ v h' tk hP fun b o hbw e=>hk b o hbw (Nat.ne_of_lt (Heap.lt_size e)) (Heap.get?_push_of_some _ e)
end
section
variable {X:Cx} {x:Str} {p pos kpos:Pos} {e:Expr} {t:TA}
noncomputable def rMaxD (K:PySem.W.Frag) (d:Int):List V → Hp → VK → Prop:=fun xs H Q=>∃ (p:Addr) (ns:List Int),xs = [.ref p] ∧ (SqL K H p (ns.map V.int) ∨ SqT K H p (ns.map V.int)) ∧ Q (.int (if ns = [] then d else maxI ns)) H
theorem call_maxDS (hc:X.calm = true) {pins:List (Addr × Obj)} {s:Shared} {σ:St} {H:Hp} {xs:List V} {us:List Value} {Q:VK} {d:Int} {tk:Tok} (I:Inv X pins σ H s) (r:Vals xs us) (h:rMaxD X.K d xs H Q) :
  wpAny (model X.prog X.w) X.A (call (.builtin "max") us [("default",.int d tk)]) (EP X pins σ Q) X.xe s:=by
 obtain ⟨p,ns,rfl,hq,q⟩:=h
 obtain ⟨u,rfl,rx⟩:=vals1 r
 cases rx
 refine call_maxd (iter_seq hc I hq fun its o St rv W st0 hlt=>?_)
 have hl:=rv.length
 rw [List.length_map] at hl
 refine ⟨_,_,_,_,_,_,_,rfl,W,st0,fun b hb=>?_,CmpOf.ints_gt (fun i=>ns.getD i 0) (ints_at rv),fun v h' tk' hv hk=>?_⟩
 ·rw [Heap.size_push]
  simp only [List.mem_cons,List.not_mem_nil,or_false] at hb
  rcases hb with rfl | rfl
  ·exact Nat.lt_succ_self _
  ·exact Nat.lt_succ_of_lt hlt
 ·rcases hv with ⟨h0,rfl⟩ | ⟨h0,hv⟩
  ·have hn:ns = []:=List.length_eq_zero_iff.mp (by omega)
   rw [if_pos hn] at q
   exact ⟨.int d,H,I.kept (LSm.kept_iter hk),⟨_,rfl⟩,q⟩
  ·have hn:¬ ns = []:=fun z=>by rw [z] at hl; simp at hl; omega
   rw [if_neg hn] at q
   obtain ⟨t,rfl⟩:=ints_at rv _ _ hv
   obtain ⟨b1,b2⟩:=best_max (fun i=>ns.getD i 0) (its.length - 1)
   refine ⟨.int (maxI ns),H,I.kept (LSm.kept_iter hk),?_,q⟩
   have e:ns.getD (argBest (fun i j=>decide (ns.getD i 0 > ns.getD j 0)) (its.length - 1)) 0 = maxI ns:=by
    cases ns with
    | nil=>exact absurd rfl hn
    | cons x r =>
     obtain ⟨m1,m2⟩:=maxI_spec r x
     have a1:=m2 _ (getD_memI (ns:=x :: r) (i:=argBest (fun i j=>decide ((x :: r).getD i 0 > (x :: r).getD j 0)) (its.length - 1)) (by omega))
     obtain ⟨j,hj,ej⟩:=mem_getDI m1
     have a2:=b2 j (by omega)
     show _ = r.foldl (fun a b=>if a < b then b else a) x
     rw [ej] at a2
     exact Int.le_antisymm a1 a2
   exact ⟨t,by rw [e]⟩
theorem pe_maxd (hc:X.calm = true) {d:Int} {dj:_} {dpos:Pos} (hg:Gl X x) (hm:X.mg x = none) (hv:bootBuiltins x = some (.builtin "max")) (ha:PA X [e] t) (hn:x ≠ "__name__":=by decide) (hdb:(x == ("__debug__":Str)) = false:=by decide)
  (he:∀ pos,backTo pos (starEach [e] X.env) = (false,eval e X.env) :: backTo pos (starEach [] X.env):=by intro _; rfl) (hpl:∀ pos,(backTo pos (starEach [e] X.env)).any (·.1) = false:=by intro _; rfl) :
  PE X (.Call (.Name x p) [e] [⟨some "default",.Constant (.int d) dj dpos,kpos⟩] pos) (tCB (rMaxD X.K d) t):=by
 intro pins s σ H Q I h
 refine wpAny_Call_Name_kw (ld_blt I hg hm hv ?_ hn hdb)
 refine callWith_kw (thn (ha pos pins s σ H _ I h) fun us s1 ⟨vs,H1,I1,r1,q1⟩=>?_) (he pos) (hpl pos) rfl rfl
 have hk:tCons (tC (.int d)) tNil σ H1 (fun ws H2=>ws = [.int d] ∧ H1 = H2):=by
  show [V.int d] = [V.int d] ∧ H1 = H1
  exact ⟨rfl,rfl⟩
 refine thn (pk_cons (nm:=some "default") (pe_int (i:=d)) pk_nil pos pins s1 σ H1 _ I1 hk) fun ws s2 ⟨zs,H2,I2,r2,e1,e2⟩=>?_
 subst e1 e2
 obtain ⟨u,rfl,rx⟩:=vals1 r2
 obtain ⟨tk,rfl⟩:=rx
 exact call_maxDS hc I2 r1 q1
end
end L2
namespace D
open PySem L2
noncomputable def maxDS (d:Int):En → List S → Option S:=fun Γ as=>match as with
 | [a]=>(seqS Γ a).bind fun xs=>(intsOf xs).map fun ns=>.v (.a (.int (if ns = [] then d else maxI ns)))
 | _=>none
theorem simRs_maxD {K:Fg} {d:Int}:SimRs K (rMaxD K d) (maxDS d):=by
 intro C w Γ σ H vs as s Q R o e k
 unfold maxDS at e
 split at e
 ·obtain ⟨xs,e1,e⟩:=bind_some e
  obtain ⟨ns,e2,e⟩:=map_some e
  cases e
  obtain ⟨v,rfl,o1⟩:=soks1 o
  obtain ⟨p,rfl,h⟩:=seq_ints R o1 e1 e2
  exact ⟨p,ns,rfl,h,k _ H R .refl SOk.atom trivial⟩
 ·cases e
section
variable {ι:Type} {K:Fg} {X:ι → Cx} {mg:Str → Option Value} {k:Nat} {e:Expr} {da:DA} {x:Str} {p pos kpos dpos:Pos}
theorem ex_maxd {d:Int} {dj:_} (M:Fm K mg k X) (hm:mg x = none) (hv:bootBuiltins x = some (.builtin "max")) (ha:AX K X [e] da) (hg:∀ j,Gl (X j) x:=by intro _; rfl) (hn:x ≠ "__name__":=by decide) (hdb:(x == ("__debug__":Str)) = false:=by decide)
  (he:∀ j pos,backTo pos (starEach [e] (X j).env) = (false,eval e (X j).env) :: backTo pos (starEach [] (X j).env):=by intro _ _; rfl) (hpl:∀ j pos,(backTo pos (starEach [e] (X j).env)).any (·.1) = false:=by intro _ _; rfl) :
  EX K X (.Call (.Name x p) [e] [⟨some "default",.Constant (.int d) dj dpos,kpos⟩] pos) (dCB (maxDS d) da) :=
 let ⟨_,q,u⟩:=ha; ⟨_,fun j=>by have:=pe_maxd (d:=d) (dj:=dj) (dpos:=dpos) (kpos:=kpos) (p:=p) (pos:=pos) (M.calm j) (hg j) (by rw [M.mg]; exact hm) hv (q j) hn hdb (he j) (hpl j); rw [M.K j] at this; exact this,sim_cb simRs_maxD u⟩
end
@[simp,simp ↓] theorem maxDS_ap {Γ:En} {d:Int} {a:S}:maxDS d Γ [a] = bnd (seqS Γ a) (f:=⟨fun xs=>omp (intsOf xs) (f:=⟨fun ns=>.v (.a (.int (if ns = [] then d else maxI ns)))⟩)⟩):=rfl
end D
set_option Elab.async false
set_option linter.all false
set_option maxRecDepth 100000
set_option maxHeartbeats 4000000
namespace D
open PySem L2
end D
set_option Elab.async false
set_option linter.all false
set_option maxRecDepth 100000
set_option maxHeartbeats 4000000
namespace D
open PySem L2
variable {K:Fg}
end D
set_option Elab.async false
set_option linter.all false
set_option maxRecDepth 100000
set_option maxHeartbeats 4000000
namespace D
open PySem L2
end D
set_option Elab.async false
set_option linter.all false
set_option maxRecDepth 100000
set_option maxHeartbeats 4000000
namespace D
open PySem L2
open PySem.SeqAt
end D
set_option Elab.async false
set_option linter.all false
set_option maxRecDepth 100000
set_option maxHeartbeats 4000000
set_option Elab.async false
set_option linter.all false
set_option maxRecDepth 100000
set_option maxHeartbeats 4000000
set_option Elab.async false
set_option linter.all false
set_option maxRecDepth 100000
set_option maxHeartbeats 4000000
namespace D
open PySem L2
end D
set_option Elab.async false
set_option linter.all false
set_option maxRecDepth 100000
set_option maxHeartbeats 4000000
set_option Elab.async false
set_option linter.all false
set_option maxRecDepth 100000
set_option maxHeartbeats 4000000
set_option Elab.async false
set_option linter.all false
set_option maxRecDepth 100000
set_option maxHeartbeats 4000000
namespace D
open PySem L2
section
variable {K:Fg}
theorem rep_args {C:Fr} {w:W} {Γ1:En} {σ:St} {H1:Hp} {vs:List V} {ss:List S} {gs:List G} (R1:Rep K C w Γ1 σ H1) (o1:SOks K C w σ H1 vs ss) (e2:argsG none Γ1 0 ss = some gs) :
  Rep K ⟨H1,[],[]⟩ ⟨[],fun q=>∃ o,H1 q = some o⟩ (gs.map some) (vs.map some) H1:=by
 have hl:=o1.len
 have hgl:=argsG_len e2
 refine ⟨by simp [hl,hgl],fun j g h=>?_,fun i j p ga gb ma mb h1 h2 h3 h4=>?_,fun p hp=>(nomatch hp),fun p hp=>(nomatch hp),fun p hp=>hp,fun p hp=>nofun,fun b o h _=>h,R1.tab,fun q hq=>(nomatch hq)⟩
 ·rw [List.getElem?_map] at h
  obtain ⟨g',h',h⟩:=map_some h
  cases h
  obtain ⟨s,a1,a2⟩:=argsG_get e2 h'
  obtain ⟨v,b1,b2⟩:=o1.get a1
  refine ⟨v,by rw [List.getElem?_map,b1]; rfl,?_⟩
  cases s with
  | v t=>cases a2; exact b2
  | l xs =>
   simp only [argG,reduceCtorEq,if_false,Option.some.injEq] at a2
   subst a2
   obtain ⟨p,us,rfl,n1,n2,ow,h1,h2⟩:=b2
   exact ⟨p,us,rfl,h2,h1,nofun,⟨_,h1⟩⟩
  | d xs =>
   simp only [argG,reduceCtorEq,if_false,Option.some.injEq] at a2
   subst a2
   obtain ⟨p,us,rfl,n1,n2,ow,h1,h2⟩:=b2
   exact ⟨p,us,rfl,h2,h1,nofun,⟨_,h1⟩⟩
  | s i =>
   have b2':σ[i]? = some (some v):=b2
   unfold argG at a2
   dsimp only at a2
   split at a2
   ·rename_i xs hx
    simp only [reduceCtorEq,if_false,Option.some.injEq] at a2
    subst a2
    obtain ⟨v',c1,p,us,rfl,c2,c3,c4⟩:=R1.val i _ hx
    rw [b2'] at c1; cases c1
    exact ⟨p,us,rfl,c4,c3,nofun,⟨_,c3⟩⟩
   ·rename_i xs hx
    simp only [reduceCtorEq,if_false,Option.some.injEq] at a2
    subst a2
    obtain ⟨v',c1,p,us,rfl,c2,c3⟩:=R1.val i _ hx
    rw [b2'] at c1; cases c1
    exact ⟨p,us,rfl,c2,c3.1,nofun,R1.ra p c3.2.2⟩
   ·rename_i xs hx
    simp only [reduceCtorEq,if_false,Option.some.injEq] at a2
    subst a2
    obtain ⟨v',c1,c2⟩:=R1.val i _ hx
    rw [b2'] at c1; cases c1
    exact c2
   ·rename_i xs hx
    simp only [reduceCtorEq,if_false,Option.some.injEq] at a2
    subst a2
    obtain ⟨v',c1,p,us,rfl,c2,c3,c4⟩:=R1.val i _ hx
    rw [b2'] at c1; cases c1
    exact ⟨p,us,rfl,c4,c3,nofun,⟨_,c3⟩⟩
   ·rename_i xs hx
    simp only [reduceCtorEq,if_false,Option.some.injEq] at a2
    subst a2
    obtain ⟨v',c1,p,us,rfl,c2,c3⟩:=R1.val i _ hx
    rw [b2'] at c1; cases c1
    exact ⟨p,us,rfl,c2,c3.1,nofun,R1.ra p c3.2.2⟩
   ·cases a2
 ·rw [List.getElem?_map] at h1
  obtain ⟨g',h',h⟩:=map_some h1
  cases h
  obtain ⟨s,a1,a2⟩:=argsG_get e2 h'
  cases s with
  | v t=>cases a2; cases ma
  | l xs=>simp [argG] at a2; subst a2; cases ma
  | d xs=>simp [argG] at a2; subst a2; cases ma
  | s i =>
   unfold argG at a2
   dsimp only at a2
   split at a2 <;> simp at a2 <;> (subst a2; cases ma)
end
noncomputable abbrev EE:=Value → Shared → Prop
end D
set_option Elab.async false
set_option linter.all false
set_option maxRecDepth 100000
set_option maxHeartbeats 4000000
namespace D
open PySem L2
end D
set_option Elab.async false
set_option linter.all false
set_option maxRecDepth 100000
set_option maxHeartbeats 4000000
set_option Elab.async false
set_option linter.all false
set_option maxRecDepth 100000
set_option maxHeartbeats 4000000
namespace D
open PySem L2
end D
set_option Elab.async false
set_option linter.all false
set_option maxRecDepth 100000
set_option maxHeartbeats 4000000
namespace D
open PySem L2
@[simp low] theorem ifB_i {α:Type} {b:Bool} {x y:α}:ifB b (x:=⟨x⟩) (y:=⟨y⟩) = if b = true then x else y:=rfl
@[simp low] theorem ifO_i {α:Type} {p:Option Nat} {k:Nat} {x y:α}:ifO p k x y = if p = some k then x else y:=rfl
@[simp low] theorem ifN_i {α:Type} {m k:Nat} {x y:α}:ifN m k x y = if m = k then x else y:=rfl
@[simp low] theorem ifM_i {α:Type} {k:Nat} {l:List Nat} {x y:α}:ifM k l x y = if k ∈ l then x else y:=rfl
end D
set_option Elab.async false
set_option linter.all false
set_option maxRecDepth 100000
set_option maxHeartbeats 4000000
namespace L2
open PySem PySem.Spec PyProof.Rows
noncomputable def rmH (H:Hp) (c:Addr):Hp:=fun b=>if b = c then none else H b
section
variable {P:Program} {w:World} {H:Hp} {h:Heap} {b c:Addr} {φ:Heap → Prop}
theorem rm_same:rmH H c c = none:=if_pos rfl
theorem rm_ne (h:b ≠ c):rmH H c b = H b:=if_neg h
theorem rm_some {o:HO} (h:rmH H c b = some o):b ≠ c ∧ H b = some o:=by
 by_cases e:b = c
 ·subst e; rw [rm_same] at h; cases h
 ·rw [rm_ne e] at h; exact ⟨e,h⟩
theorem rm_none (h:H b = none):rmH H c b = none:=by
 by_cases e:b = c
 ·subst e; exact rm_same
 ·rw [rm_ne e]; exact h
theorem HOk.rm (x:HOk P w H h) (hc:H c = some (.ext φ)):HOk P w (rmH H c) h:=fun b o e=>by
 obtain ⟨hb,e⟩:=rm_some e
 exact (x b o e).stay (fun _ _ _ q=>q) (fun d q=>by rw [rm_ne (fun z=>by rw [z,hc] at q; cases q)]; exact q) (fun d xs q=>by rw [rm_ne (fun z=>by rw [z,hc] at q; cases xs <;> cases q)]; exact q)
theorem HOk.re {o':HO} (x:HOk P w H h) (hc:H c = none) (new:ObjOk P w (upd H c o') h c o'):HOk P w (upd H c o') h:=fun b o e=>by
 by_cases hb:b = c
 ·subst hb; rw [upd_same] at e; cases e; exact new
 ·rw [upd_ne hb] at e
  exact (x b o e).stay (fun _ _ _ q=>q) (fun d q=>by rw [upd_ne (ne_of_none q hc)]; exact q) (fun d xs q=>by rw [upd_ne (ne_of_none q hc)]; exact q)
end
end L2
namespace D
open PySem PySem.Spec PyProof.Rows L2
theorem cell_obj {P:Program} {w:World} {H:Hp} {h:Heap} {c:Addr} {v:V} {o:Obj} (x:cellO c v o h):ObjOk P w H h c (.ext (cellO c v o)):=by
 refine ⟨x,⟨o,x.1⟩,fun h1 h2 y k=>⟨k o y.1,y.2⟩⟩
theorem lam_obj {P:Program} {w:World} {H:Hp} {h:Heap} {L:Lam} {f c c':Addr} (x:lamO L f c c' h):ObjOk P w H h f (.ext (lamO L f c c')):=by
 refine ⟨x,?_,fun h1 h2 y k=>?_⟩
 ·obtain ⟨pm,ct,e⟩:=x; exact ⟨_,e⟩
 ·obtain ⟨pm,ct,e⟩:=y; exact ⟨pm,ct,k _ e⟩
structure LamScope (L:Lam) (p1 p2:Str):Prop where
 kind:L.scope.kind = .function
 co:L.scope.isCoroutine = false
 gen:L.scope.isGenerator = false
 nocell:∀ y ∈ L.scope.names,y.2 ≠ .cell
 l1:L.scope.names.lookup p1 = some .local
 l2:L.scope.names.lookup p2 = some .local
 fr:L.scope.names.lookup L.x = some .free
 only:∀ y,L.scope.names.lookup y = some .free → y = L.x
 n12:p1 ≠ p2
 bind:∀ (cl:List (Str × Addr)) (pm cd ct a b:Value),bindArgs (PySem.W.kla_fn "<lambda>" L.qual L.params L.body L.scope cl pm cd ct) ⟨[a,b],[]⟩ = pure [(p1,a),(p2,b)]
noncomputable def cxLam (P:Program) (w:World) (K:Fg) (mg:Str → Option Value) (base:Heap) (L:Lam) (p1 p2:Str) (f:Addr) (cd:Value) (c:Addr) (A:Around) (outer:List Env) (s:Shared) (H:Hp):Cx where
 prog:=P
 w:=w
 K:=K
 mg:=mg
 base:=base
 A:=A.deeper (PySem.W.envX L.qual L.scope s.heap.objs.size f cd [(L.x,c)])
 N:=[p1,p2,L.x]
 s₀:=s
 H₀:=H
 env:=PySem.W.envX L.qual L.scope s.heap.objs.size f cd [(L.x,c)]
 outer:=outer
 stack:=PySem.W.envX L.qual L.scope s.heap.objs.size f cd [(L.x,c)] :: outer
 ex:=[]
 calm:=true
 fn:=fun _=>false
 pn:=[]
 xe:=fun _ _=>False
section
variable {P:Program} {w:World} {K:Fg} {mg:Str → Option Value} {base:Heap} {k:Nat} {L:Lam} {p1 p2:Str} {f c c':Addr}
theorem look1 {c:Addr} {x y:Str} {d:Addr} (h:([(x,c)]:List (Str × Addr)).lookup y = some d):y = x ∧ d = c:=by
 rw [List.lookup_cons] at h
 by_cases e:y = x
 ·subst e; simp at h; exact ⟨rfl,h.symm⟩
 ·have:(y == x) = false:=by simpa using e
  rw [this] at h; cases h
theorem lam_run (S:LamScope L p1 p2) {A:Around} {outer:List Env} {s:Shared} {H:Hp} {a1 a2 va:V} {u1 u2:Value} {Q:VK} {E:XK} (hr:Room (k + 1) A) (e0:Env0 P w K mg base A outer s H)
  (hf:H f = some (.ext (lamO L f c c'))) {oc:Obj} (hc:H c = some (.ext (cellO c va oc))) (hd:H c' = some (.cod L.qual)) (r1:RelV a1 u1) (r2:RelV a2 u2)
  (hbody:Room k (A.deeper (PySem.W.envX L.qual L.scope s.heap.objs.size f (.ref c') [(L.x,c)])) → ∃ t,PE (cxLam P w K mg base L p1 p2 f (.ref c') c A outer s (rmH H c)) L.body t ∧ t [some a1,some a2,some va] (rmH H c) fun v H'=>Q v (upd H' c (.ext (cellO c va oc)))) :
  codeAny (model P w) A (.call (.ref f) ⟨[u1,u2],[]⟩) (CR CX0 outer P w H s Q E) s:=by
 obtain ⟨⟨pm,ct,ho⟩,_,_⟩:=(show ObjOk P w H s.heap f (.ext (lamO L f c c')) from e0.hok f _ hf)
 obtain ⟨⟨ec,uc,rc,dc⟩,_,_⟩:=(show ObjOk P w H s.heap c (.ext (cellO c va oc)) from e0.hok c _ hc)
 obtain ⟨od,vs,td,ed,dd,qd⟩:=(show ObjOk P w H s.heap c' (.cod L.qual) from e0.hok c' _ hd)
 have lim:s.heap.NoLimit:=e0.mod.nolimit.keeps fun b o e=>(e0.bs b o e).1
 refine PySem.W.kla_callFunE hr.depth ho rfl S.co S.gen rfl ⟨c',od,vs,td,rfl,ed,dd,qd⟩ ?_
 rw [S.bind]
 refine wpAny_pure (wpAny_newFunctionEnv S.nocell (fun y hy=>?_) (fun h1 hns hsb=>⟨lim.fresh _ hsb,?_⟩) S.kind)
 ·rcases List.mem_cons.mp hy with z | z
  ·rw [z]; exact S.l1
  ·rw [List.mem_singleton.mp z]; exact S.l2
 show codeAny _ _ (.expr L.body (PySem.W.envX L.qual L.scope s.heap.objs.size f (.ref c') [(L.x,c)])) _ _
 have hk:∀ b o,s.heap.get? b = some o → h1.get? b = some o:=fun b o e=>hsb.extBut b o (Nat.ne_of_lt (Heap.lt_size e)) (Heap.get?_push_of_some _ e)
 have hcb:c < s.heap.objs.size:=Heap.lt_size ec
 obtain ⟨t,ht,hq⟩:=hbody (hr.deeper _)
 have hok1:=e0.hok.rm hc
 have I:Inv (cxLam P w K mg base L p1 p2 f (.ref c') c A outer s (rmH H c)) [] [some a1,some a2,some va] (rmH H c) { s with heap:=h1,toks:=s.toks + [(p1,u1),(p2,u2)].length }:=by
  refine ⟨⟨e0.mod,S.kind,rfl,rfl,Nat.le_refl _,fun y z d q1 q2=>?_,fun y hy=>?_,(fun _ _ z=>nomatch z),fun _=>hr.hd,Around.frames_deeper e0.frames,.inr ⟨rfl,rfl⟩,(fun b z=>nomatch z),fun b o e=>⟨(e0.bs b o e).1,rm_none (e0.bs b o e).2⟩,e0.bsz,(fun b _ _ z=>nomatch z),(fun b z=>nomatch z),e0.funs,fun b hb=>rm_none (e0.frf b hb)⟩,
   rfl,e0.bare,Un.kept hk,⟨_,hns,fun i y v q1 q2 q3=>?_⟩,fun y d q=>?_,rm_none (e0.hok.fresh (Nat.le_refl _)),fun y d q=>?_,(fun p hp=>nomatch hp),hok1.kept hk,rfl⟩
  ·rw [(look1 q1).1,(look1 q2).1]
  ·have hy:L.scope.names.lookup y = some .cell ∨ L.scope.names.lookup y = some .free:=hy
   rcases hy with z | z
   ·exact absurd rfl (S.nocell _ (PySem.mem_of_lookup z))
   ·rw [S.only y z]
    exact ⟨c,by show ([(L.x,c)]:List (Str × Addr)).lookup L.x = _; simp⟩
  ·match i,q1,q2 with
   | 0,q1,q2 =>
    cases q1; cases q2
    refine ⟨u1,r1,.inl ⟨S.l1,?_⟩⟩
    show ([(p1,u1),(p2,u2)]:List (Str × Value)).reverse.lookup p1 = _
    have:(p1 == p2) = false:=by simpa using S.n12
    simp [List.lookup_cons,this]
   | 1,q1,q2 =>
    cases q1; cases q2
    refine ⟨u2,r2,.inl ⟨S.l2,?_⟩⟩
    show ([(p1,u1),(p2,u2)]:List (Str × Value)).reverse.lookup p2 = _
    simp [List.lookup_cons]
   | 2,q1,q2 =>
    cases q1; cases q2
    exact ⟨uc,rc,.inr ⟨.inr S.fr,c,by show ([(L.x,c)]:List (Str × Addr)).lookup L.x = _; simp,oc,hk _ _ ec,dc⟩⟩
   | i + 3,q1,q2=>cases q1
  ·rw [(look1 q).2]; exact ⟨_,oc,hk _ _ ec,dc⟩
  ·rw [(look1 q).2]; exact rm_same
 refine PySem.W.kla_codeExpr (wpAny_mono (ht [] _ _ _ _ I hq) (fun u s' hs=>?_) fun _ _ z=>z.elim)
 obtain ⟨v,H',J,rv,q⟩:=hs
 have hcn:H' c = none:=J.freeC L.x c (by show ([(L.x,c)]:List (Str × Addr)).lookup L.x = _; simp)
 have un:=J.base
 have cfs:c ∉ frs outer:=fun z=>by have:=e0.frf c z; rw [hc] at this; cases this
 have ec':s'.heap.get? c = some oc:=un.keep c oc ec rm_same cfs (by simp [cxLam])
 have nof:(cxLam P w K mg base L p1 p2 f (.ref c') c A outer s (rmH H c)).ex = []:=rfl
 refine ⟨v,_,J.os,J.bare,?_,J.hok.re hcn (cell_obj ⟨ec',uc,rc,dc⟩),rv,q⟩
 exact {
  keep:=fun b o e n hb hx=>un.keep b o e (rm_none n) hb hx
  slot:=fun b o e n hb hx=>un.slot b o e (rm_none n) hb hx
  free:=fun b o e n hx=>by
   have hbc:b ≠ c:=fun z=>by rw [z,hc] at n; cases n
   rw [upd_ne hbc]; exact un.free b o e (rm_none n) hx
  there:=fun b o e hx=>un.there b o e hx
  tups:=fun b xs e=>by
   have hbc:b ≠ c:=fun z=>by rw [z,hc] at e; cases e
   rw [upd_ne hbc]; exact un.tups b xs ((rm_ne hbc).trans e)
  frzs:=fun b o u e=>by
   have hbc:b ≠ c:=fun z=>by rw [z,hc] at e; cases e
   rw [upd_ne hbc]; exact un.frzs b o u ((rm_ne hbc).trans e)
  tbls:=fun b ps e=>by
   have hbc:b ≠ c:=fun z=>by rw [z,hc] at e; cases e
   rw [upd_ne hbc]; exact un.tbls b ps ((rm_ne hbc).trans e) }
end
end D
set_option Elab.async false
set_option linter.all false
set_option maxRecDepth 100000
set_option maxHeartbeats 4000000
namespace D
open PySem PySem.Spec PyProof.Rows L2
theorem triples_snoc {a b:Int} {t u:Tok} {c:Value} (l:List Value) (h:TriplesOk l):TriplesOk (l ++ [.int a t,.int b u,c]):=by
 fun_induction TriplesOk l with
 | case1=>simp [TriplesOk]
 | case2 _ _ _ _ _ r ih=>simp only [List.cons_append,TriplesOk]; exact ih h
 | case3=>exact h.elim
theorem among_snoc {pos:Pos} {a b:Int} {t u:Tok} {c cv:Value} (l:List Value) (h:TriplesOk l) (e:codeAmong pos (l ++ [.int a t,.int b u,c]) = some cv):codeAmong pos l = some cv ∨ cv = c:=by
 fun_induction TriplesOk l with
 | case1 =>
  simp only [List.nil_append,codeAmong] at e
  split at e
  ·cases e; exact .inr rfl
  ·cases e
 | case2 _ _ _ _ _ r ih =>
  simp only [List.cons_append,codeAmong] at e ⊢
  split at e
  ·rename_i z; rw [if_pos z]; exact .inl e
  ·rename_i z; rw [if_neg z]; exact ih h e
 | case3=>exact h.elim
section
variable {X:Cx} {L:Lam} {pos:Pos} {c0 P0:Addr}
theorem lam_inv {pins:List (Addr × Obj)} {σ:L2.St} {H:Hp} {s:Shared} {h':Heap} {P c' c:Addr} {q:Str} {tk:Tok} {pm ct:Value} (I:Inv X pins σ H s) (hP:H P = some (.tbq q)) (hq:q = L.qual) (hx:∀ b o,b ≠ P → s.heap.get? b = some o → h'.get? b = some o) (hs:s.heap.objs.size ≤ h'.objs.size)
  (hc:(H c' = some (.cod q)) ∨ (s.heap.objs.size ≤ c' ∧ c' < h'.objs.size ∧ h'.CodeRec (.ref c') q)) (hp:∃ ps:Array Value,h'.get? P = some { cls:=.none,data:=.fields ps } ∧ TriplesOk ps.toList ∧ ∀ pos cv,codeAmong pos ps.toList = some cv → ∃ d,cv = .ref d ∧ (d = c' ∨ H d = some (.cod q))) :
  ∃ H1,Inv X pins σ H1 { s with heap:=h'.push (PySem.W.kla_obj "<lambda>" L.qual L.params L.body L.scope [(L.x,c)] pm c' ct),toks:=tk } ∧ (∀ b o,H b = some o → H1 b = some o) ∧ H1 h'.objs.size = some (.ext (lamO L h'.objs.size c c')) ∧ H1 c' = some (.cod q):=by
 subst hq
 have hn:∀ {b},s.heap.objs.size ≤ b → H b = none:=fun hb=>I.hok.fresh hb
 have hfn:H h'.objs.size = none:=hn hs
 have hcf:c' ≠ h'.objs.size:=by
  rcases hc with z | ⟨_,z,_⟩
  ·exact fun e=>by rw [e,hfn] at z; cases z
  ·exact Nat.ne_of_lt z
 let H1:Hp:=upd (upd H c' (.cod L.qual)) h'.objs.size (.ext (lamO L h'.objs.size c c'))
 have e1:H1 h'.objs.size = some (.ext (lamO L h'.objs.size c c')):=upd_same
 have e2:H1 c' = some (.cod L.qual):=by show upd _ _ _ _ = _; rw [upd_ne hcf]; exact upd_same
 have old:∀ b o,H b = some o → H1 b = some o:=fun b o e=>by
  show upd _ _ _ _ = _
  rw [upd_ne (ne_of_none e hfn)]
  by_cases hb:b = c'
  ·subst hb
   rcases hc with z | ⟨z,_,_⟩
   ·rw [z] at e; cases e; exact upd_same
   ·rw [hn z] at e; cases e
  ·rw [upd_ne hb]; exact e
 have get:∀ b o,b ≠ P → s.heap.get? b = some o → (h'.push (PySem.W.kla_obj "<lambda>" L.qual L.params L.body L.scope [(L.x,c)] pm c' ct)).get? b = some o:=fun b o n e=>Heap.get?_push_of_some _ (hx b o n e)
 have nP:∀ b,H b = none → b ≠ P:=fun b n z=>by rw [z,hP] at n; cases n
 obtain ⟨ps,hp1,hp2,hp3⟩:=hp
 refine ⟨H1,I.un ?_ ?_,old,e1,e2⟩
 ·exact {
   keep:=fun b o e n _ _=>get b o (nP b n) e
   slot:=fun b o e n _ _=>⟨o.slots,get b o (nP b n) e⟩
   free:=fun b o e n _=>by
    have hb:=Heap.lt_size e
    show upd _ _ _ _ = _
    have h1:b ≠ h'.objs.size:=Nat.ne_of_lt (Nat.lt_of_lt_of_le hb hs)
    have h2:b ≠ c':=fun z=>by
     rcases hc with y | ⟨y,_,_⟩
     ·rw [← z,n] at y; cases y
     ·rw [← z] at y; exact absurd hb (Nat.not_lt.mpr y)
    rw [upd_ne h1,upd_ne h2]; exact n
   there:=fun b o e _=>by
    by_cases hb:b = P
    ·subst hb; exact ⟨_,Heap.get?_push_of_some _ hp1⟩
    ·exact ⟨o,get b o hb e⟩
   tups:=fun b xs e=>old b _ e
   frzs:=fun b o u e=>old b _ e
   tbls:=fun b ps e=>⟨#[],by rw [old b _ e]; simp⟩ }
 ·intro b o e
  by_cases hb:b = h'.objs.size
  ·subst hb
   rw [e1] at e; cases e
   exact lam_obj ⟨pm,ct,Heap.get?_push_size _ rfl⟩
  ·by_cases hb2:b = c'
   ·subst hb2
    rw [e2] at e; cases e
    rcases hc with z | ⟨z,z2,z3⟩
    ·obtain ⟨o,vs,t,q1,q2⟩:=(show ObjOk X.prog X.w H s.heap b (.cod L.qual) from I.hok b _ z)
     exact ⟨o,vs,t,get b o (fun y=>by rw [y,hP] at z; cases z) q1,q2⟩
    ·obtain ⟨_,o,vs,t,q0,q1,q2,q3⟩:=z3
     cases q0
     exact ⟨o,vs,t,Heap.get?_push_of_some _ q1,q2,q3⟩
   ·have e':H b = some o:=by
     have e:upd _ _ _ _ = _:=e
     rw [upd_ne hb,upd_ne hb2] at e; exact e
    by_cases hb3:b = P
    ·subst hb3
     rw [hP] at e'; cases e'
     refine ⟨ps,Heap.get?_push_of_some _ hp1,hp2,fun pos cv z=>?_⟩
     obtain ⟨d,hd,z⟩:=hp3 pos cv z
     refine ⟨d,hd,?_⟩
     rcases z with z | z
     ·rw [z]; exact e2
     ·exact old _ _ z
    ·exact (I.hok b o e').stay (fun d u z q=>get d u (fun y=>by
      rcases z with z | z
      ·exact hb3 (z ▸ y)
      ·rw [y,hP] at z; cases z) q) (fun d q=>old _ _ q) (fun d xs q=>old _ _ q)
theorem pe_lam (hcode:X.env.code = .ref c0) (hH:PySem.W.codeHdIn X.K c0 P0 = true) (hg:X.env.globals = mainGlobals)
  (hcl:∀ c,X.env.cells.lookup L.x = some c → closureFor L.scope X.env = pure [(L.x,c)]) (hq:X.env.qual ++ "<lambda>" = L.qual) (hdef:defaultsOf L.params X.env = ([],[])) :
  PE X (.Lambda L.params L.body L.scope pos) (fun σ H Q=>∃ c,X.env.cells.lookup L.x = some c ∧ H P0 = some (.tbq L.qual) ∧ ∀ f c' H1,(∀ b o,H b = some o → H1 b = some o) → H1 f = some (.ext (lamO L f c c')) → H1 c' = some (.cod L.qual) → Q (.ref f) H1):=by
 intro pins s σ H Q I h
 obtain ⟨c,hc,hP,h⟩:=h
 refine PySem.W.kla_eval hdef ?_
 rw [hq]
 have hm:=I.mod
 have hns:s.heap.Ns mainGlobals X.mg:=hm.glob.keeps I.bk
 have C:=PySem.W.codeHd_of_K I.kIn hH
 obtain ⟨ps,g1,g2,g3⟩:=(show ObjOk X.prog X.w H s.heap P0 (.tbq L.qual) from I.hok P0 _ hP)
 have hnb:∀ b o,X.base.get? b = some o → b ≠ P0:=fun b o e z=>by
  have:=(I.bs b o e).2
  rw [z,hP] at this; cases this
 have hgP:mainGlobals ≠ P0:=by
  obtain ⟨o,es,ep,e,_⟩:=hm.glob
  exact hnb _ _ e
 obtain ⟨bm,ob,b1,b2,b3,b4,b5,b6⟩:=hm.bmod
 have hbG:bm ≠ mainGlobals:=fun z=>by
  obtain ⟨o,es,ep,e,hd,_⟩:=hm.glob
  rw [← z,b3] at e; cases e
  rw [b6] at hd; cases hd
 have hb:s.heap.BuiltinsAt X.mg P0:=⟨bm,ob,b1,b2,hbG,hnb _ _ b3,I.bk _ _ b3,b4,b5,b6⟩
 cases hca:codeAmong pos ps.toList with
 | none =>
  refine PySem.W.kla_makeFunction (hcl c hc) hg hns hcode C g1 g2 hca hgP hb fun c' ctv h' tk hx hge hlt hrec htb=>?_
  obtain ⟨H1,J,k1,k2,k3⟩:=lam_inv (L:=L) (c:=c) (pm:=(X.mg "__name__").getD .none) (ct:=ctv) (tk:=tk) I hP rfl (fun b o n e=>hx b o n e) (by omega) (.inr ⟨hge,hlt,hrec⟩) ⟨_,htb,by
   rw [Array.toList_append]; exact triples_snoc _ g2,fun pos cv z=>by
   rw [Array.toList_append] at z
   rcases among_snoc _ g2 z with z | z
   ·obtain ⟨d,z1,z2⟩:=g3 pos cv z; exact ⟨d,z1,.inr z2⟩
   ·exact ⟨c',z,.inl rfl⟩⟩
  exact ⟨.ref h'.objs.size,H1,J,rfl,h _ _ _ k1 k2 k3⟩
 | some cv =>
  obtain ⟨c',rfl,hc'⟩:=g3 pos cv hca
  refine PySem.W.kla_makeFunctionHit (hcl c hc) hg hns hcode C g1 g2 hca hb fun ctv h' tk hk hsz=>?_
  obtain ⟨H1,J,k1,k2,k3⟩:=lam_inv (L:=L) (c:=c) (pm:=(X.mg "__name__").getD .none) (ct:=ctv) (tk:=tk) I hP rfl (fun b o _ e=>hk b o e) hsz (.inl hc') ⟨ps,hk _ _ g1,g2,fun pos cv z=>by
   obtain ⟨d,z1,z2⟩:=g3 pos cv z; exact ⟨d,z1,.inr z2⟩⟩
  exact ⟨.ref h'.objs.size,H1,J,rfl,h _ _ _ k1 k2 k3⟩
end
end D
set_option Elab.async false
set_option linter.all false
set_option maxRecDepth 100000
set_option maxHeartbeats 4000000
namespace D
open PySem PySem.Spec PyProof.Rows L2
mutual
noncomputable def T.pl:T → Bool
 | .a _=>true
 | .t ts=>T.pls ts
 | .l ts=>T.pls ts
 | .f _=>true
 | .x _ _=>false
 | .m _ _=>false
noncomputable def T.pls:List T → Bool
 | []=>true
 | y :: r=>T.pl y && T.pls r
end
theorem pl_a {v:V}:T.pl (.a v) = true:=by unfold T.pl; rfl
theorem pl_t {ts:List T}:T.pl (.t ts) = T.pls ts:=by rw [T.pl]
theorem pl_l {ts:List T}:T.pl (.l ts) = T.pls ts:=by rw [T.pl]
theorem pls_nil:T.pls [] = true:=by unfold T.pls; rfl
theorem pls_cons {t:T} {ts:List T}:T.pls (t :: ts) = (t.pl && T.pls ts):=by rw [T.pls]
theorem pls_all:∀ {ts:List T},(∀ t ∈ ts,t.pl = true) → T.pls ts = true
 | [],_=>pls_nil
 | _ :: _,h=>by rw [pls_cons,h _ List.mem_cons_self,pls_all fun t ht=>h t (List.mem_cons_of_mem _ ht)]; rfl
noncomputable def G.pl:G → Bool
 | .v t=>t.pl
 | .r ts=>T.pls ts
 | .k ts=>T.pls ts
 | _=>false
section
variable {K:Fg} {H:Hp} {c:Addr} {φ:Heap → Prop}
theorem Tp.rm {p:Addr} {vs:List V} (hc:H c = some (.ext φ)) (h:Tp K H p vs):Tp K (rmH H c) p vs:=by
 rcases h with h | h
 ·exact .inl ((rm_ne fun z=>by rw [z,hc] at h; cases h).trans h)
 ·exact .inr h
theorem KF.rm {p:Addr} {vs:List V} (hc:H c = some (.ext φ)) (h:KF K H p vs):KF K (rmH H c) p vs:=by
 rcases h with ⟨o,h⟩ | h
 ·exact .inl ⟨o,(rm_ne fun z=>by rw [z,hc] at h; cases h).trans h⟩
 ·exact .inr h
mutual
theorem Im.rm (hc:H c = some (.ext φ)):∀ {v:V} {t:T},t.pl = true → Im K H v t → Im K (rmH H c) v t
 | _,.a _,_,h=>h
 | _,.t _,q,h=>by
  rw [pl_t] at q
  unfold Im at h ⊢
  obtain ⟨p,vs,rfl,hs,hi⟩:=h
  exact ⟨p,vs,rfl,hs.rm hc,Ims.rm hc q hi⟩
 | _,.l _,q,h=>by
  rw [pl_l] at q
  unfold Im at h ⊢
  obtain ⟨p,vs,rfl,hs,hi⟩:=h
  exact ⟨p,vs,rfl,hs.rm hc,Ims.rm hc q hi⟩
 | _,.f _,_,h=>by unfold Im at h ⊢; exact h
 | _,.x _ _,q,_=>by unfold T.pl at q; cases q
 | _,.m _ _,q,_=>by unfold T.pl at q; cases q
theorem Ims.rm (hc:H c = some (.ext φ)):∀ {vs:List V} {ts:List T},T.pls ts = true → Ims K H vs ts → Ims K (rmH H c) vs ts
 | _,[],_,h=>h
 | _,_ :: _,q,h=>by
  rw [pls_cons,Bool.and_eq_true] at q
  unfold Ims at h ⊢
  obtain ⟨v,r,rfl,h1,h2⟩:=h
  exact ⟨v,r,rfl,Im.rm hc q.1 h1,Ims.rm hc q.2 h2⟩
end
theorem TabOk.rm (hc:H c = some (.ext φ)) (h:TabOk K H):TabOk K (rmH H c):=fun a P z=>(rm_ne fun e=>by have:=h a P z; rw [e,hc] at this; cases this).trans (h a P z)
theorem GOk.rm {v:V} {g:G} {w:W} (hc:H c = some (.ext φ)) (q:g.pl = true) (h:GOk K w H v g):GOk K ⟨[],fun b=>∃ o,rmH H c b = some o⟩ (rmH H c) v g:=by
 cases g with
 | v t=>exact Im.rm hc q h
 | r ts =>
  obtain ⟨p,vs,rfl,hi,h1,_⟩:=h
  have e:rmH H c p = some (.lst vs):=(rm_ne fun z=>by rw [z,hc] at h1; cases h1).trans h1
  exact ⟨p,vs,rfl,Ims.rm hc q hi,e,nofun,⟨_,e⟩⟩
 | k ts =>
  obtain ⟨p,vs,rfl,hi,h1⟩:=h
  exact ⟨p,vs,rfl,Ims.rm hc q hi,h1.rm hc⟩
 | l _=>cases q
 | d _=>cases q
 | e _=>cases q
theorem pl_mut {g:G} (h:g.pl = true):isMut g = false:=by cases g <;> first | rfl | cases h
theorem rep_lam {C:Fr} {w:W} {Γ1:En} {σ:L2.St} {a1 a2 va:V} {ss:List S} {g1 g2:G} {ta:T} (hc:H c = some (.ext φ)) (R1:Rep K C w Γ1 σ H) (o1:SOks K C w σ H [a1,a2] ss) (e2:argsG none Γ1 0 ss = some [g1,g2]) (q1:g1.pl = true) (q2:g2.pl = true) (q3:ta.pl = true) (ha:Im K H va ta) :
  Rep K ⟨rmH H c,[],[]⟩ ⟨[],fun b=>∃ o,rmH H c b = some o⟩ [some g1,some g2,some (.v ta)] [some a1,some a2,some va] (rmH H c):=by
 have R:=rep_args R1 o1 e2
 have get:∀ (i:Nat) (g:G),([some g1,some g2,some (.v ta)]:En)[i]? = some (some g) → g.pl = true ∧ ∃ v,([some a1,some a2,some va]:L2.St)[i]? = some (some v) ∧ GOk K ⟨[],fun b=>∃ o,rmH H c b = some o⟩ (rmH H c) v g:=fun i g h=>by
  match i,h with
  | 0,h=>cases h; obtain ⟨v,e,z⟩:=R.val 0 g1 rfl; cases e; exact ⟨q1,_,rfl,z.rm hc q1⟩
  | 1,h=>cases h; obtain ⟨v,e,z⟩:=R.val 1 g2 rfl; cases e; exact ⟨q2,_,rfl,z.rm hc q2⟩
  | 2,h=>cases h; exact ⟨q3,_,rfl,Im.rm hc q3 ha⟩
  | i + 3,h=>cases h
 refine ⟨rfl,fun i g h=>(get i g h).2,fun i j p g g' m _ h _ _ _=>?_,fun p hp=>(nomatch hp),fun p hp=>(nomatch hp),fun p hp=>hp,fun p hp=>nofun,fun b o h _=>h,R1.tab.rm hc,fun q hq=>(nomatch hq)⟩
 rw [pl_mut (get i g h).1] at m; cases m
end
noncomputable def lamF (dl:DE) (ta:T) (gs:List G):Option V:=match gs with
 | [g1,g2]=>if g1.pl && g2.pl && ta.pl then match dl [some g1,some g2,some (.v ta)] with
  | some (.v (.a u),_)=>some u
  | _=>none
  else none
 | _=>none
noncomputable def LD (P:Program) (wd:World) (K:Fg) (mg:Str → Option Value) (base:Heap) (k:Nat) (L:Lam) (dl:DE):Prop:=∃ p1 p2,LamScope L p1 p2 ∧ ∀ (f c:Addr) (cd:Value) (A:Around) (outer:List Env) (s:Shared) (H:Hp),
 Room k (A.deeper (PySem.W.envX L.qual L.scope s.heap.objs.size f cd [(L.x,c)])) → ∃ t,PE (cxLam P wd K mg base L p1 p2 f cd c A outer s H) L.body t ∧ SimE K t dl
end D
namespace L2
open PySem PySem.Spec PyProof.Rows D
section
variable {X:Cx} {x:Str} {p pos:Pos} {e:Expr} {es:List Expr} {t:TA} {k:Nat}
noncomputable def tCallL (K:Fg) (i:Nat) (L:Lam) (dl:DE) (t:TA):TE:=fun σ H Q=>∃ f c c' va oc,σ[i]? = some (some (.ref f)) ∧ H f = some (.ext (lamO L f c c')) ∧ t σ H fun vs H1=>∃ a1 a2,vs = [a1,a2] ∧
 H1 f = some (.ext (lamO L f c c')) ∧ H1 c = some (.ext (cellO c va oc)) ∧ H1 c' = some (.cod L.qual) ∧ ∀ t':TE,SimE K t' dl → t' [some a1,some a2,some va] (rmH H1 c) fun v H'=>Q v (upd H' c (.ext (cellO c va oc)))
theorem fnAt_of {P:Program} {w:World} {H:Hp} {h:Heap} {L:Lam} {f c c':Addr} (x:HOk P w H h) (e:H f = some (.ext (lamO L f c c'))):PySem.W.FnAt f h:=by
 obtain ⟨⟨pm,ct,ho⟩,_,_⟩:=(show ObjOk P w H h f (.ext (lamO L f c c')) from x f _ e)
 exact ⟨_,_,_,_,ho⟩
theorem pe_callL {i:Nat} {L:Lam} {dl:DE} (D0:LD X.prog X.w X.K X.mg X.base k L dl)
  (hr:Room (k + 1) X.A) (hN:X.N[i]? = some x) (hv:Vis X.env.scope x) (ha:PA X (e :: es) t) (hd:(x == ("__debug__":Str)) = false:=by decide) (hcd:(x == ("__classdict__":Str)) = false:=by decide)
  (he:starEach (e :: es) X.env = (false,eval e X.env) :: starEach es X.env:=by rfl) (hpl:(backTo pos (starEach es X.env)).any (·.1) = false:=by rfl) :
  PE X (.Call (.Name x p) (e :: es) [] pos) (tCallL X.K i L dl t):=by
 intro pins s σ H Q I h
 obtain ⟨f,c,c',va,oc,e1,e2,h⟩:=h
 obtain ⟨p1,p2,S,B⟩:=D0
 refine wpAny_Call_Name_kw ?_
 refine thn (pe_var (X:=X) (i:=i) (x:=x) (pos:=p) hN hv hd hcd pins s σ H (fun v H'=>v = .ref f ∧ H' = H) I ⟨.ref f,e1,rfl,rfl⟩) fun u s1 ⟨v,H1,I1,r1,q1⟩=>?_
 obtain ⟨rfl,rfl⟩:=q1
 obtain rfl:u = Value.ref f:=r1
 refine PySem.W.callWith_F (fnAt_of I1.hok e2) (thn (ha pos pins s1 σ _ _ I1 h) fun us s2 ⟨vs,H2,I2,r,q⟩=>?_) he hpl
 obtain ⟨a1,a2,rfl,f1,f2,f3,q⟩:=q
 refine ⟨fnAt_of I2.hok f1,?_⟩
 cases r with
 | cons r1 r =>
  cases r with
  | cons r2 r =>
   cases r
   refine wpAny_call (codeAny_mono (lam_run (E:=E0) (Q:=Q) S hr I2.env0 f1 f2 f3 r1 r2 fun hr'=>?_) fun r s' hq=>?_)
   ·obtain ⟨t',ht,hs⟩:=B f c (.ref c') X.A X.stack s2 (rmH H2 c) hr'
    exact ⟨t',ht,q t' hs⟩
   ·cases r with
    | error e=>exact pass0 pins σ H2 s2 e s' I2 hq
    | ok fl =>
     cases fl with
     | ret u=>exact I2.after hq
     | next=>exact False.elim hq
     | brk=>exact False.elim hq
     | cont=>exact False.elim hq
end
end L2
namespace D
open PySem L2
open Classical in
noncomputable def dCallM (i:Nat) (tb:Tb) (L:Lam) (dl:DE) (fa:DA):DE:=fun Γ=>match Γ[i]? with
 | some (some (.v (.f n)))=>match tb.find? fun q=>decide (q.1 = n) with
  | some q=>dCall none q.2.2 [] fa Γ
  | none=>none
 | some (some (.v (.m L' [ta])))=>if L' = L then (fa Γ).bind fun p=>(argsG none p.2 0 p.1).bind fun gs=>(lamF dl ta gs).map fun u=>(.v (.a u),p.2) else none
 | _=>none
noncomputable def tCallM (K:Fg) (i:Nat) (C:Addr → Sp → Prop) (L:Lam) (dl:DE) (t:TA):TE:=fun σ H Q=>tCallV i C t σ H Q ∨ tCallL K i L dl t σ H Q
theorem lamF_some {dl:DE} {ta:T} {gs:List G} {u:V} (h:lamF dl ta gs = some u):∃ g1 g2 Γ',gs = [g1,g2] ∧ g1.pl = true ∧ g2.pl = true ∧ ta.pl = true ∧ dl [some g1,some g2,some (.v ta)] = some (.v (.a u),Γ'):=by
 unfold lamF at h
 split at h
 ·rename_i g1 g2
  split at h
  ·rename_i hq
   simp only [Bool.and_eq_true] at hq
   split at h
   ·rename_i z
    cases h
    exact ⟨g1,g2,_,rfl,hq.1.1,hq.1.2,hq.2,z⟩
   ·cases h
  ·cases h
 ·cases h
theorem sim_callM {K:Fg} {i:Nat} {tb:Tb} {L:Lam} {dl:DE} {t:TA} {fa:DA} (hl:∀ q ∈ tb,∀ gs r,q.2.2 gs = some r → gs.length = q.2.1) (ha:SimA K t fa):SimE K (tCallM K i (CallC K tb) L dl t) (dCallM i tb L dl fa):=by
 intro C w Γ σ H s Γ' Q R e k
 unfold dCallM at e
 split at e
 ·rename_i n hn
  refine .inl (sim_callV hl ha C w Γ σ H s Γ' Q R ?_ k)
  unfold dCallV
  rw [hn]
  exact e
 ·rename_i L' ta hn
  split at e
  ·rename_i hL
   subst hL
   obtain ⟨⟨ss,Γ1⟩,e1,e⟩:=bind_some e
   obtain ⟨gs,e2,e⟩:=bind_some e
   obtain ⟨u,e3,e⟩:=map_some e
   cases e
   obtain ⟨g1,g2,Γ2,rfl,q1,q2,q3,e4⟩:=lamF_some e3
   obtain ⟨v,s1,hv⟩:=R.val i _ hn
   obtain ⟨f,vs,rfl,hk,hi⟩:=(show Im K H v (.m _ [ta]) from hv).invm
   obtain ⟨c,c',va,oc,rfl,f1,f2,f3⟩:=id hk
   obtain ⟨_,_,hz,him,_⟩:=hi.inv
   cases hz
   refine .inr ⟨f,c,c',va,oc,s1,f1,ha C w Γ σ H ss Γ1 _ R e1 fun vs H1 R1 ev o1 nw=>?_⟩
   have hl2:=o1.len
   have hl3:=argsG_len e2
   obtain ⟨a1,a2,rfl⟩:∃ a1 a2,vs = [a1,a2]:=by
    have:vs.length = 2:=by simp at hl3; omega
    match vs,this with
    | [a,b],_=>exact ⟨a,b,rfl⟩
   have n:∀ {b o},H b = some o → ¬ Mu o → b ∉ w.L:=fun {b o} q m z=>by
    obtain ⟨u,q',m'⟩:=R.lst b z
    rw [q] at q'; cases q'; exact m m'
   have f1':=ev _ _ f1 (n f1 id)
   have f2':=ev _ _ f2 (n f2 id)
   have f3':=ev _ _ f3 (n f3 id)
   refine ⟨a1,a2,rfl,f1',f2',f3',fun t' hs=>?_⟩
   refine hs _ _ _ _ _ _ _ _ (rep_lam f2' R1 o1 e2 q1 q2 q3 (him.evo ev R.lst)) e4 fun v H' R' ev' so _=>?_
   have hv':v = u:=so.inva
   subst hv'
   have old:∀ b o,H1 b = some o → upd H' c (.ext (cellO c va oc)) b = some o:=fun b o h=>by
    by_cases hb:b = c
    ·subst hb; rw [f2'] at h; cases h; exact upd_same
    ·rw [upd_ne hb]; exact ev' b o ((rm_ne hb).trans h) nofun
   exact k _ _ (R1.evo0 old) (ev.trans fun b o h _=>old b o h) .atom trivial
  ·cases e
 ·cases e
section
variable {ι:Type} {P:Program} {wd:World} {base:Heap} {K:Fg} {mg:Str → Option Value} {k k' n:Nat} {X:ι → Cx} {e:Expr} {es:List Expr} {pos p:Pos} {da:DA} {x:Str} {tb:Tb} {Γ:En} {L:Lam} {dl:DE}
theorem LD.mono (D0:LD P wd K mg base k' L dl) (h:k' ≤ k):LD P wd K mg base k L dl:=by
 obtain ⟨p1,p2,S,B⟩:=D0
 exact ⟨p1,p2,S,fun f c cd A outer s H hr=>B f c cd A outer s H (hr.mono h)⟩
theorem ex_callM (i:Nat) (M:Fm K mg k X) (B:Fb P wd base X) (T0:TbOk P wd K mg base k' tb) (D0:LD P wd K mg base k' L dl) (ha:AX K X (e :: es) da) (hk:k' + 1 ≤ k:=by first | exact Nat.le_refl _ | decide | omega)
  (hN:∀ j,(X j).N[i]? = some x:=by intro _; rfl) (hv:∀ j,Vis (X j).env.scope x:=by intro _; first | exact Or.inl rfl | exact Or.inr (Or.inl rfl) | exact Or.inr (Or.inr rfl)) (hd:(x == ("__debug__":Str)) = false:=by decide) (hcd:(x == ("__classdict__":Str)) = false:=by decide)
  (he:∀ j,starEach (e :: es) (X j).env = (false,eval e (X j).env) :: starEach es (X j).env:=by intro _; rfl) (hpl:∀ j,(backTo pos (starEach es (X j).env)).any (·.1) = false:=by intro _; rfl) :
  EX K X (.Call (.Name x p) (e :: es) [] pos) (dCallM i tb L dl da):=by
 obtain ⟨t,q,u⟩:=ha
 refine ⟨tCallM K i (CallC K tb) L dl t,fun j=>?_,sim_callM (fun q hq=>(T0 q hq).len) u⟩
 intro pins s σ H Q I h
 rcases h with h | h
 ·refine pe_callV (k:=k') (fun hm f sp hc=>?_) ((M.room j).mono (by omega)) (hN j) (hv j) (q j) hd hcd (he j) (hpl j) pins s σ H Q I h
  obtain ⟨q,hq,h1,rfl⟩:=hc
  obtain ⟨f',fd,ps,g1,g2,g3,g4⟩:=(T0 q hq).ex
  have hm':Mod K mg base:=by rw [← M.K j,← M.mg j,← B.b j]; exact hm
  have e:=PySem.W.mg_of hm'.kin hm'.glob h1
  rw [g2] at e
  cases e
  exact ⟨fd,ps,by rw [B.P,B.w,M.K,M.mg,B.b]; exact g1,by rw [M.K]; exact g3,by rw [M.K]; exact g4⟩
 ·have D1:LD (X j).prog (X j).w (X j).K (X j).mg (X j).base k' L dl:=by rw [B.P,B.w,M.K,M.mg,B.b]; exact D0
  rw [← M.K j] at h
  exact pe_callL D1 ((M.room j).mono hk) (hN j) (hv j) (q j) hd hcd (he j) (hpl j) pins s σ H Q I h
end
end D
set_option Elab.async false
set_option linter.all false
set_option maxRecDepth 100000
set_option maxHeartbeats 4000000
namespace D
open PySem PySem.Spec L2
noncomputable def TabAt (K:Fg) (fd:FuncData):Prop:=∃ c0 P0,fd.code = .ref c0 ∧ PySem.W.tabIn K "is_so" = some (c0,P0) ∧ PySem.W.codeHdIn K c0 P0 = true
noncomputable def tHand (sp:Sp) (L:Lam) (P0:Addr):TE:=fun σ H Q=>∃ v0 va,σ[0]? = some (some v0) ∧ σ[1]? = some (some va) ∧ H P0 = some (.tbq L.qual) ∧ ∀ f c c' oc H2,H c = none → (∀ b o,H b = some o → H2 b = some o) → H2 f = some (.ext (lamO L f c c')) → H2 c = some (.ext (cellO c va oc)) →
 H2 c' = some (.cod L.qual) → sp [v0,.ref f] H2 (fun v H'=>H' c = some (.ext (cellO c va oc)) ∧ Q v (rmH H' c)) E0
section
variable {X:Cx} {L:Lam} {pos lp p p':Pos} {c0 P0 f:Addr} {x y:Str} {k:Nat} {fd:FuncData} {ps:List Str} {sp:Sp}
theorem pe_hand (F:FnOk X.prog X.w X.K X.mg X.base CX0 k f fd ps sp) (hr:Room k X.A) (hgl:Gl X x) (hm:X.mg x = some (.ref f)) (hk:PySem.W.keepIn X.K (.ref f) = true) (hb:Binds X.K fd ps [])
  (hcode:X.env.code = .ref c0) (hH:PySem.W.codeHdIn X.K c0 P0 = true) (hg:X.env.globals = mainGlobals)
  (hcl:∀ c,X.env.cells.lookup L.x = some c → closureFor L.scope X.env = pure [(L.x,c)]) (hq:X.env.qual ++ "<lambda>" = L.qual) (hdef:defaultsOf L.params X.env = ([],[]))
  (h0:PE X (.Name y p') (tVar 0)) (hN:X.N[1]? = some L.x) (hkd:X.env.kindOf L.x = some .cell) (hvis:Vis X.env.scope L.x) (hfn:X.fn L.x = true) (hdb:(x == ("__debug__":Str)) = false:=by decide)
  (he:starEach [.Name y p',.Lambda L.params L.body L.scope lp] X.env = (false,eval (.Name y p') X.env) :: starEach [.Lambda L.params L.body L.scope lp] X.env:=by rfl)
  (he2:starEach [.Lambda L.params L.body L.scope lp] X.env = (false,eval (.Lambda L.params L.body L.scope lp) X.env) :: starEach [] X.env:=by rfl)
  (hpl:(backTo pos (starEach [.Lambda L.params L.body L.scope lp] X.env)).any (·.1) = false:=by rfl) :
  PE X (.Call (.Name x p) [.Name y p',.Lambda L.params L.body L.scope lp] [] pos) (tHand sp L P0):=by
 intro pins s σ H Q I h
 obtain ⟨v0,va,e0,e1,hP,h⟩:=h
 obtain ⟨c,hc⟩:=I.ok.has L.x (.inl hkd)
 refine wpAny_Call_Name_kw (ld_glob I hgl hm ?_ hdb)
 have A0:=pa_cons h0 (pa_cons (pe_lam (pos:=lp) hcode hH hg hcl hq hdef) pa_nil he2) he
 refine PySem.W.callWith_K (h₀:=X.base) I.ok.mod.kin hk (thn (A0 pos pins s σ H (fun vs H1=>∃ f c',vs = [v0,.ref f] ∧ (∀ b o,H b = some o → H1 b = some o) ∧ H1 f = some (.ext (lamO L f c c')) ∧ H1 c' = some (.cod L.qual)) I ?_) fun us s1 ⟨vs,H1,I1,r,q⟩=>⟨I1.kIn,?_⟩) he hpl
 ·exact ⟨v0,e0,c,hc,hP,fun f c' H1 k1 k2 k3=>⟨f,c',rfl,k1,k2,k3⟩⟩
 obtain ⟨f',c',rfl,k1,k2,k3⟩:=q
 have hcn:H c = none:=I.freeC _ _ hc
 have hc1:H1 c = none:=I1.freeC _ _ hc
 obtain ⟨m,hm1,hl⟩:=I1.loc
 obtain ⟨u,ru,lk⟩:=hl 1 L.x va hN e1 hvis
 obtain ⟨oc,ec,dc⟩:∃ oc,s1.heap.get? c = some oc ∧ oc.data = .cell (some u):=by
  rcases lk with ⟨z,_⟩ | ⟨_,c2,z1,oc,z2,z3⟩
  ·rw [hkd] at z; cases z
  ·rw [hc] at z1; cases z1; exact ⟨oc,z2,z3⟩
 have cO:cellO c va oc s1.heap:=⟨ec,u,ru,dc⟩
 have cab:=I1.ok.cab L.x c hfn hc
 have ne2:∀ {b o},H1 b = some o → upd H1 c (.ext (cellO c va oc)) b = some o:=fun {b o} e=>by
  rw [upd_ne (ne_of_none e hc1)]; exact e
 have no2:∀ {b},b ≠ c → H1 b = none → upd H1 c (.ext (cellO c va oc)) b = none:=fun {b} n e=>by rw [upd_ne n]; exact e
 have z1:=I1.env0
 have fsn:∀ b ∈ frs X.stack,b ≠ c:=fun b hb z=>by
  rcases List.mem_cons.mp (I1.stkSub b hb) with e | e
  ·exact I1.cne _ _ hc (z.symm.trans e)
  ·obtain ⟨_,o,ho,_⟩:=I1.ok.funs.mem e
   rw [z] at ho
   exact absurd (Heap.lt_size ho) (Nat.not_lt.mpr cab)
 have z2:Env0 X.prog X.w X.K X.mg X.base X.A X.stack s1 (upd H1 c (.ext (cellO c va oc))):=⟨z1.frames,z1.mod,fun b o e=>⟨(z1.bs b o e).1,no2 (fun z=>by
   rw [z] at e
   exact absurd (Heap.lt_size e) (Nat.not_lt.mpr (Nat.le_trans I1.ok.bsz cab))) (z1.bs b o e).2⟩,z1.bsz,z1.funs,fun b hb=>no2 (fsn b hb) (z1.frf b hb),z1.hok.re hc1 (cell_obj cO),z1.bare⟩
 have hsp:=h f' c c' oc (upd H1 c (.ext (cellO c va oc))) hcn (fun b o e=>ne2 (k1 b o e)) (ne2 k2) upd_same (ne2 k3)
 have hl:(us ++ []).length = ps.length:=by rw [List.append_nil,← r.length]; exact F.len _ _ _ _ hsp
 have hbs:=hb s1 us I1.kIn hl
 rw [List.append_nil] at hbs
 refine wpAny_call (codeAny_mono (F.run X.A X.stack s1 _ ⟨us,[]⟩ us [v0,.ref f'] _ E0 hr z2 hbs r hsp) fun r s' hq=>?_)
 cases r with
 | error e=>exact pass0 pins σ H1 s1 e s' I1 hq
 | ok fl =>
  cases fl with
  | ret u =>
   obtain ⟨v,H',os,bare,un,hok,rv,hcc,hQ⟩:=hq
   have gc:s'.heap.get? c = some oc:=(show ObjOk X.prog X.w H' s'.heap c (.ext (cellO c va oc)) from hok c _ hcc).1.1
   refine I1.after ⟨v,rmH H' c,os,bare,?_,hok.rm hcc,rv,hQ⟩
   exact {
    keep:=fun b o e n hb hx=>by
     by_cases z:b = c
     ·subst z; rw [ec] at e; cases e; exact gc
     ·exact un.keep b o e (no2 z n) hb hx
    slot:=fun b o e n hb hx=>un.slot b o e (no2 (fsn b hb) n) hb hx
    free:=fun b o e n hx=>by
     by_cases z:b = c
     ·subst z; exact rm_same
     ·rw [rm_ne z]; exact un.free b o e (no2 z n) hx
    there:=un.there
    tups:=fun b xs e=>by
     have z:b ≠ c:=ne_of_none e hc1
     rw [rm_ne z]; exact un.tups b xs (ne2 e)
    frzs:=fun b o w e=>by
     have z:b ≠ c:=ne_of_none e hc1
     rw [rm_ne z]; exact un.frzs b o w (ne2 e)
    tbls:=fun b ps e=>by
     have z:b ≠ c:=ne_of_none e hc1
     rw [rm_ne z]; exact un.tbls b ps (ne2 e) }
  | next=>exact False.elim hq
  | brk=>exact False.elim hq
  | cont=>exact False.elim hq
end
noncomputable def dHand (F:DF) (L:Lam):DE:=fun Γ=>match Γ with
 | [some (.v t0),some (.v ta)]=>match F [.v t0,.v (.m L [ta])] with
  | some (.v (.a u),[])=>some (.v (.a u),Γ)
  | _=>none
 | _=>none
section
variable {K:Fg} {F:DF} {L:Lam} {c0 P0:Addr}
theorem sim_hand (hT:PySem.W.tabIn K "is_so" = some (c0,P0)) (hq:L.qual = "is_so.<locals>.<lambda>"):SimE K (tHand (spD K none 2 F) L P0) (dHand F L):=by
 intro C w Γ σ H s Γ' Q R e k
 unfold dHand at e
 split at e
 ·rename_i t0 ta
  split at e
  ·rename_i u eF
   cases e
   obtain ⟨v0,s0,i0⟩:=R.val 0 _ rfl
   obtain ⟨va,s1,i1⟩:=R.val 1 _ rfl
   refine ⟨v0,va,s0,s1,by rw [hq]; exact R.tab c0 P0 hT,fun f c c' oc H2 hcn old f1 f2 f3=>?_⟩
   have ev:Evo [] H H2:=fun b o h _=>old b o h
   have hL:LL ([]:List Addr) H:=fun p hp=>nomatch hp
   have j0:Im K H2 v0 t0:=Im.evo ev hL i0
   have j1:Im K H2 (.ref f) (.m L [ta]):=Im.lam ⟨c,c',va,oc,rfl,f1,f2,f3⟩ (.one (Im.evo ev hL i1))
   refine ⟨rfl,⟨[],fun b=>∃ o,H2 b = some o⟩,[.v t0,.v (.m L [ta])],.v (.a u),[],eF,?_,rfl,(fun p hp=>nomatch hp),fun v H' ev2 _ ro=>⟨ev2 _ _ f2 nofun,?_⟩⟩
   ·refine ⟨rfl,fun i g h=>?_,fun i j p g g' m _ h _ _ _=>?_,fun p hp=>(nomatch hp),fun p hp=>(nomatch hp),fun p hp=>hp,fun p hp=>nofun,fun b o h _=>h,fun c P z=>old _ _ (R.tab c P z),fun q hq=>(nomatch hq)⟩
    ·match i,h with
     | 0,h=>cases h; exact ⟨_,rfl,j0⟩
     | 1,h=>cases h; exact ⟨_,rfl,j1⟩
     | i + 2,h=>cases h
    ·match i,h with
     | 0,h=>cases h; cases m
     | 1,h=>cases h; cases m
     | i + 2,h=>cases h
   ·obtain rfl:v = u:=(show Im K H' v (.a u) from ro).inva
    have old2:∀ b o,H b = some o → rmH H' c b = some o:=fun b o h=>by
     rw [rm_ne (ne_of_none h hcn)]; exact ev2 b o (old b o h) nofun
    exact k _ _ (R.evo0 old2) (fun b o h _=>old2 b o h) .atom trivial
  ·cases e
 ·cases e
end
section
variable {P:Program} {wd:World} {base:Heap} {K:Fg} {mg:Str → Option Value} {k k':Nat}
theorem fo_ofC {x:Str} {st:Stmt} {f:Addr} {fd:FuncData} {N ps:List Str} {ip:Option Nat} {g:DS} (F:Fun K x x st f fd) (S:FnScope N ps (defScope st))
  (body:∀ (cdv:Value) (A:Around) (outer:List Env) (s:Shared) (H:Hp) (E:XK),fd.code = cdv → Fm K mg k (cx1 P wd K mg base N x (defScope st) f cdv A outer s H E) → Fb P wd base (cx1 P wd K mg base N x (defScope st) f cdv A outer s H E) → BX K (cx1 P wd K mg base N x (defScope st) f cdv A outer s H E) ip (defBody st) g) :
  FnOk P wd K mg base CX0 (k + 1) f fd ps (spD K ip ps.length (fnD ip ps.length N.length g)):=by
 obtain ⟨oc,od,kV,doc,pm,an,cdv,ct,osl,rfl,lk,hcd⟩:=F.ex
 refine fn_of lk hcd S (fun vs H Q E h=>h.1) fun A outer s H vs Q E hr hsp=>?_
 obtain ⟨t,p,u⟩:=body cdv A outer s H E rfl ⟨fun _=>rfl,fun _=>rfl,fun _=>rfl,fun _=>hr⟩ ⟨fun _=>rfl,fun _=>rfl,fun _=>rfl⟩
 exact ⟨t,(p ()).nox,body_ok u hsp⟩
end
section
variable {ι:Type} {P:Program} {wd:World} {base:Heap} {K:Fg} {mg:Str → Option Value} {k k':Nat} {X:ι → Cx} {F:DF} {L:Lam} {pos lp p p':Pos} {x y:Str} {fd:FuncData} {cdv:Value}
theorem ex_hand (M:Fm K mg k X) (B:Fb P wd base X) (D0:FD P wd K mg base k' x none 2 F) (hT:TabAt K fd) (hc:fd.code = cdv) (hcode:∀ j,(X j).env.code = cdv) (hk:k' ≤ k:=by first | exact Nat.le_refl _ | decide | omega)
  (hg:∀ j,(X j).env.globals = mainGlobals:=by intro _; rfl) (hcl:∀ j c,(X j).env.cells.lookup L.x = some c → closureFor L.scope (X j).env = pure [(L.x,c)]) (hq:∀ j,(X j).env.qual ++ "<lambda>" = L.qual:=by intro _; rfl) (hdef:∀ j,defaultsOf L.params (X j).env = ([],[]):=by intro _; rfl)
  (h0:∀ j,PE (X j) (.Name y p') (tVar 0)) (hN:∀ j,(X j).N[1]? = some L.x:=by intro _; rfl) (hkd:∀ j,(X j).env.kindOf L.x = some .cell:=by intro _; rfl) (hfn:∀ j,(X j).fn L.x = true:=by intro _; rfl) (hqq:L.qual = "is_so.<locals>.<lambda>":=by rfl)
  (hgl:∀ j,Gl (X j) x:=by intro _; rfl) (hdb:(x == ("__debug__":Str)) = false:=by decide)
  (he:∀ j,starEach [.Name y p',.Lambda L.params L.body L.scope lp] (X j).env = (false,eval (.Name y p') (X j).env) :: starEach [.Lambda L.params L.body L.scope lp] (X j).env:=by intro _; rfl)
  (he2:∀ j,starEach [.Lambda L.params L.body L.scope lp] (X j).env = (false,eval (.Lambda L.params L.body L.scope lp) (X j).env) :: starEach [] (X j).env:=by intro _; rfl)
  (hpl:∀ j,(backTo pos (starEach [.Lambda L.params L.body L.scope lp] (X j).env)).any (·.1) = false:=by intro _; rfl) :
  EX K X (.Call (.Name x p) [.Name y p',.Lambda L.params L.body L.scope lp] [] pos) (dHand F L):=by
 obtain ⟨c0,P0,t1,t2,t3⟩:=hT
 obtain ⟨f,fd',ps,g1,g2,g3,g4⟩:=D0.ex
 refine ⟨tHand (spD K none 2 F) L P0,fun j=>?_,sim_hand t2 hqq⟩
 have hkj:=hkd j
 exact pe_hand (k:=k') (by rw [B.P,B.w,M.K,M.mg,B.b]; exact g1) ((M.room j).mono hk) (hgl j) (by rw [M.mg]; exact g2) (by rw [M.K]; exact g3) (by rw [M.K]; exact g4) (by rw [hcode j,← hc]; exact t1) (by rw [M.K]; exact t3) (hg j) (hcl j) (hq j) (hdef j) (h0 j) (hN j) hkj (.inr (.inl hkj)) (hfn j) hdb (he j) (he2 j) (hpl j)
end
end D
set_option Elab.async false
set_option linter.all false
set_option maxRecDepth 100000
set_option maxHeartbeats 4000000
namespace D
open PySem PySem.Spec PyProof.Rows L2
theorem law_callL {P:Program} {w:World} {K:PySem.W.Frag} {mg mb:Str → Option Value} {k:Nat} {fa a c0 P0:Addr} {fd:FuncData} {x:Str} {sp:Sp} {s₁:Shared} {vs:List Value} {ns:List Int}
  (KX:K.In s₁.heap) (hns:s₁.heap.Ns mainGlobals mg) (hb:s₁.heap.Ns builtinsNs mb) (hbb:∀ x:Str,x ≠ "__name__" → mb x = bootBuiltins x) (hlim:s₁.heap.NoLimit) (hg:s₁.gens = #[])
  (hbm:∃ bm ob,mg "__builtins__" = some (.ref bm) ∧ bm ≠ builtinsNs ∧ s₁.heap.get? bm = some ob ∧ ob.cls = .type "module" ∧ ob.dict = some builtinsNs ∧ ob.data = .plain)
  (hT:PySem.W.tabIn K "is_so" = some (c0,P0)) (hH:PySem.W.codeHdIn K c0 P0 = true) (hNT:PySem.W.noTabs K = true) (hP:s₁.heap.get? P0 = some { cls:=.none,data:=.fields #[] })
  (ha:s₁.heap.get? a = some { cls:=.type "list",data:=.seq vs.toArray }) (hi:IntsAre vs ns) (hl:ns.length ≤ sizeLine) (hr:Room k callerA)
  (F:∀ base:Heap,K.In base → base.Ns mainGlobals mg → FnOk P w K mg base CX0 k fa fd [x] sp) (hbind:∀ (s:Shared) (u:Value),BindsTo s fd ⟨[u],[]⟩ [(x,u)])
  (hsp:∀ H:Hp,(∀ us,H a ≠ some (.lst us)) → TabOk K H → SqL K H a (ns.map V.int) → sp [.ref a] H (fun v H'=>v = .bl true ∧ ∀ b o,H b = some o → H' b = some o) fun _ _ _=>False) :
  codeAny (model P w) callerA (.call (.ref fa) ⟨[.ref a],[]⟩) (fun r s'=>r = .ok (.ret (.bool true)) ∧ OldK s₁.heap s'.heap ∧ s'.os = s₁.os ∧ AllBare s'.gens) s₁:=by
 have rv:=vals_ints hi
 have lenV:=hi.length
 have haP:a ≠ P0:=fun z=>by rw [z,hP] at ha; cases ha
 have core:∀ H:Hp,(∀ b,H b = none ∨ (∃ o xs,H b = some (.frz o (.lst xs))) ∨ b = P0) → H P0 = some (.tbq "is_so.<locals>.<lambda>") → SqL K H a (ns.map V.int) → HOk P w H s₁.heap → (∀ b,H b ≠ none → b = a ∨ b = P0) → (H a ≠ none → K.lookup a = none) →
   codeAny (model P w) callerA (.call (.ref fa) ⟨[.ref a],[]⟩) (fun r s'=>r = .ok (.ret (.bool true)) ∧ OldK s₁.heap s'.heap ∧ s'.os = s₁.os ∧ AllBare s'.gens) s₁:=by
  intro H hO hHP hS hok hA hK
  have base_of:∀ {b:Addr} {o:Obj},s₁.heap.get? b = some o → H b = none → (hidT s₁.heap H).get? b = some o:=fun e n=>hidT_get e n
  have noA:∀ {b:Addr} {o:Obj},s₁.heap.get? b = some o → (∀ its n,o.data ≠ .seq its n) → (∀ ps,o.data ≠ .fields ps) → H b = none:=fun {b o} e d1 d2=>by
   cases q:H b with
   | none=>rfl
   | some u =>
    rcases hA b (by rw [q]; simp) with e' | e'
    ·subst e'
     rw [ha] at e; cases e
     exact absurd rfl (d1 _ _)
    ·subst e'
     rw [hP] at e; cases e
     exact absurd rfl (d2 _)
  have nsK:∀ {b:Addr} {m:Str → Option Value},s₁.heap.Ns b m → (hidT s₁.heap H).Ns b m:=fun {b m} ⟨o,es,ep,e,d,r⟩=>⟨o,es,ep,base_of e (noA e (fun _ _ z=>by rw [d] at z; cases z) (fun _ z=>by rw [d] at z; cases z)),d,r⟩
  have hKb:K.In (hidT s₁.heap H):=fun b o e=>base_of (KX b o e) (by
   cases q:H b with
   | none=>rfl
   | some u =>
    rcases hA b (by rw [q]; simp) with e' | e'
    ·subst e'
     rw [hK (by rw [q]; simp)] at e; cases e
    ·subst e'
     have h2:=List.all_eq_true.mp hNT (b,o) (PySem.W.mem_of_lookupK e)
     have e3:=KX b o e
     rw [hP] at e3; cases e3
     exact absurd (show false = true from h2) Bool.false_ne_true)
  have hM:Mod K mg (hidT s₁.heap H):=⟨hKb,nsK hns,⟨mb,nsK hb,hbb⟩,let ⟨mc,h1,h2⟩:=hlim; ⟨mc,nsK h1,h2⟩,by
   obtain ⟨bm,ob,b1,b2,b3,b4,b5,b6⟩:=hbm
   exact ⟨bm,ob,b1,b2,base_of b3 (noA b3 (fun _ _ z=>by rw [b6] at z; cases z) (fun _ z=>by rw [b6] at z; cases z)),b4,b5,b6⟩⟩
  have e0:Env0 P w K mg (hidT s₁.heap H) callerA [] s₁ H:=⟨rfl,hM,fun b o e=>of_hidT e,Nat.le_of_eq (hidT_size _ _),trivial,fun b hb=>absurd (show b ∈ ([]:List Addr) from hb) (by simp),hok,.of_eq hg⟩
  have hLs:∀ us,H a ≠ some (.lst us):=fun us z=>by
   rcases hO a with y | ⟨o,xs,y⟩ | y
   ·rw [z] at y; cases y
   ·rw [z] at y; cases y
   ·exact haP y
  have hTb:TabOk K H:=fun c P z=>by rw [hT] at z; cases z; exact hHP
  refine codeAny_mono ((F _ hKb (nsK hns)).run callerA [] s₁ H ⟨[.ref a],[]⟩ [.ref a] [.ref a] _ _ hr e0 (hbind s₁ (.ref a)) (.cons rfl .nil) (hsp H hLs hTb hS)) fun r s' h=>?_
  cases r with
  | error e=>exact False.elim h
  | ok fl =>
   cases fl with
   | next=>exact False.elim h
   | brk=>exact False.elim h
   | cont=>exact False.elim h
   | ret u =>
    obtain ⟨v,H',os,bare,un,hok',r',q,ev⟩:=h
    subst q
    obtain rfl:u = Value.bool true:=r'
    have keep:∀ b o,b ≠ P0 → s₁.heap.get? b = some o → s'.heap.get? b = some o:=fun b o n e=>by
     cases q:H b with
     | none=>exact un.keep b o e q (by intro z; exact absurd (show b ∈ ([]:List Addr) from z) (by simp)) (by simp)
     | some u =>
      rcases hO b with z | ⟨ob,xs,z⟩ | z
      ·rw [q] at z; cases z
      ·have z2:=un.frzs b ob _ z
       obtain ⟨e1,_⟩:=hok b _ z
       obtain ⟨e2,_⟩:=hok' b _ z2
       rw [e] at e1; cases e1
       exact e2
      ·exact absurd z n
    obtain ⟨ps,p1,_⟩:=(show ObjOk P w H' s'.heap P0 (.tbq "is_so.<locals>.<lambda>") from hok' P0 _ (ev _ _ hHP))
    have C:=PySem.W.codeHd_of_K KX hH
    refine ⟨rfl,⟨fun b o e=>?_,fun b o e=>?_⟩,os,bare⟩
    ·by_cases z:b = P0
     ·subst z
      rw [hP] at e; cases e
      exact .inr (.inl ⟨(C.tab hP).isCodeTable,rfl,#[],ps,rfl,by rw [Array.empty_append]; exact p1⟩)
     ·exact .inl (keep b o z e)
    ·by_cases z:b = P0
     ·subst z; exact ⟨_,p1⟩
     ·exact ⟨o,keep b o z e⟩
 have tbo:∀ {H:Hp},H P0 = some (.tbq "is_so.<locals>.<lambda>") → ObjOk P w H s₁.heap P0 (.tbq "is_so.<locals>.<lambda>"):=fun _=>⟨#[],hP,trivial,fun pos cv z=>by cases z⟩
 cases hk:K.lookup a with
 | some o =>
  have e:=KX a o hk
  rw [ha] at e
  cases e
  refine core (fun b=>if b = P0 then some (.tbq "is_so.<locals>.<lambda>") else none) (fun b=>?_) (if_pos rfl) (.inr ⟨_,vs.toArray,_,hk,rfl,rfl,rfl,by rw [List.size_toArray,lenV]; exact hl,by simpa using rv⟩) (fun b u z=>?_) (fun b z=>?_) fun z=>absurd (if_neg haP) z
  ·by_cases hb:b = P0
   ·exact .inr (.inr hb)
   ·exact .inl (if_neg hb)
  ·by_cases hb:b = P0
   ·have z':=(if_pos hb).symm.trans z
    cases z'
    subst hb
    exact tbo z
   ·have z':=(if_neg hb).symm.trans z
    cases z'
  ·by_cases hb:b = P0
   ·exact .inr hb
   ·exact absurd (if_neg hb) z
 | none =>
  refine core (fun b=>if b = P0 then some (.tbq "is_so.<locals>.<lambda>") else if b = a then some (.frz { cls:=.type "list",data:=.seq vs.toArray } (.lst (ns.map V.int))) else none) (fun b=>?_) (if_pos rfl) (.inl (.inr ⟨{ cls:=.type "list",data:=.seq vs.toArray },(if_neg haP).trans (if_pos rfl)⟩)) (fun b u z=>?_) (fun b z=>?_) fun _=>hk
  ·by_cases hb:b = P0
   ·exact .inr (.inr hb)
   ·by_cases hb2:b = a
    ·exact .inr (.inl ⟨_,_,(if_neg hb).trans (if_pos hb2)⟩)
    ·exact .inl ((if_neg hb).trans (if_neg hb2))
  ·by_cases hb:b = P0
   ·have z':=(if_pos hb).symm.trans z
    cases z'
    subst hb
    exact tbo z
   ·by_cases hb2:b = a
    ·have z':=((if_neg hb).trans (if_pos hb2)).symm.trans z
     cases z'
     subst hb2
     exact ⟨ha,by rw [List.length_map]; exact hl,vs,_,rv,ha⟩
    ·have z':=((if_neg hb).trans (if_neg hb2)).symm.trans z
     cases z'
  ·by_cases hb:b = P0
   ·exact .inr hb
   ·by_cases hb2:b = a
    ·exact .inl hb2
    ·exact absurd ((if_neg hb).trans (if_neg hb2)) z
theorem spD_lawL {K:Fg} {F:DF} {H:Hp} {a:Addr} {ns:List Int} (hO:∀ us,H a ≠ some (.lst us)) (hT:TabOk K H) (hS:SqL K H a (ns.map V.int)) (h:F [.k (intsT ns)] = some (.v (.a (.bl true)),[])):spD K none 1 F [.ref a] H (fun v H'=>v = .bl true ∧ ∀ b o,H b = some o → H' b = some o) fun _ _ _=>False:=by
 have hK:KF K H a (ns.map V.int):=KF.of hS hO
 refine ⟨rfl,⟨[],fun _=>False⟩,_,_,_,h,⟨rfl,fun i g e=>?_,fun i j p ga gb ma mb e=>?_,fun p hp=>(nomatch hp),fun p hp=>(nomatch hp),fun p hp=>hp.elim,fun p hp=>hp.elim,fun b o e _=>e,hT,fun q hq=>(nomatch hq)⟩,rfl,(fun p hp=>nomatch hp),fun v H' ev _ hr=>⟨?_,fun b o e=>ev b o e nofun⟩⟩
 ·match i,e with
  | 0,e =>
   cases e
   refine ⟨_,rfl,a,ns.map V.int,rfl,?_,hK⟩
   have:intsT ns = (ns.map V.int).map T.a:=by simp [intsT]
   rw [this]
   exact Ims.atoms _
  | i + 1,e=>simp at e
 ·match i,e with
  | 0,e=>cases e; cases ma
  | i + 1,e=>simp at e
 ·exact (show Im K H' v (.a (.bl true)) from hr).inva
theorem walk_ofL {l:PySem.W.OpenLaw} {n k:Nat} {q:Program} {loose:List Str} {XP:(Str → Option Value) → Heap → Prop} {YP:World → Heap → Prop} {d:DefRec} {K:Params → PySem.W.Frag} {sp:PySem.W.Frag → Sp} {x:Str} {c0 P0:Addr}
  (hn:l.most = some n) (hn2:n ≤ sizeLine) (hdf:d.params.defaults = []) (hr:Room k callerA)
  (hY:∀ (w:World) (h:Heap),YP w h → (K w.params).In h) (hYP:∀ (w:World) (h:Heap),YP w h → h.get? P0 = some { cls:=.none,data:=.fields #[] })
  (hT:∀ w:World,PySem.W.tabIn (K w.params) "is_so" = some (c0,P0)) (hH:∀ w:World,PySem.W.codeHdIn (K w.params) c0 P0 = true) (hNT:∀ w:World,PySem.W.noTabs (K w.params) = true)
  (F:∀ (w:World) (mg:Str → Option Value) (fa:Addr) (h:Heap),(K w.params).In h → h.Ns mainGlobals mg → mg d.name = some (.ref fa) →
   ∃ fd:FuncData,(∀ (s:Shared) (u:Value),BindsTo s fd ⟨[u],[]⟩ [(x,u)]) ∧
    ∀ base:Heap,(K w.params).In base → base.Ns mainGlobals mg → FnOk l.prog w (K w.params) mg base CX0 k fa fd [x] (sp (K w.params)))
  (hsp:∀ (K:PySem.W.Frag) (H:Hp) (a:Addr) (ns:List Int),ns.length ≤ n → (∀ us,H a ≠ some (.lst us)) → TabOk K H → SqL K H a (ns.map V.int) → sp K [.ref a] H (fun v H'=>v = .bl true ∧ ∀ b o,H b = some o → H' b = some o) fun _ _ _=>False) :
  PySem.W.WalkO q loose XP YP l.row.toRowW d [] (fun f vs=>PySem.call f vs):=by
 refine Att.attach_call hn hdf fun w s₀ s₁ mg mb fa o pm cd doc a vs ns G Y ho hd hcd hmg hobj hints hlen hg=>?_
 have KX:=hY w _ Y
 obtain ⟨fd,hb,hF⟩:=F w mg fa _ KX G.T.g hmg
 exact law_callL KX G.T.g G.T.b G.T.builtins G.T.nolimit hg G.T.bmain (hT w) (hH w) (hNT w) (hYP w _ Y) hobj hints (Nat.le_trans hlen hn2) hr hF hb fun H h1 h2 h3=>hsp _ H a ns hlen h1 h2 h3
end D
set_option Elab.async false
set_option linter.all false
set_option maxRecDepth 100000
set_option maxHeartbeats 4000000
namespace D
open PySem L2
mutual
noncomputable def Rs.PutP (PP:T → List T → T → Prop):Rs → Prop
 | .mk e v ks=>PP e (ks.map Rs.v) v ∧ PutsP PP ks
noncomputable def PutsP (PP:T → List T → T → Prop):List Rs → Prop
 | []=>True
 | r :: rs=>r.PutP PP ∧ PutsP PP rs
end
theorem putsP_cons {PP:T → List T → T → Prop} {r:Rs} {rs:List Rs}:PutsP PP (r :: rs) ↔ r.PutP PP ∧ PutsP PP rs:=by rw [PutsP]
theorem putP_mk {PP:T → List T → T → Prop} {e v:T} {ks:List Rs}:(Rs.mk e v ks).PutP PP ↔ PP e (ks.map Rs.v) v ∧ PutsP PP ks:=by rw [Rs.PutP]
theorem putsP_nil {PP:T → List T → T → Prop}:PutsP PP []:=by unfold PutsP; trivial
noncomputable def fwBM (tb1:Tb) (dp:DE):DS:=dSeq (dSet 5 (dComp (some (1,3)) [none,some 3] (dSeqI (dCallV 1 tb1 (dCons (dVar 4) dNil))) (gdName 0) dYes fwE))
 (dDrop (dMut 3 hAppend (dCons dp dNil)))
noncomputable def fwDM (FA:DF) (tb1:Tb) (dp:DE):DS:=dSeq (dSet 3 (dLst dNil))
 (dSeq (dFor none (dRevL (dCons (dCall none FA [] (dCons (dVar 0) (dCons (dVar 1) dNil))) dNil)) (gdName 4) (fwBM tb1 dp))
 (dRet (dOp ixS (dVar 3) (dC (.int 0)))))
section
variable {tb1:Tb} {dp:DE} {pv:T} {PP:T → List T → T → Prop} {n:Str} {ka:Nat} {ins:DF}
noncomputable def PutOk (n:Str) (dp:DE) (pv:T) (PP:T → List T → T → Prop):Prop:=∀ (w e v:T) (t0 vs:List T),PP e vs v → dp [some (.v w),some (.v (.f n)),some (.v pv),some (.l t0),some (.v e),some (.l vs)] = some (.v v,[some (.v w),some (.v (.f n)),some (.v pv),some (.l t0),some (.v e),some (.l vs)])
theorem fwM_step (hf:tb1.find? (fun q=>decide (q.1 = n)) = some (n,ka,ins)) (hg:PutOk n dp pv PP) {e v:T} {ks:List Rs} {t0:List T} {w:T} {p5:Option G} (h1:ins [.v e] = some (.v (.t (ks.map Rs.e)),[]) ∨ ins [.v e] = some (.l (ks.map Rs.e),[]))
  (h2:PP e (ks.map Rs.v) v) (hb:t0.length + ks.length ≤ 90000) :
  fwBM tb1 dp [some (.v w),some (.v (.f n)),some (.v pv),some (.l (t0 ++ (ks.map Rs.v).reverse)),some (.v e),p5] = some (.nx [some (.v w),some (.v (.f n)),some (.v pv),some (.l (t0 ++ [v])),some (.v e),some (.l (ks.map Rs.v))]):=by
 obtain ⟨o',hc⟩:=fw_pop (ks.map Rs.e) (ks.map Rs.v) t0 none (by simp) (by simp; omega)
 have cv:dCallV 1 tb1 (dCons (dVar 4) dNil) [some (.v w),some (.v (.f n)),some (.v pv),some (.l (t0 ++ (ks.map Rs.v).reverse)),some (.v e),p5] = dCall none ins [] (dCons (dVar 4) dNil) [some (.v w),some (.v (.f n)),some (.v pv),some (.l (t0 ++ (ks.map Rs.v).reverse)),some (.v e),p5]:=dCallV_of rfl hf
 have cw:=hg w e v t0 _ h2
 have hz:(ks.map Rs.e).length ≤ sizeLine:=Nat.le_trans (show (ks.map Rs.e).length ≤ 100000 by simp; omega) (by decide)
 have ht:t0.length < sizeLine:=Nat.lt_of_lt_of_le (show t0.length < 100000 by omega) (by decide)
 have ht':t0.length ≤ sizeLine:=Nat.le_of_lt ht
 generalize t0 ++ (ks.map Rs.v).reverse = RR at hc cv ⊢
 generalize ks.map Rs.e = EE at h1 hc hz ⊢
 generalize ks.map Rs.v = VV at h2 hc cw ⊢
 rcases h1 with h1 | h1
 ·simp [fwBM,cv,h1,hc,cw,gd,hz,ht,ht']
 ·simp [fwBM,cv,h1,hc,cw,gd,hz,ht,ht']
mutual
theorem fwM_one (hf:tb1.find? (fun q=>decide (q.1 = n)) = some (n,ka,ins)) (hg:PutOk n dp pv PP) (w:T):∀ (r:Rs) (t0 more:List T) (p4 p5:Option G),r.In ins → r.PutP PP → t0.length + r.pre.length ≤ 90000 →
  ∃ p4' p5',forD (gdName 4) (fwBM tb1 dp) (r.pre.reverse.map Rs.e ++ more) [some (.v w),some (.v (.f n)),some (.v pv),some (.l t0),p4,p5] = forD (gdName 4) (fwBM tb1 dp) more [some (.v w),some (.v (.f n)),some (.v pv),some (.l (t0 ++ [r.v])),p4',p5']
 | .mk e v ks,t0,more,p4,p5,hi,hp,hb=>by
  obtain ⟨h1,h2⟩:=in_mk.mp hi
  obtain ⟨h3,h4⟩:=putP_mk.mp hp
  rw [pre_mk] at hb ⊢
  simp only [List.length_cons] at hb
  have hlen:∀ l:List Rs,l.length ≤ (pres l).length:=fun l=>by
   induction l with
   | nil=>simp
   | cons x l ih =>
    cases x with
    | mk a b c=>rw [pres_cons,pre_mk]; simp; omega
  have hk:=hlen ks
  obtain ⟨q4,q5,e1⟩:=fwM_all hf hg w ks t0 (e :: more) p4 p5 h2 h4 (by omega)
  refine ⟨some (.v e),some (.l (ks.map Rs.v)),?_⟩
  rw [List.reverse_cons,List.map_append,List.append_assoc,List.map_cons,List.map_nil]
  show forD _ _ (List.map Rs.e (pres ks).reverse ++ (e :: more)) _ = _
  rw [e1,forD_cons]
  simp only [gdName_ap]
  rw [show (List.set [some (G.v w),some (.v (.f n)),some (.v pv),some (.l (t0 ++ (ks.map Rs.v).reverse)),q4,q5] 4 (some (.v e))) = [some (.v w),some (.v (.f n)),some (.v pv),some (.l (t0 ++ (ks.map Rs.v).reverse)),some (.v e),q5] from rfl]
  rw [Option.bind_some,fwM_step hf hg h1 h3 (by omega),Option.bind_some]
  rfl
theorem fwM_all (hf:tb1.find? (fun q=>decide (q.1 = n)) = some (n,ka,ins)) (hg:PutOk n dp pv PP) (w:T):∀ (ks:List Rs) (t0 more:List T) (p4 p5:Option G),Ins ins ks → PutsP PP ks → t0.length + (pres ks).length ≤ 90000 →
  ∃ p4' p5',forD (gdName 4) (fwBM tb1 dp) ((pres ks).reverse.map Rs.e ++ more) [some (.v w),some (.v (.f n)),some (.v pv),some (.l t0),p4,p5] = forD (gdName 4) (fwBM tb1 dp) more [some (.v w),some (.v (.f n)),some (.v pv),some (.l (t0 ++ (ks.map Rs.v).reverse)),p4',p5']
 | [],t0,more,p4,p5,_,_,_=>⟨p4,p5,by simp [pres_nil]⟩
 | r :: rs,t0,more,p4,p5,hi,hp,hb=>by
  obtain ⟨h1,h2⟩:=ins_cons.mp hi
  obtain ⟨h3,h4⟩:=putsP_cons.mp hp
  rw [pres_cons] at hb ⊢
  simp only [List.length_append] at hb
  have hlen:∀ l:List Rs,l.length ≤ (pres l).length:=fun l=>by
   induction l with
   | nil=>simp
   | cons x l ih =>
    cases x with
    | mk a b c=>rw [pres_cons,pre_mk]; simp; omega
  have hk:=hlen rs
  obtain ⟨q4,q5,e1⟩:=fwM_all hf hg w rs t0 (r.pre.reverse.map Rs.e ++ more) p4 p5 h2 h4 (by omega)
  obtain ⟨q6,q7,e2⟩:=fwM_one hf hg w r (t0 ++ (rs.map Rs.v).reverse) more q4 q5 h1 h3 (by simp; omega)
  refine ⟨q6,q7,?_⟩
  rw [List.reverse_append,List.map_append,List.append_assoc,e1,e2]
  simp
end
theorem fold_withinM_ok (hf:tb1.find? (fun q=>decide (q.1 = n)) = some (n,ka,ins)) (hg:PutOk n dp pv PP) (r:Rs) (h1:r.In ins) (h2:r.PutP PP) (hb:r.pre.length ≤ 80000) :
  fnD none 3 6 (fwDM (fnD none 2 5 (awD tb1)) tb1 dp) [.v r.e,.v (.f n),.v pv] = some (.v r.v,[]):=by
 have ha:=all_within_ok hf r h1 hb
 obtain ⟨q4,q5,e⟩:=fwM_one hf hg r.e r [] [] none none h1 h2 (by simp; omega)
 rw [List.append_nil,forD_nil] at e
 have hz:(r.pre.map Rs.e).length ≤ sizeLine:=Nat.le_trans (show (r.pre.map Rs.e).length ≤ 100000 by simp; omega) (by decide)
 have e2:(List.map Rs.e r.pre).reverse = List.map Rs.e r.pre.reverse:=by simp
 generalize fnD none 2 5 (awD tb1) = FA at ha ⊢
 generalize r.pre.map Rs.e = EE at ha hz e2
 rw [← e2] at e
 simp [fnD,fwDM,ha,gd,hz,e]
end
theorem put_lam {tb2:Tb} {L:Lam} {dl:DE} {ta:T} {n:Str}:PutOk n (dCallM 2 tb2 L dl (dCons (dVar 4) (dCons (dVar 5) dNil))) (.m L [ta]) (fun e vs v=>∃ u,v = .a u ∧ lamF dl ta [.v e,.r vs] = some u):=by
 rintro w e v t0 vs ⟨u,rfl,h⟩
 unfold dCallM
 have fa:dCons (dVar 4) (dCons (dVar 5) dNil) [some (.v w),some (.v (.f n)),some (.v (.m L [ta])),some (.l t0),some (.v e),some (.l vs)] = some ([.v e,.s 5],[some (.v w),some (.v (.f n)),some (.v (.m L [ta])),some (.l t0),some (.v e),some (.l vs)]):=rfl
 have ag:argsG none [some (.v w),some (.v (.f n)),some (.v (.m L [ta])),some (.l t0),some (.v e),some (.l vs)] 0 [.v e,.s 5] = some [.v e,.r vs]:=rfl
 refine (if_pos rfl).trans ?_
 rw [fa,Option.bind_some,ag,Option.bind_some,h]
 rfl
theorem put_def {tb2:Tb} {L:Lam} {dl:DE} {n m:Str} {kb:Nat} {put:DF} (hg:tb2.find? (fun q=>decide (q.1 = m)) = some (m,kb,put)):PutOk n (dCallM 2 tb2 L dl (dCons (dVar 4) (dCons (dVar 5) dNil))) (.f m) (fun e vs v=>put [.v e,.r vs] = some (.v v,[])):=by
 rintro w e v t0 vs h
 have cv:dCallM 2 tb2 L dl (dCons (dVar 4) (dCons (dVar 5) dNil)) [some (.v w),some (.v (.f n)),some (.v (.f m)),some (.l t0),some (.v e),some (.l vs)] = dCall none put [] (dCons (dVar 4) (dCons (dVar 5) dNil)) [some (.v w),some (.v (.f n)),some (.v (.f m)),some (.l t0),some (.v e),some (.l vs)]:=by
  unfold dCallM
  show (match tb2.find? fun q=>decide (q.1 = m) with | some q=>dCall none q.2.2 [] _ _ | none=>none) = _
  rw [hg]
 rw [cv]
 simp [h]
end D
set_option Elab.async false
set_option linter.all false
set_option maxRecDepth 100000
set_option maxHeartbeats 4000000
namespace D
open PySem L2
noncomputable def addLQ:En → S → S → Option S:=fun Γ a b=>(sqlOf Γ a).bind fun xs=>(sqlOf Γ b).bind fun ys=>gd (xs.length + ys.length) (.l (xs ++ ys))
section
variable {ι:Type} {K:Fg} {mg:Str → Option Value} {k:Nat} {X:ι → Cx} {ip:Option Nat} {a b:Expr} {pos:Pos} {fa fb:DE} {st:Stmt} {g:DS}
@[simp] theorem addLQ_vl {Γ:En} {xs ys:List T}:addLQ Γ (.v (.l xs)) (.l ys) = gd (xs.length + ys.length) (.l (xs ++ ys)):=rfl
end
end D
set_option Elab.async false
set_option linter.all false
set_option maxRecDepth 100000
set_option maxHeartbeats 4000000
namespace L2
open PySem
noncomputable def Ris (xs:Array Nat):Prop:=xs.toList.Pairwise (· < ·)
theorem Ris.lt {xs:Array Nat} (h:Ris xs) {i k a b:Nat} (hik:i < k) (ha:xs[i]? = some a) (hb:xs[k]? = some b):a < b:=by
 rw [← Array.getElem?_toList] at ha hb
 obtain ⟨h1,rfl⟩:=List.getElem?_eq_some_iff.mp ha
 obtain ⟨h2,rfl⟩:=List.getElem?_eq_some_iff.mp hb
 exact List.pairwise_iff_getElem.mp h i k h1 h2 hik
structure Bel (xs:Array Nat) (j r:Nat):Prop where
 le:r ≤ xs.size
 lo:∀ i x,i < r → xs[i]? = some x → x < j
 hi:∀ i x,r ≤ i → xs[i]? = some x → j ≤ x
theorem below_go {xs:Array Nat} (h:Ris xs) (j:Nat):∀ (f lo hi:Nat),hi ≤ xs.size → lo ≤ hi → hi - lo ≤ f → (∀ i x,i < lo → xs[i]? = some x → x < j) → (∀ i x,hi ≤ i → xs[i]? = some x → j ≤ x) → Bel xs j (SetTable.below.go xs j f lo hi)
 | 0,lo,hi,h1,h2,h3,h4,h5=>by
  obtain rfl:lo = hi:=by omega
  exact ⟨h1,h4,h5⟩
 | f + 1,lo,hi,h1,h2,h3,h4,h5=>by
  unfold SetTable.below.go
  by_cases hl:lo < hi
  ·rw [if_pos hl]
   have hm:(lo + hi) / 2 < xs.size:=by omega
   have em:xs[(lo + hi) / 2]? = some xs[(lo + hi) / 2]:=Array.getElem?_eq_getElem hm
   have eg:xs.getD ((lo + hi) / 2) j = xs[(lo + hi) / 2]:=by simp [Array.getD,hm]
   dsimp only
   rw [eg]
   by_cases hc:xs[(lo + hi) / 2] < j
   ·rw [if_pos hc]
    refine below_go h j f _ hi h1 (by omega) (by omega) (fun i x hi' hx=>?_) h5
    by_cases e:i = (lo + hi) / 2
    ·subst e; rw [em] at hx; cases hx; exact hc
    ·exact Nat.lt_trans (h.lt (show i < (lo + hi) / 2 by omega) hx em) hc
   ·rw [if_neg hc]
    refine below_go h j f lo _ (by omega) (by omega) (by omega) h4 fun i x hi' hx=>?_
    by_cases e:i = (lo + hi) / 2
    ·subst e; rw [em] at hx; cases hx; omega
    ·have:=h.lt (show (lo + hi) / 2 < i by omega) em hx; omega
  ·rw [if_neg hl]
   obtain rfl:lo = hi:=by omega
   exact ⟨h1,h4,h5⟩
theorem below_ok {xs:Array Nat} (h:Ris xs) (j:Nat):Bel xs j (SetTable.below xs j) :=
 below_go h j xs.size 0 xs.size (Nat.le_refl _) (Nat.zero_le _) (Nat.le_refl _) (fun i x hi=>by omega) fun i x hi hx=>by
  have:=(Array.getElem?_eq_some_iff.mp hx).1; omega
theorem insertAt_list {α:Type} (xs:Array α) (p:Nat) (x:α):(SetTable.insertAt xs p x).toList = xs.toList.take p ++ x :: xs.toList.drop p:=by
 unfold SetTable.insertAt
 simp [List.take_of_length_le]
theorem ris_put {xs:Array Nat} (h:Ris xs) {j:Nat} (hn:¬ xs[SetTable.below xs j]? = some j):Ris (SetTable.insertAt xs (SetTable.below xs j) j):=by
 have b:=below_ok h j
 unfold Ris
 rw [insertAt_list,List.pairwise_append,List.pairwise_cons]
 refine ⟨List.Pairwise.sublist (List.take_sublist _ _) h,⟨fun y hy=>?_,List.Pairwise.sublist (List.drop_sublist _ _) h⟩,fun a ha c hc=>?_⟩
 ·obtain ⟨k,hk,rfl⟩:=List.getElem_of_mem hy
  rw [List.getElem_drop]
  have hk':SetTable.below xs j + k < xs.toList.length:=by rw [List.length_drop] at hk; omega
  have e:xs[SetTable.below xs j + k]? = some xs.toList[SetTable.below xs j + k]:=by rw [← Array.getElem?_toList]; exact List.getElem?_eq_getElem hk'
  have h1:=b.hi _ _ (Nat.le_add_right _ _) e
  rcases Nat.lt_or_eq_of_le h1 with z | z
  ·exact z
  ·exfalso
   by_cases k0:k = 0
   ·subst k0; exact hn (e.trans (by rw [← z]))
   ·have hb:SetTable.below xs j < xs.toList.length:=by omega
    have e0:xs[SetTable.below xs j]? = some xs.toList[SetTable.below xs j]:=by rw [← Array.getElem?_toList]; exact List.getElem?_eq_getElem hb
    have h2:=b.hi _ _ (Nat.le_refl _) e0
    have h3:=h.lt (show SetTable.below xs j < SetTable.below xs j + k by omega) e0 e
    omega
 ·obtain ⟨k,hk,rfl⟩:=List.getElem_of_mem ha
  rw [List.getElem_take]
  rw [List.length_take] at hk
  have e:xs[k]? = some xs.toList[k]:=by rw [← Array.getElem?_toList]; exact List.getElem?_eq_getElem (by omega)
  have h1:=b.lo k _ (by omega) e
  rcases List.mem_cons.mp hc with z | z
  ·rw [z]; exact h1
  ·obtain ⟨m,hm,rfl⟩:=List.getElem_of_mem z
   rw [List.getElem_drop]
   rw [List.length_drop] at hm
   have e':xs[SetTable.below xs j + m]? = some xs.toList[SetTable.below xs j + m]:=by rw [← Array.getElem?_toList]; exact List.getElem?_eq_getElem (by omega)
   exact Nat.lt_of_lt_of_le h1 (b.hi _ _ (Nat.le_add_right _ _) e')
theorem slot_nd {t:SetTable} (hd:t.dummies = #[]) (j:Nat):t.slot j = .empty ∨ ∃ i,t.slot j = .live i:=by
 unfold SetTable.slot
 dsimp only
 by_cases h:(t.place[SetTable.below t.place j]? == some j) = true
 ·rw [if_pos h]; exact .inr ⟨_,rfl⟩
 ·rw [if_neg h,hd]
  exact .inl rfl
theorem slot_empty {t:SetTable} {j:Nat} (h:t.slot j = .empty):¬ t.place[SetTable.below t.place j]? = some j:=fun e=>by
 unfold SetTable.slot at h
 dsimp only at h
 rw [if_pos (by rw [e]; simp)] at h
 cases h
theorem probe_go {t:SetTable} (hd:t.dummies = #[]) (ha:Nat → Int) (hh:Int):∀ (f:Nat) (p:SetTable.Probe) (j:Nat) (d:Option Nat),p.dummy = none → SetTable.probe.go t ha hh f p = some (.empty j d) → d = none ∧ t.slot j = .empty
 | 0,p,j,d,_,e=>by cases e
 | f + 1,p,j,d,hp,e=>by
  unfold SetTable.probe.go at e
  rcases slot_nd hd p.j with z | ⟨i,z⟩
  ·rw [z] at e
   cases e
   exact ⟨hp,z⟩
  ·rw [z] at e
   dsimp only at e
   split at e
   ·cases e
   ·refine probe_go hd ha hh f _ j d ?_ e
    unfold SetTable.advance
    split
    ·exact hp
    ·exact hp
theorem free_ok {t:SetTable} (hd:t.dummies = #[]) {h:Int} {s:Nat} {b:Bool} (e:t.freeSlot h = some (s,b)):t.slot s = .empty:=by
 unfold SetTable.freeSlot at e
 split at e
 ·rename_i j d hp
  obtain ⟨rfl,z⟩:=probe_go hd _ _ _ _ j d rfl hp
  cases e
  exact z
 ·cases e
structure Tab (t:SetTable) (led:Bool):Prop where
 ris:Ris t.place
 nd:t.dummies = #[]
 led:t.led = led
theorem ris_range (n:Nat):Ris (Array.range n):=by unfold Ris; rw [Array.toList_range]; exact List.pairwise_lt_range
theorem tab_stand {t:SetTable} {led:Bool} (h:Tab t led) (n:Nat):Tab (t.standIn n) led:=⟨ris_range n,rfl,h.led⟩
theorem tab_new {t:SetTable} {led:Bool} (T:Tab t led) (es:Array (Int × Value)) (h:Int) (x:Value):Tab (layNew t es h x).2.1 led:=by
 unfold layNew
 split
 ·rename_i s b hf
  have hs:=slot_empty (free_ok T.nd hf)
  have ht:Tab (t.put s).1 led:=by
   refine ⟨ris_put T.ris hs,?_,T.led⟩
   show (if SetTable.has t.dummies s = true then _ else t.dummies) = #[]
   rw [T.nd]
   rfl
  dsimp only
  unfold SetTable.orStandIn
  split
  ·exact ht
  ·exact tab_stand ht _
 ·exact tab_stand T _
theorem ris_live (m:Nat) (f:Nat → Option Nat):(((List.range m).filterMap fun j=>(f j).map (j,·)).map (·.1)).Pairwise (· < ·):=by
 rw [List.pairwise_map,List.pairwise_filterMap]
 refine List.pairwise_lt_range.imp fun {a b} hab x hx y hy=>?_
 cases hfa:f a with
 | none=>rw [hfa] at hx; cases hx
 | some u =>
  cases hfb:f b with
  | none=>rw [hfb] at hy; cases hy
  | some v=>rw [hfa] at hx; rw [hfb] at hy; cases hx; cases hy; exact hab
theorem tab_relay {t:SetTable} {led:Bool} (T:Tab t led) (es:Array (Int × Value)) (n:Nat):Tab (relayAll t es n).2.1 led:=by
 unfold relayAll
 split
 ·rename_i t' order hr
  have ht:Tab t' led:=by
   unfold SetTable.relaid SetTable.laid at hr
   simp only [Option.bind_eq_bind,Option.pure_def] at hr
   obtain ⟨owner,_,hr⟩:=Option.bind_eq_some_iff.mp hr
   cases hr
   exact ⟨by unfold Ris; exact ris_live _ _,rfl,T.led⟩
  dsimp only
  split
  ·exact ht
  ·exact tab_stand T _
 ·exact tab_stand T _
end L2
set_option Elab.async false
set_option linter.all false
set_option maxRecDepth 100000
set_option maxHeartbeats 4000000
namespace L2
open PySem PySem.Spec PyProof.Rows
noncomputable abbrev byT (w:World):Bool:=w.params.followText "set-order"
noncomputable abbrev set0 (led:Bool):Obj:={ cls:=.type "set",dict:=none,data:=.set #[] 0 (.fresh 0 0 led) }
section
variable {prog:Program} {w:World} {A:Around} {E:Value → Shared → Prop} {s:Shared}
theorem set_new (a:Value) {Q₁:Value → Shared → Prop} (h:Q₁ (.ref s.heap.objs.size) { s with heap:=s.heap.push (set0 (!byT w)) }):codeAny (model prog w) A (.call (.builtin "set.__new__") ⟨[.type "set",a],[]⟩) (wants Q₁ E) s:=by
 refine codeAny_of_tree ?_
 refine wpAny_bind (wpAny_of_eq (F.newCall_set_1 a) (wpAny_pure ⟨plainId_quiet F.plain_set_new _,codeAny_builtin F.entry_set_new ?_⟩))
 rw [Around.under_plainId F.plain_set_new _]
 unfold Builtin.«set.__new__» Builtin.Frozenset.newClass
 have hsub:=sub_set_self
 obtain ⟨hp,g,d,tk,os⟩:=s
 dsimp only
 wp_walk
 refine wpAny_askSetting (wpAny_pure ?_)
 dsimp only
 simp only [newObj]
 exact wpAny_bind (wpAny_alloc (wpAny_pure (wpAny_pure h)))
end
end L2
set_option Elab.async false
set_option linter.all false
set_option maxRecDepth 100000
set_option maxHeartbeats 4000000
namespace L2
open PySem
theorem nd_le:∀ {l m:List Nat},l.Nodup → (∀ x ∈ l,x ∈ m) → l.length ≤ m.length
 | [],_,_,_=>Nat.zero_le _
 | x :: r,m,nd,h=>by
  have nd':=List.nodup_cons.mp nd
  have hx:=h x List.mem_cons_self
  have:=nd_le (l:=r) (m:=m.erase x) nd'.2 fun y hy=>(List.mem_erase_of_ne (fun e:y = x=>nd'.1 (by rw [← e]; exact hy))).mpr (h y (List.mem_cons_of_mem _ hy))
  rw [List.length_erase_of_mem hx] at this
  have:=List.length_pos_of_mem hx
  rw [List.length_cons]; omega
structure Sm (t:SetTable) (es:Array (Int × Value)) (few:Nat):Prop where
 pl:t.plain = true
 nd:t.dummies = #[]
 ris:Ris t.place
 sz:t.place.size = es.size
 hs:∀ e ∈ es.toList,0 ≤ e.1 ∧ e.1 < 10
 hd:(es.toList.map (·.1)).Nodup
 ms:(t.mask = 7 ∧ es.size ≤ few) ∨ (t.mask = 31 ∧ t.place.toList = es.toList.map fun e=>e.1.toNat)
noncomputable def itr:Nat → Nat → Nat
 | 0,i=>i
 | n + 1,i=>itr n ((i * 5 + 1) % 8)
theorem itr_all:∀ i < 8,∀ j < 8,∃ m,m < 8 ∧ itr m i = j:=by decide +kernel
theorem seek {t:SetTable} (hm:t.mask = 7) (nd:t.dummies = #[]) (h:Int):∀ (n f:Nat) (p:SetTable.Probe),n < f → p.more = 0 → p.dummy = none → p.j = p.i → p.i < 8 → p.perturb < 32 → (∃ m,m ≤ n ∧ t.slot (itr m p.i) = .empty) → ∃ j,SetTable.probe.go t (fun _=>h + 1) h f p = some (.empty j none)
 | n,0,p,hf,_,_,_,_,_,_=>by omega
 | n,f + 1,p,hf,h1,h2,h3,h4,h5,⟨m,hmn,hs⟩=>by
  unfold SetTable.probe.go
  rcases slot_nd nd p.j with z | ⟨i,z⟩
  ·rw [z]; exact ⟨p.j,by rw [h2]⟩
  ·rw [z]
   dsimp only
   rw [if_neg (by simp; omega)]
   obtain ⟨m,rfl⟩:∃ k,m = k + 1:=by
    cases m with
    | zero=>exfalso; rw [h3] at z; rw [show itr 0 p.i = p.i from rfl,z] at hs; cases hs
    | succ k=>exact ⟨k,rfl⟩
   obtain ⟨n,rfl⟩:∃ k,n = k + 1:=⟨n - 1,by omega⟩
   have pd:p.perturb / 32 = 0:=Nat.div_eq_of_lt h5
   have ea:t.advance p = { p with j:=(p.i * 5 + 1) % 8,more:=0,i:=(p.i * 5 + 1) % 8,perturb:=0 }:=by
    unfold SetTable.advance SetTable.leap
    rw [if_neg (by omega),hm,pd]
    dsimp only
    have:SetTable.runEnd 7 ((p.i * 5 + 1 + 0) % (7 + 1)) - (p.i * 5 + 1 + 0) % (7 + 1) = 0:=by
     unfold SetTable.runEnd
     rw [if_neg (by omega)]
     omega
    rw [this]
   rw [ea]
   exact seek hm nd h n f _ (by omega) rfl h2 rfl (Nat.mod_lt _ (by decide)) (show 0 < 32 by decide) ⟨m,by omega,hs⟩
theorem live_mem {t:SetTable} {j i:Nat} (h:t.slot j = .live i):j ∈ t.place.toList:=by
 unfold SetTable.slot at h
 dsimp only at h
 split at h
 ·rename_i hb
  have:=beq_iff_eq.mp hb
  rw [← Array.getElem?_toList] at this
  exact List.mem_of_getElem? this
 ·split at h <;> cases h
theorem bits_small {h:Int} (h0:0 ≤ h) (h1:h < 10):SetTable.bits h = h.toNat:=by
 unfold SetTable.bits
 rw [Int.emod_eq_of_lt h0 (by omega)]
theorem free7 {t:SetTable} {es:Array (Int × Value)} (T:Sm t es 4) (hm:t.mask = 7) (hz:es.size ≤ 4) {h:Int} (h0:0 ≤ h) (h1:h < 10):∃ j,t.freeSlot h = some (j,false):=by
 have hb:=bits_small h0 h1
 have hex:∃ m,m ≤ 7 ∧ t.slot (itr m (h.toNat % 8)) = .empty:=by
  refine Classical.byContradiction fun hc=>?_
  have all:∀ j,j < 8 → j ∈ t.place.toList:=fun j hj=>by
   obtain ⟨m,hm',rfl⟩:=itr_all (h.toNat % 8) (Nat.mod_lt _ (by decide)) j hj
   rcases slot_nd T.nd (itr m (h.toNat % 8)) with z | ⟨i,z⟩
   ·exact absurd ⟨m,by omega,z⟩ hc
   ·exact live_mem z
  have:(List.range 8).length ≤ t.place.toList.length:=nd_le List.nodup_range fun x hx=>all x (List.mem_range.mp hx)
  have:=T.sz
  simp at *
  omega
 have ps:t.probeStart h = { j:=h.toNat % 8,more:=0,i:=h.toNat % 8,perturb:=h.toNat,dummy:=none }:=by
  unfold SetTable.probeStart
  rw [hb,hm]
  dsimp only
  have:SetTable.runEnd 7 (h.toNat % (7 + 1)) - h.toNat % (7 + 1) = 0:=by unfold SetTable.runEnd; rw [if_neg (by omega)]; omega
  rw [this]
 obtain ⟨j,e⟩:=seek hm T.nd h 7 (10 * SetTable.turns t.mask) (t.probeStart h) (by rw [hm]; decide) (by rw [ps]) (by rw [ps]) (by rw [ps]) (by rw [ps]; exact Nat.mod_lt _ (by decide)) (by rw [ps]; show h.toNat < 32; omega) (by rw [ps]; exact hex)
 refine ⟨j,?_⟩
 unfold SetTable.freeSlot SetTable.probe
 rw [e]
 rfl
theorem free31 {t:SetTable} {es:Array (Int × Value)} {f:Nat} (T:Sm t es f) (hm:t.mask = 31) (hp:t.place.toList = es.toList.map fun e=>e.1.toNat) {h:Int} (h0:0 ≤ h) (h1:h < 10) (hn:∀ e ∈ es.toList,e.1 ≠ h):t.freeSlot h = some (h.toNat,false):=by
 have hb:=bits_small h0 h1
 have hs:t.slot h.toNat = .empty:=by
  rcases slot_nd T.nd h.toNat with z | ⟨i,z⟩
  ·exact z
  ·exfalso
   have:=live_mem z
   rw [hp] at this
   obtain ⟨e,he,q⟩:=List.mem_map.mp this
   have:=T.hs e he
   exact hn e he (by omega)
 have pj:(t.probeStart h).j = h.toNat:=by
  unfold SetTable.probeStart
  rw [hb,hm]
  exact Nat.mod_eq_of_lt (by omega)
 have pd:(t.probeStart h).dummy = none:=rfl
 unfold SetTable.freeSlot SetTable.probe
 obtain ⟨k,hk⟩:∃ k,10 * SetTable.turns t.mask = k + 1:=⟨_,by rw [hm]; rfl⟩
 rw [hk,SetTable.probe.go,pj,hs,pd]
 rfl
theorem sm_new {t:SetTable} {es:Array (Int × Value)} (T:Sm t es 4) {h:Int} (x:Value) (h0:0 ≤ h) (h1:h < 10) (hn:∀ e ∈ es.toList,e.1 ≠ h):Sm (layNew t es h x).2.1 (layNew t es h x).1 5 ∧ (layNew t es h x).2.2.1 = false ∧ (layNew t es h x).1.size = es.size + 1:=by
 obtain ⟨s,hf⟩:∃ s,t.freeSlot h = some (s,false):=by
  rcases T.ms with ⟨a,b⟩ | ⟨a,b⟩
  ·exact free7 T a b h0 h1
  ·exact ⟨_,free31 T a b h0 h1 hn⟩
 have few:es.size + 1 ≤ t.mask:=by
  rcases T.ms with ⟨a,b⟩ | ⟨a,b⟩
  ·omega
  ·have hr:=T.ris
   have nd:t.place.toList.Nodup:=List.Pairwise.imp (fun {a b} h=>Nat.ne_of_lt h) hr
   have:t.place.toList.length ≤ (List.range 10).length:=nd_le nd fun y hy=>by
    rw [b] at hy
    obtain ⟨e,he,rfl⟩:=List.mem_map.mp hy
    have:=T.hs e he
    exact List.mem_range.mpr (by omega)
   have:=T.sz
   simp at *
   omega
 have hs:=slot_empty (free_ok T.nd hf)
 have esz:(SetTable.insertAt es (SetTable.below t.place s) (h,x)).size = es.size + 1:=by
  have bl:=(below_ok T.ris s).le
  have:=congrArg List.length (insertAt_list es (SetTable.below t.place s) (h,x))
  rw [Array.length_toList,List.length_append,List.length_take,List.length_cons,List.length_drop,Array.length_toList] at this
  have:=T.sz
  omega
 have psz:(SetTable.insertAt t.place (SetTable.below t.place s) s).size = t.place.size + 1:=by
  have bl:=(below_ok T.ris s).le
  have:=congrArg List.length (insertAt_list t.place (SetTable.below t.place s) s)
  rw [Array.length_toList,List.length_append,List.length_take,List.length_cons,List.length_drop,Array.length_toList] at this
  omega
 have pnd:(t.put s).1.dummies = #[]:=by
  show (if SetTable.has t.dummies s = true then _ else t.dummies) = #[]
  rw [T.nd]; rfl
 have hfit:(t.put s).1.fits (SetTable.insertAt es (SetTable.below t.place s) (h,x)).size = true:=by
  unfold SetTable.fits SetTable.fill
  rw [pnd,esz]
  show ((SetTable.insertAt t.place (SetTable.below t.place s) s).size == es.size + 1 && decide ((SetTable.insertAt t.place (SetTable.below t.place s) s).size + 0 ≤ t.mask)) = true
  rw [psz,T.sz]
  simp only [beq_self_eq_true,Bool.true_and,decide_eq_true_eq]
  omega
 have el:layNew t es h x = (SetTable.insertAt es (SetTable.below t.place s) (h,x),(t.put s).1,false,false):=by
  unfold layNew
  rw [hf]
  show (_,(t.put s).1.orStandIn _,false,!((t.put s).1.fits _)) = _
  unfold SetTable.orStandIn
  show (SetTable.insertAt es (SetTable.below t.place s) (h,x),(if (t.put s).1.fits (SetTable.insertAt es (SetTable.below t.place s) (h,x)).size = true then (t.put s).1 else _),false,!((t.put s).1.fits (SetTable.insertAt es (SetTable.below t.place s) (h,x)).size)) = _
  rw [if_pos hfit,hfit]
  rfl
 rw [el]
 have pm:((SetTable.insertAt es (SetTable.below t.place s) (h,x)).toList).Perm ((h,x) :: es.toList):=by
  rw [insertAt_list]
  refine List.perm_middle.trans ?_
  rw [List.take_append_drop]
 refine ⟨⟨T.pl,pnd,ris_put T.ris hs,psz.trans (by rw [T.sz]; exact esz.symm),fun e he=>?_,?_,?_⟩,rfl,esz⟩
 ·rcases List.mem_cons.mp (pm.mem_iff.mp he) with z | z
  ·rw [z]; exact ⟨h0,h1⟩
  ·exact T.hs e z
 ·refine ((pm.map (·.1)).nodup_iff).mpr (List.nodup_cons.mpr ⟨fun hm=>?_,T.hd⟩)
  obtain ⟨e,he,q⟩:=List.mem_map.mp hm
  exact hn e he q
 ·rcases T.ms with ⟨a,b⟩ | ⟨a,b⟩
  ·exact .inl ⟨a,by rw [esz]; omega⟩
  ·refine .inr ⟨a,?_⟩
   have hs':s = h.toNat:=by have:=free31 T a b h0 h1 hn; rw [hf] at this; cases this; rfl
   show (SetTable.insertAt t.place (SetTable.below t.place s) s).toList = _
   rw [insertAt_list,insertAt_list,List.map_append,List.map_cons,List.map_take,List.map_drop,← b,hs']
end L2
set_option Elab.async false
set_option linter.all false
set_option maxRecDepth 100000
set_option maxHeartbeats 4000000
namespace L2
open PySem
structure Own (pre:List Int) (ow:Array (Option Nat)):Prop where
 sz:ow.size = 32
 at':∀ j k,ow.getD j none = some k ↔ pre[k]? = some (j:Int)
theorem free_at {ow:Array (Option Nat)} {i:Nat} (f p:Nat) (hi:i < 10) (hz:ow.size = 32) (hn:ow.getD i none = none):SetTable.layClean.free 31 ow (f + 1) i p = some i:=by
 unfold SetTable.layClean.free
 have hr:SetTable.runEnd 31 i + 1 - i = 9 + 1:=by unfold SetTable.runEnd; rw [if_pos (by omega)]; omega
 have e:ow.getD (i + 0) (some 0) = none:=by
  rw [Array.getD_eq_getD_getElem?] at hn ⊢
  rw [Nat.add_zero,Array.getElem?_eq_getElem (by omega)] at *
  exact hn
 rw [hr,List.range_succ_eq_map,List.find?_cons_of_pos (by rw [e]; rfl)]
 rfl
theorem own_step {pre:List Int} {ow:Array (Option Nat)} (O:Own pre ow) {h:Int} (h0:0 ≤ h) (h1:h < 10) (hn:h ∉ pre):SetTable.layClean.free 31 ow (SetTable.turns 31) (SetTable.bits h % (31 + 1)) (SetTable.bits h) = some h.toNat ∧ Own (pre ++ [h]) (ow.setIfInBounds h.toNat (some pre.length)):=by
 have hb:=bits_small h0 h1
 have hx:ow.getD h.toNat none = none:=by
  cases q:ow.getD h.toNat none with
  | none=>rfl
  | some k =>
   have:=(O.at' _ k).mp q
   rw [Int.toNat_of_nonneg h0] at this
   exact absurd (List.mem_of_getElem? this) hn
 refine ⟨?_,⟨by rw [Array.size_setIfInBounds,O.sz],fun j k=>?_⟩⟩
 ·rw [hb,Nat.mod_eq_of_lt (by omega)]
  exact free_at 45 _ (by omega) O.sz hx
 ·rw [Array.getD_eq_getD_getElem?,Array.getElem?_setIfInBounds]
  by_cases e:h.toNat = j
  ·subst e
   rw [if_pos rfl,if_pos (by rw [O.sz]; omega)]
   constructor
   ·intro z
    cases z
    rw [List.getElem?_append_right (Nat.le_refl _),Nat.sub_self,Int.toNat_of_nonneg h0]; rfl
   ·intro z
    rw [Int.toNat_of_nonneg h0] at z
    rcases Nat.lt_or_ge k pre.length with l | l
    ·rw [List.getElem?_append_left l] at z
     exact absurd (List.mem_of_getElem? z) hn
    ·have:k = pre.length:=by
      rw [List.getElem?_append_right l] at z
      have:=(List.getElem?_eq_some_iff.mp z).1
      simp at this; omega
     rw [this]; rfl
  ·rw [if_neg e,← Array.getD_eq_getD_getElem?,O.at' j k]
   constructor
   ·intro z
    rw [List.getElem?_append_left (List.getElem?_eq_some_iff.mp z).1]; exact z
   ·intro z
    rcases Nat.lt_or_ge k pre.length with l | l
    ·rw [List.getElem?_append_left l] at z; exact z
    ·exfalso
     rw [List.getElem?_append_right l] at z
     have h2:=List.mem_of_getElem? z
     have:=List.mem_singleton.mp h2
     apply e; omega
theorem own_fold:∀ (hs pre:List Int) (ow:Array (Option Nat)),Own pre ow → (∀ h ∈ hs,0 ≤ h ∧ h < 10) → (pre ++ hs).Nodup →
  ∃ ow',Own (pre ++ hs) ow' ∧ hs.foldl (fun (acc:Option (Array (Option Nat) × Nat)) h=>acc.bind fun x=>(SetTable.layClean.free 31 x.1 (SetTable.turns 31) (SetTable.bits h % (31 + 1)) (SetTable.bits h)).bind fun j=>some (x.1.setIfInBounds j (some x.2),x.2 + 1)) (some (ow,pre.length)) = some (ow',(pre ++ hs).length)
 | [],pre,ow,O,_,_=>⟨ow,by rw [List.append_nil]; exact O,by rw [List.append_nil]; rfl⟩
 | h :: r,pre,ow,O,hb,nd=>by
  have h1:=hb h List.mem_cons_self
  have hn:h ∉ pre:=fun z=>by
   have:=(List.nodup_append.mp nd).2.2 h z h List.mem_cons_self
   exact this rfl
  obtain ⟨e,O'⟩:=own_step O h1.1 h1.2 hn
  obtain ⟨ow',O2,e2⟩:=own_fold r (pre ++ [h]) _ O' (fun x hx=>hb x (List.mem_cons_of_mem _ hx)) (by rw [List.append_assoc]; exact nd)
  rw [List.append_assoc] at O2 e2
  refine ⟨ow',O2,?_⟩
  rw [List.foldl_cons,Option.bind_some,e,Option.bind_some]
  have:(pre ++ [h]).length = pre.length + 1:=by simp
  rw [this] at e2
  exact e2
theorem lay_clean {hs:Array Int} (hb:∀ h ∈ hs.toList,0 ≤ h ∧ h < 10) (nd:hs.toList.Nodup):∃ ow,Own hs.toList ow ∧ SetTable.layClean 31 hs = some ow:=by
 obtain ⟨ow,O,e⟩:=own_fold hs.toList [] (Array.replicate (31 + 1) none) ⟨by simp,fun j k=>by
  rw [Array.getD_eq_getD_getElem?,Array.getElem?_replicate]
  constructor
  ·intro z; split at z <;> cases z
  ·intro z; simp at z⟩ hb nd
 refine ⟨ow,O,?_⟩
 unfold SetTable.layClean
 rw [← Array.foldl_toList]
 show Option.map (fun x=>x.fst) (hs.toList.foldl (fun (acc:Option (Array (Option Nat) × Nat)) h=>acc.bind fun x=>(SetTable.layClean.free 31 x.1 (SetTable.turns 31) (SetTable.bits h % (31 + 1)) (SetTable.bits h)).bind fun j=>some (x.1.setIfInBounds j (some x.2),x.2 + 1)) (some (Array.replicate (31 + 1) none,0))) = _
 have e':=e
 rw [List.length_nil] at e'
 rw [e']
 rfl
theorem fm_map (es:Array (Int × Value)):∀ L:List (Nat × Nat),(∀ q ∈ L,∃ e,es[q.2]? = some e ∧ e.1 = (q.1:Int)) → ((L.map (·.2)).filterMap fun k=>es[k]?).map (fun e=>e.1.toNat) = L.map (·.1) ∧ ((L.map (·.2)).filterMap fun k=>es[k]?).length = L.length
 | [],_=>⟨rfl,rfl⟩
 | q :: r,h=>by
  obtain ⟨e,h1,h2⟩:=h q List.mem_cons_self
  obtain ⟨a,b⟩:=fm_map es r fun x hx=>h x (List.mem_cons_of_mem _ hx)
  rw [List.map_cons,List.filterMap_cons_some h1,List.map_cons,a,List.length_cons,b,h2]
  exact ⟨by simp,rfl⟩
theorem sm_relay {t:SetTable} {es:Array (Int × Value)} (T:Sm t es 5) (hm:t.mask = 7) (hz:es.size = 5):Sm (relayAll t es (SetTable.grown es.size)).2.1 (relayAll t es (SetTable.grown es.size)).1 4:=by
 have hl:(es.map (·.1)).toList = es.toList.map (·.1):=by simp
 obtain ⟨ow,O,e⟩:=lay_clean (hs:=es.map (·.1)) (fun h hh=>by
  rw [hl] at hh
  obtain ⟨x,hx,rfl⟩:=List.mem_map.mp hh
  exact T.hs x hx) (by rw [hl]; exact T.hd)
 rw [hl] at O
 have g:SetTable.grown es.size = 20:=by rw [hz]; rfl
 have sa:SetTable.sizeAbove 20 - 1 = 31:=by decide
 generalize hL:((List.range (31 + 1)).filterMap fun j=>(ow.getD j none).map (j,·)) = L
 have memL:∀ q:Nat × Nat,q ∈ L ↔ q.1 < 32 ∧ ow.getD q.1 none = some q.2:=fun q=>by
  rw [← hL,List.mem_filterMap]
  constructor
  ·rintro ⟨j,hj,z⟩
   cases w:ow.getD j none with
   | none=>rw [w] at z; cases z
   | some k=>rw [w] at z; cases z; exact ⟨List.mem_range.mp hj,w⟩
  ·rintro ⟨h1,h2⟩
   exact ⟨q.1,List.mem_range.mpr h1,by rw [h2]; rfl⟩
 have at1:∀ q ∈ L,∃ x,es[q.2]? = some x ∧ x.1 = (q.1:Int):=fun q hq=>by
  have:=(O.at' q.1 q.2).mp ((memL q).mp hq).2
  rw [List.getElem?_map,Array.getElem?_toList] at this
  cases w:es[q.2]? with
  | none=>rw [w] at this; cases this
  | some x=>rw [w] at this; exact ⟨x,rfl,Option.some.inj this⟩
 have risL:(L.map (·.1)).Pairwise (· < ·):=by rw [← hL]; exact ris_live _ _
 obtain ⟨m1,m2⟩:=fm_map es L at1
 have ndo:(L.map (·.2)).Nodup:=by
  have:=List.pairwise_map.mp risL
  refine List.pairwise_map.mpr (List.Pairwise.imp_of_mem (fun {a b} ha hb hab e=>?_) this)
  obtain ⟨x,x1,x2⟩:=at1 a ha
  obtain ⟨y,y1,y2⟩:=at1 b hb
  rw [e] at x1
  rw [x1] at y1; cases y1
  omega
 have perm:(L.map (·.2)).Perm (List.range es.size):=(List.perm_ext_iff_of_nodup ndo List.nodup_range).mpr fun k=>by
  rw [List.mem_range]
  constructor
  ·intro h
   obtain ⟨q,hq,rfl⟩:=List.mem_map.mp h
   obtain ⟨x,x1,_⟩:=at1 q hq
   exact (Array.getElem?_eq_some_iff.mp x1).1
  ·intro h
   have hx:=T.hs es[k] (by simp)
   refine List.mem_map.mpr ⟨(es[k].1.toNat,k),(memL _).mpr ⟨by show es[k].1.toNat < 32; omega,(O.at' _ _).mpr ?_⟩,rfl⟩
   rw [List.getElem?_map,Array.getElem?_toList,Array.getElem?_eq_getElem h,Int.toNat_of_nonneg hx.1]; rfl
 have cov:coversAll (L.map (·.2)).toArray es.size = true:=by unfold coversAll; exact List.isPerm_iff.mpr perm
 have lenL:L.length = es.size:=by have:=perm.length_eq; simpa using this
 have er:t.relaid (es.map (·.1)) 20 = some ({ mask:=31,place:=(L.map (·.1)).toArray,dummies:=#[],finger:=t.finger,led:=t.led,moves:=t.movedTo 31,plain:=t.plain },(L.map (·.2)).toArray):=by
  unfold SetTable.relaid SetTable.laid
  rw [sa,e]
  show some _ = _
  rw [← hL]
 have es':((L.map (·.2)).toArray.filterMap fun k=>es[k]?) = ((L.map (·.2)).filterMap fun k=>es[k]?).toArray:=by simp
 have fit:({ mask:=31,place:=(L.map (·.1)).toArray,dummies:=#[],finger:=t.finger,led:=t.led,moves:=t.movedTo 31,plain:=t.plain }:SetTable).fits ((L.map (·.2)).toArray.filterMap fun k=>es[k]?).size = true:=by
  unfold SetTable.fits SetTable.fill
  rw [es']
  simp only [List.size_toArray,m2,List.length_map,lenL,hz]
  decide
 have el:relayAll t es (SetTable.grown es.size) = ((L.map (·.2)).toArray.filterMap (fun k=>es[k]?),{ mask:=31,place:=(L.map (·.1)).toArray,dummies:=#[],finger:=t.finger,led:=t.led,moves:=t.movedTo 31,plain:=t.plain },false):=by
  unfold relayAll
  rw [g,er]
  show (if (coversAll (L.map (·.2)).toArray es.size && _) = true then _ else _) = _
  rw [cov,fit]
  rfl
 rw [el]
 have inE:∀ x ∈ (L.map (·.2)).filterMap (fun k=>es[k]?),x ∈ es.toList:=fun x hx=>by
  obtain ⟨k,_,q⟩:=List.mem_filterMap.mp hx
  rw [← Array.getElem?_toList] at q
  exact List.mem_of_getElem? q
 refine ⟨T.pl,rfl,by unfold Ris; exact risL,?_,fun x hx=>?_,?_,.inr ⟨rfl,?_⟩⟩
 ·show (L.map (·.1)).toArray.size = _
  rw [es',List.size_toArray,List.size_toArray,List.length_map,m2]
 ·rw [es'] at hx; exact T.hs x (inE x hx)
 ·have nd:((((L.map (·.2)).filterMap fun k=>es[k]?).map fun e=>e.1.toNat)).Nodup:=by rw [m1]; exact risL.imp fun {a b} h=>Nat.ne_of_lt h
  rw [es']
  refine List.pairwise_map.mpr ((List.pairwise_map.mp nd).imp fun {a b} h z=>h (by rw [z]))
 ·rw [es']; exact m1.symm
end L2
set_option Elab.async false
set_option linter.all false
set_option maxRecDepth 100000
set_option maxHeartbeats 4000000
namespace L2
open PySem PySem.Spec PyProof.Rows
theorem hash_small {k:Int} (h0:0 ≤ k) (h1:k < 10):hashInt k = k:=by
 rcases (show k = 0 ∨ k = 1 ∨ k = 2 ∨ k = 3 ∨ k = 4 ∨ k = 5 ∨ k = 6 ∨ k = 7 ∨ k = 8 ∨ k = 9 by omega) with h | h | h | h | h | h | h | h | h | h <;> subst h <;> decide +kernel
noncomputable def insK (ks:List Int) (k:Int):List Int:=if k ∈ ks then ks else ks ++ [k]
structure SetS (h:Heap) (a:Addr) (o:Obj) (es:Array (Int × Value)) (ep:Nat) (t:SetTable) (ks:List Int) (led:Bool):Prop where
 g:h.get? a = some o
 x:o.ExactSet
 d:o.data = .set es ep t
 ks:(es.toList.map (·.1)).Perm ks
 vs:∀ e ∈ es.toList,∃ tk,e.2 = Value.int e.1 tk
 f:t.fits es.size = true
 l:t.led = led
 s:Sm t es 4
section
variable {prog:Program} {w:World} {A:Around} {E:Value → Shared → Prop} {s:Shared} {a:Addr} {o:Obj} {es:Array (Int × Value)} {ep:Nat} {t:SetTable} {ks:List Int} {led:Bool}
theorem SetS.keep {h h':Heap} (x:SetS h a o es ep t ks led) (k:h.get? a = some o → h'.get? a = some o):SetS h' a o es ep t ks led:=⟨k x.g,x.x,x.d,x.ks,x.vs,x.f,x.l,x.s⟩
theorem Sm.few {t:SetTable} {es:Array (Int × Value)} {f:Nat} (T:Sm t es f):es.size ≤ 10:=by
 have h1:((es.toList.map (·.1)).map Int.toNat).Nodup:=by
  refine List.pairwise_map.mpr (List.Pairwise.imp_of_mem (fun {a b} ha hb hab e=>?_) T.hd)
  obtain ⟨x,hx,rfl⟩:=List.mem_map.mp ha
  obtain ⟨y,hy,rfl⟩:=List.mem_map.mp hb
  have:=T.hs x hx
  have:=T.hs y hy
  exact hab (by omega)
 have:=nd_le h1 (m:=List.range 10) fun x hx=>by
  obtain ⟨y,hy,rfl⟩:=List.mem_map.mp hx
  obtain ⟨z,hz,rfl⟩:=List.mem_map.mp hy
  have:=T.hs z hz
  exact List.mem_range.mpr (by omega)
 simpa using this
theorem SetS.els {h:Heap} (x:SetS h a o es ep t ks led):ElemsOf (intKind prog w) es.toList:=fun e he=>by
 obtain ⟨tk,q⟩:=x.vs e he
 have:=x.s.hs e he
 exact ⟨⟨e.1,by rw [q]; exact intKind_is _ _ _ _,(hash_small this.1 this.2).symm⟩,by rw [q]; rfl⟩
theorem is_int {k n:Int} {tk:Tok} (h:(intKind prog w).is k (Value.int n tk) = true):n = k:=(intKind prog w).inj _ _ _ (intKind_is prog w n tk) h
theorem SetS.of_store {h:Heap} (ho:h.get? a = some o) (hex:o.ExactSet) (hd:o.data = .set es ep t) {es':Array (Int × Value)} {t':SetTable} {ks':List Int} (h1:(es'.toList.map (·.1)).Perm ks') (h2:∀ e ∈ es'.toList,∃ tk,e.2 = Value.int e.1 tk) (h3:t'.fits es'.size = true) (h4:t'.led = led) (h5:Sm t' es' 4) :
  SetS (h.update a (Obj.putSet es' t')) a { o with data:=.set es' (ep + 1) t' } es' (ep + 1) t' ks' led:=by
 have hg:(h.update a (Obj.putSet es' t')).get? a = some { o with data:=.set es' (ep + 1) t' }:=by
  have:=Heap.get?_update_self (Obj.putSet es' t') ho (by rw [putSet_of es' t' hd]; rfl)
  rw [putSet_of es' t' hd] at this; exact this
 exact ⟨hg,hex,rfl,h1,h2,h3,h4,h5⟩
theorem addS {k:Int} {tk:Tok} {Q:Bool → Shared → Prop} (hS:SetS s.heap a o es ep t ks led) (k0:0 ≤ k) (k1:k < 10)
  (h:∀ h' o' es' ep' t',Heap.SameBut a s.heap h' → SetS h' a o' es' ep' t' (insK ks k) led → ∀ b,Q b { s with heap:=h' }) :
  wpAny (model prog w) A (setAddHashed a (.int k tk) ((intKind prog w).hash k)) Q E s:=by
 have hel:=hS.els (prog:=prog) (w:=w)
 have few:=hS.s.few
 unfold setAddHashed setAddHashedIn
 refine wpAny_holding (wpAny_bind (wpAny_setState_of hS.g hS.d hS.f ?_))
 dsimp only
 rw [byScan_of (knd:=intKind prog w) (show (Value.int k tk).scannable = true from rfl) (by unfold scanBound; omega) hel,if_pos rfl]
 unfold setAddByScan
 refine wpAny_bind (wpAny_bind (wpAny_rule (wpAny_bind (wpAny_setScan_of (intKind_is prog w k tk) hS.g hS.d hS.f hel ?_))))
 cases hr:List.findIdx? (fun e=>(intKind prog w).is k e.2) es.toList with
 | some j =>
  obtain ⟨hj,hpj,_⟩:=List.findIdx?_eq_some_iff_getElem.mp hr
  have hin:k ∈ ks:=by
   obtain ⟨tk',q⟩:=hS.vs _ (List.getElem_mem hj)
   rw [q] at hpj
   exact hS.ks.mem_iff.mp (List.mem_map.mpr ⟨_,List.getElem_mem hj,is_int hpj⟩)
  refine wpAny_pure (wpAny_pure ?_)
  have:=h s.heap o es ep t (Heap.SameBut.refl a s.heap) (by unfold insK; rw [if_pos hin]; exact hS) false
  exact this
 | none =>
  have hne:∀ e ∈ es.toList,e.1 ≠ k:=fun e he q=>by
   have:=List.findIdx?_eq_none_iff.mp hr e he
   obtain ⟨tk',q'⟩:=hS.vs e he
   rw [q',q,intKind_is] at this
   cases this
  have hout:k ∉ ks:=fun z=>by
   obtain ⟨e,he,q⟩:=List.mem_map.mp (hS.ks.mem_iff.mpr z)
   exact hne e he q
  have eik:insK ks k = ks ++ [k]:=by unfold insK; rw [if_neg hout]
  rw [eik] at h
  have gw:∀ (b:Bool) (s₁:Shared) (Q':Unit → Shared → Prop),Q' () s₁ → wpAny (model prog w) A (match b with | true=>rule "set.scan.the-table-gave-way" | false=>pure ()) Q' E s₁:=fun b s₁ Q' hq=>by cases b <;> first | exact wpAny_pure hq | exact wpAny_rule hq
  dsimp only
  have hk:(intKind prog w).hash k = k:=hash_small k0 k1
  rw [hk]
  have hperm:=layNew_perm t es k (.int k tk)
  have hfits:=layNew_fits t es k (.int k tk)
  have hled:=(tab_new ⟨hS.s.ris,hS.s.nd,hS.l⟩ es k (.int k tk)).led
  obtain ⟨T1,hw,hz1⟩:=sm_new hS.s (.int k tk) k0 k1 hne
  generalize layNew t es k (.int k tk) = L at hperm hfits hled T1 hw hz1 ⊢
  obtain ⟨es1,t1,wasDummy,gave⟩:=L
  dsimp only at hperm hfits hled T1 hw hz1 ⊢
  subst hw
  rw [Array.toList_push] at hperm
  have pk:(es1.toList.map (·.1)).Perm (ks ++ [k]):=(hperm.map (·.1)).trans (by rw [List.map_append]; exact hS.ks.append_right _)
  have v1:∀ e ∈ es1.toList,∃ tk,e.2 = Value.int e.1 tk:=fun e he=>by
   rcases List.mem_append.mp (hperm.mem_iff.mp he) with z | z
   ·exact hS.vs e z
   ·rw [List.mem_singleton.mp z]; exact ⟨tk,rfl⟩
  refine wpAny_bind (gw _ _ _ ?_)
  rw [if_pos T1.pl]
  refine wpAny_bind ?_
  rw [hashByValue_scannable 8 (show (Value.int k tk).scannable = true from rfl)]
  refine wpAny_pure ?_
  rw [if_pos (show plainKind (.int k tk) = true from rfl)]
  have fw:=T1.few
  refine wpAny_bind (wpAny_storeSet_of hS.g hS.d ?_ (by rw [sizeLine_eq]; omega))
  have sb1:=Heap.SameBut.update s.heap a (Obj.putSet es1 t1)
  have hg1:(s.heap.update a (Obj.putSet es1 t1)).get? a = some { o with data:=.set es1 (ep + 1) t1 }:=by
   have:=Heap.get?_update_self (Obj.putSet es1 t1) hS.g (by rw [putSet_of es1 t1 hS.d]; rfl)
   rw [putSet_of es1 t1 hS.d] at this; exact this
  by_cases hf:t1.tooFull = true
  ·rw [if_pos (by rw [hf]; rfl)]
   have m5:t1.mask = 7 ∧ es1.size = 5:=by
    unfold SetTable.tooFull SetTable.fill at hf
    rw [T1.nd,T1.sz] at hf
    simp at hf
    rcases T1.ms with ⟨a,b⟩ | ⟨a,b⟩
    ·rw [a] at hf; exact ⟨a,by omega⟩
    ·rw [a] at hf; omega
   have T3:=sm_relay T1 m5.1 m5.2
   have hp:=relayAll_perm t1 es1 (SetTable.grown es1.size)
   have hfr:=relayAll_fits t1 es1 (SetTable.grown es1.size)
   have hl3:=(tab_relay ⟨T1.ris,T1.nd,hled⟩ es1 (SetTable.grown es1.size)).led
   generalize relayAll t1 es1 (SetTable.grown es1.size) = Rl at T3 hp hfr hl3 ⊢
   obtain ⟨es2,t3,gave2⟩:=Rl
   dsimp only at T3 hp hfr hl3 ⊢
   have f3:=T3.few
   refine wpAny_bind (gw _ _ _ (wpAny_bind (wpAny_storeSet_of hg1 rfl ?_ (by rw [sizeLine_eq]; omega))))
   refine wpAny_pure (wpAny_pure (h _ _ _ _ _ (sb1.trans (Heap.SameBut.update _ a _)) (SetS.of_store hg1 hS.x rfl ((hp.map (·.1)).trans pk) (fun e he=>v1 e (hp.mem_iff.mp he)) hfr hl3 T3) _))
  ·rw [if_neg (by rw [Bool.not_eq_true] at hf; rw [hf]; decide)]
   have T4:Sm t1 es1 4:=⟨T1.pl,T1.nd,T1.ris,T1.sz,T1.hs,T1.hd,by
    rcases T1.ms with ⟨a,b⟩ | q
    ·refine .inl ⟨a,?_⟩
     unfold SetTable.tooFull SetTable.fill at hf
     rw [T1.nd,T1.sz,a] at hf
     simp at hf
     omega
    ·exact .inr q⟩
   exact wpAny_pure (wpAny_pure (h _ _ _ _ _ sb1 (SetS.of_store hS.g hS.x hS.d pk v1 hfits hled T4) _))
end
end L2
set_option Elab.async false
set_option linter.all false
set_option maxRecDepth 100000
set_option maxHeartbeats 4000000
namespace L2
open PySem PySem.Spec PyProof.Rows
noncomputable def kf (val:Nat → Int) (i:Nat):List Int:=((List.range i).map val).foldl insK []
theorem kf_succ (val:Nat → Int) (i:Nat):kf val (i + 1) = insK (kf val i) (val i):=by unfold kf; rw [List.range_succ,List.map_append,List.foldl_append]; rfl
theorem kf_all {ns:List Int} {m:Nat} (h:ns.length = m):kf (fun i=>ns.getD i 0) m = ns.foldl insK []:=by
 unfold kf
 have:(List.range m).map (fun i=>ns.getD i 0) = ns:=by
  subst h
  refine List.ext_getElem (by simp) fun i h1 h2=>?_
  simp at h1
  simp [h1]
 rw [this]
theorem setS_new {h:Heap} {led:Bool}:SetS (h.push (set0 led)) h.objs.size (set0 led) #[] 0 (.fresh 0 0 led) [] led :=
 ⟨Heap.get?_push_size _ rfl,⟨rfl,rfl,rfl⟩,rfl,.nil,fun e he=>by simp at he,by rfl,rfl,⟨rfl,rfl,.nil,rfl,fun e he=>by simp at he,.nil,.inl ⟨rfl,by decide⟩⟩⟩
section
variable {prog:Program} {w:World} {A:Around} {E:Value → Shared → Prop} {s:Shared} {R:Result → Shared → Prop} {I:Addr} {fp wr:List Addr} {G:Array GenState → Array GenState → Prop} {n:Nat} {P:Nat → Value → Prop} {St:Nat → Shared → Prop}
theorem loopS (W:WalksS prog w A.in1 I fp wr G n P St) (S:Addr) (hSf:S ∉ fp) (val:Nat → Int) (hval:∀ i v,P i v → ∃ t,v = .int (val i) t) (hb:∀ i,i < n → 0 ≤ val i ∧ val i < 10) (led:Bool) :
  ∀ (k i:Nat) (s:Shared),n - i = k → i ≤ n → St i s → (∃ o es ep t,SetS s.heap S o es ep t (kf val i) led) →
   (∀ s',Moved (S :: wr) G s s' → (∃ o es ep t,SetS s'.heap S o es ep t (kf val n) led) → R (.ok (.ret .none)) s') →
   codeAny (model prog w) A (.builtin "set.update.loop" ⟨[.ref S,.ref I],[]⟩) R s:=by
 have hSw:S ∉ wr:=fun h=>hSf (W.sub _ h)
 have hsub:∀ b ∈ wr,b ∈ S :: wr:=fun b hb=>List.mem_cons_of_mem _ hb
 intro k
 induction k with
 | zero =>
  intro i s hk hi hst ⟨o,es,ep,t,hS⟩ hR
  obtain rfl:i = n:=by omega
  refine codeAny_builtin F.entry_set_update_loop ?_
  rw [Around.under_plainId F.plain_set_update_loop _]
  refine wpAny_bind (W.done s _ _ hst fun s' hm=>?_)
  exact wpAny_pure (hR s' (hm.mono hsub) ⟨o,es,ep,t,hS.keep fun e=>hm.heap S _ hSw e⟩)
 | succ k ih =>
  intro i s hk hi hst ⟨o,es,ep,t,hS⟩ hR
  have hlt:i < n:=by omega
  refine codeAny_builtin F.entry_set_update_loop ?_
  rw [Around.under_plainId F.plain_set_update_loop _]
  refine wpAny_bind (W.item i s _ _ hlt hst fun v s' hP hst' hm=>?_)
  obtain ⟨t',rfl⟩:=hval i v hP
  have hS':=hS.keep fun e=>hm.heap S _ hSw e
  show wpAny _ A.in1 (holding [Value.int (val i) t'] (setAdd S (.int (val i) t')) >>= _) _ _ s'
  refine wpAny_bind (wpAny_holding ?_)
  unfold setAdd
  refine wpAny_holding (wpAny_bind ((intKind prog w).pyHash (k:=val i) (intKind_is _ _ _ _) ?_))
  refine addS (s:={ s' with toks:=s'.toks + 1 }) hS' (hb i hlt).1 (hb i hlt).2 fun h' o' es' ep' t2 hsb hS2 b=>?_
  rw [← kf_succ] at hS2
  refine wpAny_pure ⟨plainId_quiet F.plain_set_update_loop _,ih (i + 1) _ (by omega) hlt (W.frame _ s' _ _ hst' (Nat.le_succ _) fun b hb o e=>?_) ⟨o',es',ep',t2,hS2⟩ fun s'' hm'' hS''=>?_⟩
  ·rw [hsb.2 b (fun h:b = S=>hSf (h ▸ hb))]; exact e
  ·refine hR s'' (Moved.trans W.gtrans ((hm.mono hsub).then_heap (Nat.le_succ _) fun b o hb e=>?_) hm'') hS''
   rw [hsb.2 b (fun h:b = S=>hb (h ▸ List.mem_cons_self))]; exact e
theorem call_setS {l:Addr} {items:Array Value} {ns:List Int} {Q:Value → Shared → Prop} (hh:A.handled = none) (hl:s.heap.IsList l items) (hi:IntsAre items.toList ns) (hb:∀ n ∈ ns,0 ≤ n ∧ n < 10)
  (h:∀ (h':Heap) (tk:Nat) (o:Obj) (es:Array (Int × Value)) (ep:Nat) (t:SetTable),SetS h' s.heap.objs.size o es ep t (ns.foldl insK []) (!byT w) →
   (∀ b o,b < s.heap.objs.size → s.heap.get? b = some o → h'.get? b = some o) → Q (.ref s.heap.objs.size) { s with heap:=h',toks:=tk }) :
  wpAny (model prog w) A (call (.type "set") [.ref l]) Q E s:=by
 obtain ⟨c,tl,hmro⟩:=PySem.F.called_set.mro
 have hmade:=PySem.F.called_set.made
 have hsub:=PySem.F.called_set.sub
 have h1:=PySem.F.called_set.notType
 have h2:=PySem.F.called_set.canCreate
 have hct:=PySem.F.typeCall_set_1 (.ref l)
 refine wpAny_call (codeAny_of_tree ?_)
 refine wpAny_pure ⟨Code.quiet_builtin _ (by decide +kernel),codeAny_builtin PySem.F.entry_type_call ?_⟩
 rw [Around.under_plain (weight_type_call_type "set" [.ref l] []) rfl]
 repeat (any_goals (first | assumption | wp_step))
 refine codeAny_mono (set_new (.ref l) (E:=E) (Q₁:=fun obj s₁=>obj = .ref s.heap.objs.size ∧ s₁ = { s with heap:=s.heap.push (set0 (!byT w)) }) ⟨rfl,rfl⟩) fun r s₁ hr=>?_
 cases r with
 | error e=>exact hr
 | ok fl =>
  cases fl with
  | ret obj =>
   obtain ⟨rfl,rfl⟩:=hr
   have hS:(s.heap.push (set0 (!byT w))).get? s.heap.objs.size = some (set0 (!byT w)):=Heap.get?_push_size _ rfl
   have hT:Shared.TypeIs { s with heap:=s.heap.push (set0 (!byT w)) } (.ref s.heap.objs.size) "set":=⟨_,hS,rfl⟩
   have hli:=PySem.F.called_set.init.lookup
   have hbi:=PySem.F.called_set.init.bind (.ref s.heap.objs.size)
   repeat (any_goals (first | assumption | wp_step))
   refine codeAny_mono (codeAny_call_builtin (R:=wants (fun r s₂=>r = .none ∧ ∃ h' tk,s₂ = { s with heap:=h',toks:=tk } ∧
     (∃ o es ep t,SetS h' s.heap.objs.size o es ep t (ns.foldl insK []) (!byT w)) ∧
     (∀ b o,b < s.heap.objs.size → s.heap.get? b = some o → h'.get? b = some o)) E) PySem.F.called_set.init.plain PySem.F.entry_set_init (check_set_init_1 hT ?_)) fun r₂ s₂ hr₂=>?_
   ·obtain ⟨⟨ocls,odict,odata,oslots⟩,hol,hcl,nl,hdl⟩:=hl
    simp only at hcl hdl
    subst hcl; subst hdl
    have hol':(s.heap.push (set0 (!byT w))).get? l = some { cls:=.type "list",dict:=odict,data:=.seq items nl,slots:=oslots }:=Heap.get?_push_of_some _ hol
    have hsls:=PySem.F.sub_list_set
    have hslf:=PySem.F.sub_list_frozenset
    have hne:(Value.type "list" == Value.type "dict") = false:=by decide
    have hl1:(s.heap.push (set0 (!byT w))).IsList l items:=⟨_,hol',rfl,nl,rfl⟩
    unfold Builtin.«set.__init__» noKeywords Builtin.Frozenset.updateFrom
    generalize hPI:pyIter = PI
    wp_walk
    subst hPI
    refine wpAny_pyIter_list hl1 (wpAny_bind (wpAny_runValue ?_))
    have hlS:l < s.heap.objs.size:=Heap.lt_size hol
    have hh3:A.in1.in1.in1.handled = none:=by simp [hh]
    have sp:(s.heap.push (set0 (!byT w))).objs.size = s.heap.objs.size + 1:=Heap.size_push ..
    have hlen:ns.length = items.size:=by have:=hi.length; rw [← this,Array.length_toList]
    refine loopS ((Walks.list hh3 _ l (by rw [sp]; exact Nat.ne_of_lt (Nat.lt_succ_of_lt hlS)) items).toS) s.heap.objs.size (by rw [sp]; simp only [List.mem_cons,List.not_mem_nil,or_false,not_or]; exact ⟨Nat.ne_of_lt (Nat.lt_succ_self _),Nat.ne_of_gt hlS⟩) (fun i=>ns.getD i 0) (fun i v hv=>IntsAre.int_at hi i v (by rw [Array.getElem?_toList]; exact hv)) (fun i hi'=>hb _ (by rw [List.getD_eq_getElem?_getD,List.getElem?_eq_getElem (by omega)]; exact List.getElem_mem _)) (!byT w) (items.size - 0) 0 _ (by omega) (Nat.zero_le _)
     ⟨⟨_,Heap.get?_push_size _ rfl,rfl,rfl⟩,(hl1.push _)⟩ ?hS0 ?hR
    case hS0=>exact ⟨_,_,_,_,setS_new.keep fun e=>Heap.get?_push_of_some _ e⟩
    case hR =>
     intro s' hm hS'
     obtain ⟨h',g',d',tk',os'⟩:=s'
     obtain rfl:g' = s.gens:=hm.gens
     obtain rfl:d' = s.drawn:=hm.drawn
     obtain rfl:os' = s.os:=hm.os
     refine wpAny_pure (wpAny_pure ⟨rfl,h',tk',rfl,by rw [kf_all hlen] at hS'; exact hS',fun b o hb e=>?_⟩)
     exact hm.heap b o (by rw [sp]; simp only [List.mem_cons,List.not_mem_nil,or_false,not_or]; exact ⟨Nat.ne_of_lt hb,Nat.ne_of_lt (Nat.lt_succ_of_lt hb)⟩) (Heap.get?_push_of_some _ (Heap.get?_push_of_some _ e))
   ·cases r₂ with
    | error e=>exact hr₂
    | ok fl₂ =>
     cases fl₂ with
     | ret r =>
      obtain ⟨rfl,h',tk,rfl,⟨o,es,ep,t,hS'⟩,hk'⟩:=hr₂
      repeat (any_goals (first | assumption | wp_step))
      exact h _ _ o es ep t hS' hk'
     | _=>exact hr₂.elim
  | _=>exact hr.elim
end
end L2
set_option Elab.async false
set_option linter.all false
set_option maxRecDepth 100000
set_option maxHeartbeats 4000000
namespace L2
open PySem PySem.Spec PyProof.Rows PySem.W
theorem erase_perm {α:Type}:∀ (l:List α) (i:Nat) (h:i < l.length),(l[i] :: l.eraseIdx i).Perm l
 | x :: r,0,_=>.refl _
 | x :: r,i + 1,h=>by
  have:=erase_perm r i (by simpa using h)
  exact (List.Perm.swap x _ _).trans (this.cons x)
theorem pick_go {α:Type} (nx:Nat → Nat):∀ (f k:Nat) (left:List α) (out:Array α),left.length = f → ∃ L:List α,L.Perm left ∧ (pickOrder.go nx f k left out).toList = out.toList ++ L
 | 0,k,left,out,h=>⟨[],by rw [List.length_eq_zero_iff.mp h],by rw [pickOrder.go]; simp⟩
 | f + 1,k,left,out,h=>by
  have hlt:nx k % left.length < left.length:=Nat.mod_lt _ (by omega)
  have e:left[nx k % left.length]? = some left[nx k % left.length]:=List.getElem?_eq_getElem hlt
  obtain ⟨L,p,q⟩:=pick_go nx f (k + 1) (left.eraseIdx (nx k % left.length)) (out.push left[nx k % left.length]) (by rw [List.length_eraseIdx_of_lt hlt]; omega)
  refine ⟨left[nx k % left.length] :: L,?_,?_⟩
  ·exact (List.Perm.cons _ p).trans (erase_perm left _ hlt)
  ·rw [pickOrder.go,e]
   dsimp only
   rw [q]; simp
theorem pick_perm {α:Type} (nx:Nat → Nat) (xs:Array α):(pickOrder nx xs).toList.Perm xs.toList:=by
 obtain ⟨L,p,q⟩:=pick_go nx xs.size 0 xs.toList #[] (by simp)
 unfold pickOrder
 rw [q]
 simpa using p
theorem entry_set_iter':entryFor table "set.__iter__" = some Builtin.«frozenset.__iter__»:=entryFor_alias (id':="frozenset.__iter__") (by kernel_rfl) rfl (by decide +kernel) (by kernel_rfl)
theorem slot_si:Slot "set_iterator" "__next__" "set_iterator.__next__":=.of (owner:="set_iterator") (n:="__next__") (by rw [typeLookup_type,builtinLookup_eq_fast]; kernel_rfl) (by decide +kernel) (by decide +kernel) (by decide +kernel) (by first | exact .inl (by decide +kernel) | exact .inr (by decide +kernel)) (by rw [isSubtype_type]; kernel_rfl)
theorem entry_si:entryFor table "set_iterator.__next__" = some Builtin.«set_iterator.__next__»:=entryFor_of_tree (by kernel_rfl)
noncomputable abbrev sIt (r:Addr) (f i n ep:Nat):Obj:={ cls:=.type "set_iterator",data:=.fields #[.int f 0,.int i 0,.ref r,.int n 0,.int ep 0] }
noncomputable def wkS (w:World) (r:Addr) (es:Array (Int × Value)) (ep:Nat):Array (Int × Value):=if byT w = true then pickOrder (w.params.setOrder r ep) es else es
noncomputable def ftP (t:SetTable):Nat → Nat
 | 0=>0
 | k + 1=>t.place.getD k 0 + 1
noncomputable def ftS (w:World) (t:SetTable) (i:Nat):Nat:=if byT w = true then 0 else ftP t i
theorem wk_perm (w:World) (r:Addr) (es:Array (Int × Value)) (ep:Nat):(wkS w r es ep).toList.Perm es.toList:=by
 unfold wkS
 split
 ·exact pick_perm _ _
 ·exact .refl _
section
variable {prog:Program} {w:World} {A:Around} {E:Value → Shared → Prop} {s:Shared} {r:Addr} {o:Obj} {es:Array (Int × Value)} {ep:Nat} {t:SetTable} {ks:List Int}
theorem SetS.typeIs (x:SetS s.heap r o es ep t ks (!byT w)):s.TypeIs (.ref r) "set":=⟨o,x.g,x.x.1⟩
theorem iter_set {Q:Value → Shared → Prop} (hS:SetS s.heap r o es ep t ks (!byT w)) (hQ:Q (.ref s.heap.objs.size) { s with heap:=s.heap.push (sIt r 0 0 es.size ep) }):wpAny (model prog w) A (pyIter (.ref r)) Q E s:=by
 have hT:=hS.typeIs
 refine wpAny_pyIter_slot hT PySem.F.slot_set_iter (wpAny_call_entry PySem.F.slot_set_iter hT entry_set_iter' ?_ (PySem.F.args_set_iter_1 _))
 unfold Builtin.«frozenset.__iter__»
 have e1:=hS.g
 have e2:=hS.d
 have e3:=hS.f
 refine wpAny_bind ?_
 obtain ⟨hp,g,dr,tk,os⟩:=s
 repeat (any_goals (first | assumption | with_reducible refine wpAny_setState_of e1 e2 e3 ?_ | wp_step))
 refine wpAny_askSetting (wpAny_pure (wpAny_pure ?_))
 refine wpAny_ite_split (fun hc=>?_) (fun _=>?_)
 ·exfalso
  have hc:(!byT w && (!t.plain && decide (es.size > 1))) = true:=hc
  rw [hS.s.pl] at hc
  simp at hc
 refine wpAny_bind (wpAny_pure ?_)
 refine wpAny_bind (wpAny_setEpoch_of e1 e2 e3 ?_)
 refine wpAny_bind (wpAny_newObj_type (wpAny_pure ⟨_,rfl,"set_iterator",_,⟨_,Heap.get?_push_size _ rfl,rfl⟩,slot_si.lookup,?_⟩))
 exact hQ
theorem owner_si:Manifest.owners.lookup (String.ofList ['r','o','t','a','r','e','t','i','_','t','e','s'].reverse) = some Manifest.sig_set_iterator:=by kernel_rfl
theorem slot_sii:Slot "set_iterator" "__iter__" "set_iterator.__iter__":=.of (owner:="set_iterator") (n:="__iter__") (by rw [typeLookup_type,builtinLookup_eq_fast]; kernel_rfl) (by decide +kernel) (by decide +kernel) (by decide +kernel) (by first | exact .inl (by decide +kernel) | exact .inr (by decide +kernel)) (by rw [isSubtype_type]; kernel_rfl)
theorem entry_sii:entryFor table "set_iterator.__iter__" = some Builtin.«dict_keyiterator.__iter__»:=entryFor_alias (id':="dict_keyiterator.__iter__") (by kernel_rfl) rfl (by decide +kernel) (by kernel_rfl)
theorem args_sii (a:Value):argsOk "set_iterator.__iter__" ⟨[a],[]⟩:=by
 unfold argsOk; rw [signature?_of (id:="set_iterator.__iter__") (n:=['_','_','r','e','t','i','_','_']) (o:=['r','o','t','a','r','e','t','i','_','t','e','s']) (by kernel_rfl) owner_si]; kernel_rfl
theorem args_si (a:Value):argsOk "set_iterator.__next__" ⟨[a],[]⟩:=by
 unfold argsOk; rw [signature?_of (id:="set_iterator.__next__") (n:=['_','_','t','x','e','n','_','_']) (o:=['r','o','t','a','r','e','t','i','_','t','e','s']) (by kernel_rfl) owner_si]; kernel_rfl
theorem below_next {t:SetTable} (h:Ris t.place) {i:Nat} (hi:i ≤ t.place.size):SetTable.below t.place (ftP t i) = i:=by
 generalize hj:ftP t i = j
 have b:=below_ok h j
 have g:∀ k,k < t.place.size → t.place[k]? = some (t.place.getD k 0):=fun k hk=>by rw [Array.getD_eq_getD_getElem?,Array.getElem?_eq_getElem hk]; rfl
 rcases Nat.lt_trichotomy (SetTable.below t.place j) i with z | z | z
 ·obtain ⟨k,rfl⟩:∃ k,i = k + 1:=⟨i - 1,by omega⟩
  have:=b.hi k _ (by omega) (g k (by omega))
  have hj:t.place.getD k 0 + 1 = j:=hj
  omega
 ·exact z
 ·have:=b.le
  have h1:=b.lo i _ z (g i (by omega))
  cases i with
  | zero=>have hj:0 = j:=hj; omega
  | succ k =>
   have hj:t.place.getD k 0 + 1 = j:=hj
   have:=h.lt (Nat.lt_succ_self k) (g k (by omega)) (g (k + 1) (by omega))
   omega
theorem setNext_ok {i a b c:Nat} {Q:Option (Value × Nat) → Shared → Prop} (hS:SetS s.heap r o es ep t ks (!byT w)) (ha:a = ftS w t i) (hb:b = i) (hc:c = ep) (hi:i ≤ es.size) (h:Q (((wkS w r es ep)[i]?).map fun x=>(x.2,ftS w t (i + 1))) s):wpAny (model prog w) A (setNext r a b c) Q E s:=by
 subst ha hb hc
 have e1:=hS.g
 have e2:=hS.d
 have e3:=hS.f
 unfold setNext setsByText
 refine wpAny_bind (wpAny_setState_of e1 e2 e3 (wpAny_bind (wpAny_bind (wpAny_askSetting (wpAny_pure ?_)))))
 dsimp only
 by_cases hbt:byT w = true
 ·rw [if_pos (show (model prog w).w.params.followText "set-order" = true from hbt),if_neg (by simp)]
  unfold setWalk setsByText
  refine wpAny_bind (wpAny_bind (wpAny_setState_of e1 e2 e3 (wpAny_bind (wpAny_bind (wpAny_askSetting (wpAny_pure ?_))))))
  dsimp only
  rw [if_pos (show (model prog w).w.params.followText "set-order" = true from hbt)]
  refine wpAny_bind (wpAny_askSetting (wpAny_pure (wpAny_pure ?_)))
  unfold ftS wkS at h
  simp only [hbt,if_true] at h
  unfold ftS
  simp only [hbt,if_true]
  exact h
 ·rw [if_neg (show ¬ (model prog w).w.params.followText "set-order" = true from hbt)]
  have hbf:byT w = false:=by simpa using hbt
  refine wpAny_ite_split (fun hc=>?_) (fun _=>?_)
  ·exfalso
   have hc:(!t.plain && decide (es.size > 1)) = true:=hc
   rw [hS.s.pl] at hc
   simp at hc
  refine wpAny_bind ?_
  show wpAny _ _ (if (!t.led && !es.isEmpty) = true then _ else pure ()) _ _ _
  rw [if_neg (by rw [hS.l,hbf]; simp)]
  refine wpAny_pure (wpAny_pure ?_)
  unfold ftS wkS at h
  simp only [hbf,Bool.false_eq_true,if_false] at h
  have hbn:SetTable.below t.place (ftS w t b) = b:=by unfold ftS; rw [if_neg hbt]; exact below_next hS.s.ris (by rw [hS.s.sz]; exact hi)
  rw [hbn]
  rcases Nat.lt_or_eq_of_le hi with z | z
  ·have p1:t.place[b]? = some (t.place.getD b 0):=by rw [Array.getD_eq_getD_getElem?,Array.getElem?_eq_getElem (by rw [hS.s.sz]; exact z)]; rfl
   rw [Array.getElem?_eq_getElem z] at h ⊢
   rw [p1]
   exact h
  ·have p0:es[b]? = none:=Array.getElem?_eq_none (by omega)
   rw [p0] at h ⊢
   exact h
theorem next_set {i:Nat} {it:Addr} {Q:Option Value → Shared → Prop} (hit:s.heap.get? it = some (sIt r (ftS w t i) i es.size ep)) (hne:r ≠ it) (hS:SetS s.heap r o es ep t ks (!byT w)) (hi:i < es.size)
  (hQ:∀ h' x,(wkS w r es ep)[i]? = some x → h'.get? it = some (sIt r (ftS w t (i + 1)) (i + 1) es.size ep) → Heap.SameBut it s.heap h' → Q (some x.2) { s with heap:=h' }):wpAny (model prog w) A (pyNext (.ref it)) Q E s:=by
 have hT:s.TypeIs (.ref it) "set_iterator":=⟨_,hit,rfl⟩
 have e1:=hS.g
 have e2:=hS.d
 have e3:=hS.f
 have wl:i < (wkS w r es ep).size:=by have:=(wk_perm w r es ep).length_eq; simp at this; omega
 unfold pyNext
 refine wpAny_bind (wpAny_attempt (wpAny_callSpecial?_slot (name:=Str.ofString "__next__") hT slot_si (wpAny_call_entry slot_si hT entry_si ?_ (args_si _))))
 obtain ⟨hp,g,dr,tk,os⟩:=s
 unfold Builtin.«set_iterator.__next__»
 repeat (any_goals (first | assumption | with_reducible refine setNext_ok (i:=i) hS (Int.toNat_natCast _) (Int.toNat_natCast _) (Int.toNat_natCast _) (Nat.le_of_lt hi) ?_ | with_reducible refine wpAny_setState_of e1 e2 e3 ?_ | wp_step))
 rw [Array.getElem?_eq_getElem wl]
 repeat (any_goals (first | assumption | wp_step))
 refine ⟨_,rfl,wpAny_pure (hQ _ _ (Array.getElem?_eq_getElem wl) ?_ ((Heap.SameBut.update ..).trans (Heap.SameBut.update ..)))⟩
 exact (Heap.get?_update_self _ (Heap.get?_update_self _ hit rfl) rfl).trans (by kernel_rfl)
theorem end_set {it:Addr} {Q:Option Value → Shared → Prop} (hh:A.handled = none) (hit:s.heap.get? it = some (sIt r (ftS w t es.size) es.size es.size ep)) (hS:SetS s.heap r o es ep t ks (!byT w))
  (hQ:∀ h',Heap.ExtBut it s.heap h' → Q none { s with heap:=h' }):wpAny (model prog w) A (pyNext (.ref it)) Q E s:=by
 have hT:s.TypeIs (.ref it) "set_iterator":=⟨_,hit,rfl⟩
 have e1:=hS.g
 have e2:=hS.d
 have e3:=hS.f
 have wl:(wkS w r es ep).size = es.size:=by have:=(wk_perm w r es ep).length_eq; simpa using this
 unfold pyNext
 refine wpAny_bind (wpAny_attempt (wpAny_callSpecial?_slot (name:=Str.ofString "__next__") hT slot_si (wpAny_call_entry slot_si hT entry_si ?_ (args_si _))))
 obtain ⟨hp,g,dr,tk,os⟩:=s
 unfold Builtin.«set_iterator.__next__»
 repeat (any_goals (first | assumption | with_reducible refine setNext_ok (i:=es.size) hS (Int.toNat_natCast _) (Int.toNat_natCast _) (Int.toNat_natCast _) (Nat.le_refl _) ?_ | with_reducible refine wpAny_setState_of e1 e2 e3 ?_ | wp_step))
 rw [Array.getElem?_eq_none (by omega)]
 repeat (any_goals (first | assumption | wp_step))
 unfold raiseNew
 refine wpAny_bind (wpAny_handled ?_)
 rw [show A.in1.handled = none from hh]
 refine wpAny_bind (wpAny_pure (wpAny_throw ?_))
 refine wpAny_bind (wpAny_isInstance (T:="StopIteration") (b:=true) ⟨_,Heap.get?_push_size _ rfl,rfl⟩ isSubtype_stop (wpAny_pure ?_))
 exact hQ _ (((Heap.SameBut.update ..).extBut.push _).push _)
theorem self_set {it:Addr} {f i n:Nat} {Q:Value → Shared → Prop} (hit:s.heap.get? it = some (sIt r f i n ep)) (h:Q (.ref it) s):wpAny (model prog w) A (pyIter (.ref it)) Q E s:=by
 have hT:s.TypeIs (.ref it) "set_iterator":=⟨_,hit,rfl⟩
 refine wpAny_pyIter_slot hT slot_sii (wpAny_call_entry slot_sii hT entry_sii ?_ (args_sii _))
 show wpAny _ _ (ret (.ref it)) _ _ s
 exact wpAny_pure ⟨_,rfl,"set_iterator",_,hT,slot_si.lookup,h⟩
theorem hint_set {Q:Bool → Shared → Prop} (hT:s.TypeIs (.ref r) "set") (h:Q false s):wpAny (model prog w) A (Builtin.List.listLengthHint (.ref r)) Q E s:=by
 unfold Builtin.List.listLengthHint
 refine wpAny_bind (wpAny_specialOf hT PySem.F.slot_set_len.lookup ?_)
 generalize hid:("set.__len__":String) = id0
 wp_delta
 rw [show splitId id0 = some ("set","__len__") from by subst hid; decide +kernel]
 subst hid
 refine wpAny_bind (wpAny_isInstance (T:="set") (b:=true) hT (by rw [isSubtype_type]; kernel_rfl) ?_)
 refine wpAny_ite_split (fun hab=>absurd hab (by decide)) (fun _=>?_)
 refine wpAny_ite_split (fun _=>?_) (fun hab=>absurd (by decide +kernel) hab)
 exact wpAny_bind (wpAny_typeOf hT (wpAny_pure h))
theorem src_set:KdlSrc prog w "set" r r es.size (fun i v=>∃ x,(wkS w r es ep)[i]? = some x ∧ v = x.2) (fun h=>SetS h r o es ep t ks (!byT w)) where
 type:=fun _ hm=>⟨o,hm.g,hm.x.1⟩
 there:=fun _ hm=>⟨Heap.lt_size hm.g,Heap.lt_size hm.g⟩
 keep:=fun _ _ hm hk=>hm.keep fun e=>hk r (.inl rfl) o e
 notList:=by decide
 notTuple:=by decide
 hint:=fun _ _ _ _ hm hq=>hint_set ⟨o,hm.g,hm.x.1⟩ hq
 iter:=fun A s hh hm=>⟨sIt r 0 0 es.size ep,fun i h=>h.get? s.heap.objs.size = some (sIt r (ftS w t i) i es.size ep) ∧ SetS h r o es ep t ks (!byT w),(fun _ _ hq=>iter_set hm hq),{
   sub:=fun b hb=>List.mem_cons.mpr (.inl (List.mem_singleton.mp hb))
   frame:=fun i h h' st k=>⟨k _ List.mem_cons_self _ st.1,st.2.keep fun e=>k r (List.mem_cons_of_mem _ List.mem_cons_self) o e⟩
   item:=fun i s' Q E hi st hQ=>next_set st.1 (Nat.ne_of_lt (Heap.lt_size hm.g)) st.2 hi fun h' x hx e1 e2=>hQ _ h' s'.toks ⟨x,hx,rfl⟩ ⟨e1,st.2.keep fun e=>(e2.2 r (Nat.ne_of_lt (Heap.lt_size hm.g))).trans e⟩ fun b o' hb e=>(e2.2 b (fun z=>hb (List.mem_singleton.mpr z))).trans e
   done:=fun s' Q E st hQ=>end_set hh st.1 st.2 fun h' e=>hQ h' s'.toks fun b o' hb e'=>e b o' (fun z=>hb (List.mem_singleton.mpr z)) e'
   self:=fun i s' Q E st hQ=>self_set st.1 hQ },
  ⟨(Heap.get?_push_size _ rfl).trans (by unfold ftS; split <;> rfl),hm.keep fun e=>Heap.get?_push_of_some _ e⟩⟩
end
end L2
set_option Elab.async false
set_option linter.all false
set_option maxRecDepth 100000
set_option maxHeartbeats 4000000
namespace L2
open PySem PySem.Spec PyProof.Rows PySem.W
noncomputable def setI (ns:List Int):List Int:=([0,1,2,3,4,5,6,7,8,9]:List Int).filter fun k=>decide (k ∈ ns)
theorem ins_mem (x:Int):∀ (ns ks:List Int),x ∈ ns.foldl insK ks ↔ x ∈ ks ∨ x ∈ ns
 | [],ks=>by simp
 | n :: r,ks=>by
  rw [List.foldl_cons,ins_mem x r]
  unfold insK
  split
  ·rename_i h
   simp only [List.mem_cons]
   constructor
   ·rintro (q | q)
    ·exact .inl q
    ·exact .inr (.inr q)
   ·rintro (q | rfl | q)
    ·exact .inl q
    ·exact .inl h
    ·exact .inr q
  ·simp only [List.mem_append,List.mem_cons,List.not_mem_nil,or_false]
   exact or_assoc
theorem ins_nodup:∀ (ns ks:List Int),ks.Nodup → (ns.foldl insK ks).Nodup
 | [],ks,h=>h
 | n :: r,ks,h=>by
  rw [List.foldl_cons]
  refine ins_nodup r _ ?_
  unfold insK
  split
  ·exact h
  ·rename_i hn
   refine List.nodup_append.mpr ⟨h,by simp,fun a ha b hb e=>?_⟩
   have:=List.mem_singleton.mp hb
   subst this; subst e; exact hn ha
theorem setI_of {ns ns':List Int} (hb:∀ n ∈ ns,0 ≤ n ∧ n < 10) (hp:ns'.Perm (ns.foldl insK [])) (hs:ns'.Pairwise (· ≤ ·)):ns' = setI ns:=by
 have s2:(setI ns).Pairwise (· ≤ ·):=List.Pairwise.sublist List.filter_sublist (by decide)
 have n2:(setI ns).Nodup:=List.Pairwise.sublist List.filter_sublist (by decide)
 have n1:ns'.Nodup:=hp.nodup_iff.mpr (ins_nodup ns [] List.nodup_nil)
 refine List.Perm.eq_of_pairwise (le:=(· ≤ ·)) (fun a b _ _ h1 h2=>Int.le_antisymm h1 h2) hs s2 ((List.perm_ext_iff_of_nodup n1 n2).mpr fun x=>?_)
 rw [hp.mem_iff,ins_mem]
 unfold setI
 rw [List.mem_filter,decide_eq_true_eq]
 constructor
 ·rintro (q | q)
  ·exact nomatch q
  ·have:=hb x q
   refine ⟨?_,q⟩
   simp only [List.mem_cons,List.not_mem_nil,or_false]
   omega
 ·rintro ⟨_,q⟩
  exact .inr q
theorem ints_pairs:∀ {L:List (Int × Value)},(∀ e ∈ L,∃ tk,e.2 = Value.int e.1 tk) → IntsAre (L.map (·.2)) (L.map (·.1))
 | [],_=>.nil
 | e :: r,h=>by
  obtain ⟨tk,q⟩:=h e List.mem_cons_self
  rw [List.map_cons,List.map_cons,q]
  exact .cons _ _ (ints_pairs fun x hx=>h x (List.mem_cons_of_mem _ hx))
section
variable {prog:Program} {w:World} {A:Around} {E:Value → Shared → Prop} {s:Shared} {r:Addr} {o:Obj} {es:Array (Int × Value)} {ep:Nat} {t:SetTable} {ks:List Int}
theorem sorted_setS {Q:Value → Shared → Prop} (hh:A.handled = none) (hS:SetS s.heap r o es ep t ks (!byT w))
  (h:∀ (h1 h':Heap) (tk:Nat) (out:Array Value) (e:Nat) (ns':List Int),(∀ b o,s.heap.get? b = some o → h1.get? b = some o) → (∀ b o,h1.get? b = some o → h'.get? b = some o) → h'.get? h1.objs.size = some (seqObj "list" out e) → IntsAre out.toList ns' → ns'.Perm ks → ns'.Pairwise (· ≤ ·) → Q (.ref h1.objs.size) { s with heap:=h',toks:=tk }) :
  wpAny (model prog w) A (call (.builtin "sorted") [.ref r]) Q E s:=by
 have few:=hS.s.few
 have wp:=wk_perm w r es ep
 have wl:(wkS w r es ep).size = es.size:=by simpa using wp.length_eq
 refine Calls.call_function_entry kind_sorted plain_sorted entry_sorted (args_sorted1 _) ?_; unfold Builtin.«sorted»; refine wpAny_bind (m:=checkCount "sorted" 1 1 _) (wpAny_pure ?_)
 refine wpAny_bind (PySem.W.kdu_collect (src_set (o:=o) (es:=es) (ep:=ep) (t:=t) (ks:=ks)) (by exact hh) hS (by rw [sizeLine_eq]; omega) fun h1 tk acc k1 ha=>?_)
 have ea:acc.toList = (wkS w r es ep).toList.map (·.2):=by
  refine List.ext_getElem (by rw [Array.length_toList,ha.1,List.length_map,Array.length_toList,wl]) fun j h1 h2=>?_
  have hj:j < acc.size:=by simpa using h1
  obtain ⟨x,hx,hv⟩:=ha.2 j acc[j] (by simp [hj])
  have hjw:j < (wkS w r es ep).size:=by simpa using h2
  rw [Array.getElem?_eq_getElem hjw] at hx
  cases hx
  simp only [Array.getElem_toList,List.getElem_map]
  exact hv
 have hI:IntsAre acc.toList ((wkS w r es ep).toList.map (·.1)):=by
  rw [ea]
  exact ints_pairs fun e he=>hS.vs e (wp.mem_iff.mp he)
 have hz:acc.size = es.size:=ha.1
 have ea2:acc = acc.toList.toArray:=by simp
 refine wpAny_bind (wpAny_newList ?_ (by rw [Array.length_toList,sizeLine_eq]; omega))
 have hoL:(h1.push (seqObj "list" acc.toList.toArray 0)).get? h1.objs.size = some (seqObj "list" acc.toList.toArray 0):=Heap.get?_push_size _ rfl
 show wpAny _ _ _ _ _ { s with heap:=h1.push (seqObj "list" acc 0),toks:=tk }
 rw [ea2]
 refine wpAny_bind (wpAny_holding (wpAny_call_entry slot_list_sort ⟨_,hoL,rfl⟩ entry_list_sort (list_sort_tree hoL hI (by simp; omega) fun out ns' a1 a2 a3=>⟨_,rfl,?_⟩) (args_list_sort _)))
 obtain ⟨e,he⟩:=sortedHeap_at (out:=out) hoL
 refine wpAny_pure ⟨_,rfl,h h1 _ _ out e ns' k1 (fun b ob q=>?_) he a1 (a2.trans ((wp.map _).trans hS.ks)) a3⟩
 have hlt:=Heap.lt_size q
 rw [sortedHeap_old (Nat.ne_of_lt hlt) (by rw [size_push']; exact Nat.lt_succ_of_lt hlt)]
 exact Heap.get?_push_of_some _ q
end
noncomputable def φS (w:World) (p:Addr) (ks:List Int):Heap → Prop:=fun h=>∃ o es ep t,SetS h p o es ep t ks (!byT w)
noncomputable def rSet (K:PySem.W.Frag) (w:World):List V → Hp → VK → Prop:=fun xs H Q=>∃ (p:Addr) (ns:List Int),xs = [.ref p] ∧ SqL K H p (ns.map V.int) ∧ (∀ n ∈ ns,0 ≤ n ∧ n < 10) ∧ ∀ l,H l = none → Q (.ref l) (upd H l (.ext (φS w l (ns.foldl insK []))))
noncomputable def rSortS (w:World):List V → Hp → VK → Prop:=fun xs H Q=>∃ (p:Addr) (ks:List Int),xs = [.ref p] ∧ H p = some (.ext (φS w p ks)) ∧ ∀ (l:Addr) (ns':List Int),H l = none → ns'.Perm ks → ns'.Pairwise (· ≤ ·) → Q (.ref l) (upd H l (.lst (ns'.map V.int)))
theorem call_set {X:Cx} (hc:X.A.handled = none):CallR X (.type "set") (rSet X.K X.w):=by
 intro pins s σ H xs us Q I r h
 obtain ⟨p,ns,rfl,hq,hb,q⟩:=h
 obtain ⟨u,rfl,rx⟩:=vals1 r
 cases rx
 obtain ⟨its,rv,⟨o,n,e,c,_,d⟩,_⟩:=I.list hq
 refine call_setS (items:=its.toArray) (ns:=ns) hc ⟨o,e,c,n,d⟩ (by simpa using intsAre_of rv) hb fun h' tk o' es ep t hS kp=>?_
 exact ⟨.ref s.heap.objs.size,_,I.laid (fun b u e=>kp b u (Heap.lt_size e) e) (Nat.le_refl _) (show ObjOk X.prog X.w _ h' _ (.ext _) from ⟨⟨o',es,ep,t,hS⟩,⟨o',hS.g⟩,fun h1 h2 ⟨o,es,ep,t,x⟩ k=>⟨o,es,ep,t,x.keep (k o)⟩⟩),rfl,q _ (I.hok.fresh (Nat.le_refl _))⟩
theorem call_sortS {X:Cx} (hc:X.A.handled = none):CallR X (.builtin "sorted") (rSortS X.w):=by
 intro pins s σ H xs us Q I r h
 obtain ⟨p,ks,rfl,hp,q⟩:=h
 obtain ⟨u,rfl,rx⟩:=vals1 r
 cases rx
 obtain ⟨⟨o,es,ep,t,hS⟩,_,_⟩:=(show ObjOk X.prog X.w H s.heap p (.ext (φS X.w p ks)) from I.hok p _ hp)
 have few:=hS.s.few
 have hk:=hS.ks.length_eq
 refine sorted_setS hc hS fun h1 h' tk out e ns' k1 k2 he hI hp hs=>?_
 have I1:Inv X pins σ H { s with heap:=h1 }:=I.kept (t':=s.toks) k1
 have hl':ns'.length < 64:=by rw [hp.length_eq,← hk]; simp; omega
 exact ⟨.ref h1.objs.size,_,I1.laid (t':=tk) k2 (Nat.le_refl _) (show ObjOk X.prog X.w _ h' _ (.lst _) from ⟨by rw [List.length_map,sizeLine_eq]; omega,out.toList,e,vals_of_ints hI,by simpa [seqObj] using he⟩),rfl,q _ ns' (I1.hok.fresh (Nat.le_refl _)) hp hs⟩
end L2
namespace D
open PySem L2
noncomputable def dSortSet (da:DA):DE:=fun Γ=>(da Γ).bind fun p=>match p.1 with
 | [a]=>(sqlOf p.2 a).bind fun ts=>(intsOf ts).bind fun ns=>if ns.all (fun n=>decide (0 ≤ n) && decide (n < 10)) then some (.l (((setI ns).map V.int).map T.a),p.2) else none
 | _=>none
theorem ims_back {K:Fg} {H:Hp}:∀ {vs us:List V},Ims K H us (vs.map T.a) → us = vs
 | [],us,h=>h.inv0
 | v :: r,us,h=>by
  obtain ⟨u,us',rfl,h1,h2⟩:=Ims.inv (t:=.a v) (ts:=r.map T.a) h
  rw [h1.inva,ims_back h2]
theorem sim_sortSet {K:Fg} {wd:World} {ta:TA} {fa:DA} (ha:SimA K ta fa):SimE K (tCB (rSortS wd) (tCons (tCB (rSet K wd) ta) tNil)) (dSortSet fa):=by
 intro C w Γ σ H s Γ' Q R e k
 obtain ⟨⟨as,G1⟩,e1,e⟩:=bind_some e
 dsimp only at e
 split at e
 ·obtain ⟨ts,e2,e⟩:=bind_some e
  obtain ⟨ns,e3,e⟩:=bind_some e
  split at e
  ·rename_i hb
   cases e
   have hb':∀ n ∈ ns,0 ≤ n ∧ n < 10:=fun n hn=>by
    have:=List.all_eq_true.mp hb n hn
    simpa using this
   refine ha C w Γ σ H _ _ _ R e1 fun vs H1 R1 ev1 o1 n1=>?_
   obtain ⟨v,rfl,o2⟩:=soks1 o1
   obtain ⟨p,us,rfl,h1,i1⟩:=sql_ok R1 o2 e2
   have eu:us = ns.map V.int:=by
    have:=intsOf_eq e3
    subst this
    exact ims_back i1
   subst eu
   refine ⟨p,ns,rfl,h1,hb',fun b hb1=>?_⟩
   have R2:Rep K C w _ σ (upd H1 b (.ext (φS wd b (ns.foldl insK [])))):=R1.new hb1
   have ev2:Evo w.L H (upd H1 b (.ext (φS wd b (ns.foldl insK [])))):=ev1.trans (Evo.new hb1)
   refine ⟨b,_,rfl,upd_same,fun l ns' hl hp hs=>?_⟩
   have:=setI_of hb' hp hs
   subst this
   exact k _ _ (R2.new hl) (ev2.trans (Evo.new hl)) (R2.newl hl (Ims.atoms _)) ⟨l,rfl,none_back ev2 R2.lst hl⟩
  ·cases e
 ·cases e
section
variable {ι:Type} {K:Fg} {mg:Str → Option Value} {k:Nat} {X:ι → Cx} {e:Expr} {es:List Expr} {pos:Pos} {da:DA} {P:Program} {wd:World} {base:Heap}
theorem ex_sortSet {p p2 pos2:Pos} (M:Fm K mg k X) (B:Fb P wd base X) (hl:mg "sorted" = none) (hr:mg "set" = none) (ha:AX K X (e :: es) da) (hg:∀ j,Gl (X j) "sorted":=by intro _; rfl) (hg2:∀ j,Gl (X j) "set":=by intro _; rfl)
  (he:∀ j,starEach (e :: es) (X j).env = (false,eval e (X j).env) :: starEach es (X j).env:=by intro _; rfl) (hpl:∀ j,(backTo pos2 (starEach es (X j).env)).any (·.1) = false:=by intro _; rfl) :
  EX K X (.Call (.Name "sorted" p) [.Call (.Name "set" p2) (e :: es) [] pos2] [] pos) (dSortSet da) :=
 let ⟨_,q,u⟩:=ha; ⟨_,fun j=>pe_callB (by have:=call_sortS (X:=X j) (M.room j).hd; rw [B.w] at this; exact this) (hg j) (by rw [M.mg]; exact hl) PyProof.Rows.boot_sorted (pa_cons (pe_callTy (by have:=call_set (X:=X j) (M.room j).hd; rw [B.w,M.K] at this; exact this) (hg2 j) (by rw [M.mg]; exact hr) (by decide +kernel) (q j) (by decide) (by decide) (he j) (hpl j)) pa_nil),sim_sortSet u⟩
end
end D
set_option Elab.async false
set_option linter.all false
set_option maxRecDepth 100000
set_option maxHeartbeats 4000000
namespace L2
open PySem PySem.Spec PyProof.Rows
noncomputable def KtE (w:World) (K:PySem.W.Frag) (p:Addr) (vs:List (Str × Value)):Prop:=∃ (es:List DictEntry) (ep:Nat),K.lookup p = some ⟨.type "dict",none,.dict es.toArray ep,#[]⟩ ∧ (vs.map (·.1)).Nodup ∧ Paired (fun (e:DictEntry) (kv:Str × Value)=>(∃ t,e.key = .str kv.1 t) ∧ e.val = kv.2 ∧ e.hash = keyH w (.inr kv.1)) es vs
theorem kt_of {P:Program} {w:World} {K:PySem.W.Frag} {p:Addr} {vs:List (Str × Value)} {h:Heap} (hk:KtE w K p vs) (hin:∀ o,K.lookup p = some o → h.get? p = some o):h.DictOf (mixKind P w) p (vs.map fun kv=>(.inr kv.1,kv.2)):=by
 obtain ⟨es,ep,h1,h2,h3⟩:=hk
 refine ⟨_,es.toArray,ep,hin _ h1,⟨rfl,rfl,rfl⟩,rfl,?_,?_,?_⟩
 ·intro e he
  have he':e ∈ es:=by simpa using he
  have gen:∀ {es:List DictEntry} {vs:List (Str × Value)},Paired (fun (e:DictEntry) (kv:Str × Value)=>(∃ t,e.key = .str kv.1 t) ∧ e.val = kv.2 ∧ e.hash = keyH w (.inr kv.1)) es vs → ∀ e ∈ es,∃ k,(mixKind P w).is k e.key = true ∧ e.hash = (mixKind P w).hash k:=by
   intro es vs q
   induction q with
   | nil=>intro e he; exact nomatch he
   | @cons a b es vs hab _ ih =>
    intro e he
    rcases List.mem_cons.mp he with z | z
    ·subst z
     obtain ⟨⟨t,e1⟩,_,e3⟩:=hab
     exact ⟨.inr b.1,by rw [e1]; exact mixKind_str P w _ _,e3⟩
    ·exact ih e z
  exact gen h3 e he'
 ·show Pairs (mixKind P w) es.toArray.toList _
  rw [List.toList_toArray]
  clear h1 h2 hin
  induction h3 with
  | nil=>exact .nil
  | @cons a b es vs hab _ ih =>
   obtain ⟨⟨t,e1⟩,e2,_⟩:=hab
   exact .cons (by rw [e1]; exact mixKind_str P w _ _) e2 ih
 ·rw [List.map_map]
  have:((fun (x:Key × Value)=>x.1) ∘ fun (kv:Str × Value)=>((Sum.inr kv.1:Key),kv.2)) = (fun i:Str=>(Sum.inr i:Key)) ∘ (fun kv:Str × Value=>kv.1):=rfl
  rw [this,← List.map_map]
  exact List.Pairwise.map _ (fun a b hab e=>hab (Sum.inr.inj e)) h2
noncomputable def tKt (vs:List (Str × V)) (ti:TE):TE:=fun σ H Q=>ti σ H fun y H1=>∃ n v,y = .str n ∧ (vs.find? fun kv=>decide (kv.1 = n)) = some (n,v) ∧ Q v H1
theorem pe_kt {X:Cx} {o i:Expr} {ti:TE} {pos:Pos} {p:Addr} {vs:List (Str × V)} {ws:List (Str × Value)} (ho:PE X o (tC (.ref p))) (hi:PE X i ti) (hs:NoSl i) (hd:KtE X.w X.K p ws) (hr:Paired (fun (a:Str × V) (b:Str × Value)=>a.1 = b.1 ∧ RelV a.2 b.2) vs ws):PE X (.Subscript o i pos) (tKt vs ti):=by
 intro pins s σ H Q I h
 refine subD_of PySem.F.slot_dict_getitem.lookup hs (thn (ho pins s σ H (fun x H1=>x = .ref p ∧ ti σ H1 fun y H2=>∃ n v,y = .str n ∧ (vs.find? fun kv=>decide (kv.1 = n)) = some (n,v) ∧ Q v H2) I ⟨rfl,h⟩) fun u s1 ⟨x,H1,I1,rx,ex,q1⟩=>thn (hi pins s1 σ H1 _ I1 q1) fun iv s2 ⟨y,H2,I2,ry,n,v,ey,hf,q2⟩=>?_)
 subst ex ey
 obtain rfl:u = Value.ref p:=rx
 have dd:=kt_of (P:=X.prog) (w:=X.w) (h:=s2.heap) hd (fun o e=>I2.kIn p o e)
 have val:∀ {vs:List (Str × V)} {ws:List (Str × Value)},Paired (fun (a:Str × V) (b:Str × Value)=>a.1 = b.1 ∧ RelV a.2 b.2) vs ws → (vs.find? fun kv=>decide (kv.1 = n)) = some (n,v) → ∃ u,valueAt (ws.map fun kv=>((Sum.inr kv.1:Key),kv.2)) (Sum.inr n) = some u ∧ RelV v u:=by
  intro vs ws q
  induction q with
  | nil=>intro e; cases e
  | @cons a b vs ws hab _ ih =>
   intro e
   rw [List.find?_cons] at e
   by_cases h1:a.1 = n
   ·rw [decide_eq_true h1] at e
    have:a = (n,v):=by simpa using e
    subst this
    refine ⟨b.2,?_,hab.2⟩
    have hb:b.1 = n:=hab.1.symm
    simp [valueAt,hb]
   ·rw [decide_eq_false h1] at e
    obtain ⟨u,e1,r1⟩:=ih e
    refine ⟨u,?_,r1⟩
    have hb:¬ b.1 = n:=fun z=>h1 (hab.1.trans z)
    rw [← e1]
    simp [valueAt,hb]
 obtain ⟨u,hu,ru⟩:=val hr hf
 refine ⟨?_,wpAny_getItem_of (k:=.inr n) (kV_is (k:=.inr n) ry) dd.mapOf hu ⟨v,H2,I2.tok _,ru,q2⟩⟩
 exact dd.typeIs
end L2
namespace D
open PySem L2
noncomputable def dKt (tb:List (Str × T)) (fi:DE):DE:=fun Γ=>(fi Γ).bind fun p=>match p.1 with
 | .v (.a (.str n))=>(tb.find? fun kv=>decide (kv.1 = n)).map fun kv=>(.v kv.2,p.2)
 | _=>none
noncomputable def KTV (w:World) (K:Fg) (mg:Str → Option Value) (x:Str) (tb:List (Str × T)):Prop:=∃ (p:Addr) (vs:List (Str × V)) (ws:List (Str × Value)),mg x = some (.ref p) ∧ KtE w K p ws ∧ Paired (fun (a:Str × V) (b:Str × Value)=>a.1 = b.1 ∧ RelV a.2 b.2) vs ws ∧ ∀ H:Hp,Paired (fun (a:Str × V) (b:Str × T)=>a.1 = b.1 ∧ Im K H a.2 b.2) vs tb
theorem sim_kt {K:Fg} {vs:List (Str × V)} {tb:List (Str × T)} {ti:TE} {fi:DE} (hi:SimE K ti fi) (h:∀ H:Hp,Paired (fun (a:Str × V) (b:Str × T)=>a.1 = b.1 ∧ Im K H a.2 b.2) vs tb):SimE K (tKt vs ti) (dKt tb fi):=by
 intro C w Γ σ H s Γ' Q R e k
 obtain ⟨⟨s1,G1⟩,e1,e⟩:=bind_some e
 dsimp only at e
 split at e
 ·rename_i n
  obtain ⟨kv,e2,e⟩:=map_some e
  cases e
  refine hi C w Γ σ H _ _ _ R e1 fun v H1 R1 ev1 o1 n1=>?_
  have o1':Im K H1 v (.a (.str n)):=o1
  have hv:v = .str n:=o1'.inva
  subst hv
  have go:∀ {vs:List (Str × V)} {tb:List (Str × T)},Paired (fun (a:Str × V) (b:Str × T)=>a.1 = b.1 ∧ Im K H1 a.2 b.2) vs tb → (tb.find? fun kv=>decide (kv.1 = n)) = some kv → ∃ u,(vs.find? fun kv=>decide (kv.1 = n)) = some (n,u) ∧ Im K H1 u kv.2:=by
   intro vs tb q
   induction q with
   | nil=>intro e; cases e
   | @cons a b vs tb hab _ ih =>
    intro e
    rw [List.find?_cons] at e ⊢
    by_cases h1:b.1 = n
    ·rw [decide_eq_true h1] at e
     have:b = kv:=by simpa using e
     subst this
     have ha:a.1 = n:=hab.1.trans h1
     rw [decide_eq_true ha]
     exact ⟨a.2,by rw [← ha],hab.2⟩
    ·rw [decide_eq_false h1] at e
     have ha:¬ a.1 = n:=fun z=>h1 (hab.1.symm.trans z)
     rw [decide_eq_false ha]
     exact ih e
  obtain ⟨u,hu,iu⟩:=go (h H1) e2
  exact ⟨n,u,rfl,hu,k _ H1 R1 ev1 iu trivial⟩
 ·cases e
theorem kt_ints {w:World} {K:Fg} {mg:Str → Option Value} {x:Str} {p:Addr} {ep:Nat} {es:List DictEntry} (rows:List (Str × Int)) (h1:mg x = some (.ref p)) (h2:K.lookup p = some ⟨.type "dict",none,.dict es.toArray ep,#[]⟩)
  (h3:Paired (fun (e:DictEntry) (r:Str × Int)=>(∃ t,e.key = .str r.1 t) ∧ (∃ t,e.val = .int r.2 t) ∧ e.hash = keyH w (.inr r.1)) es rows) (hn:(rows.map (·.1)).Nodup):KTV w K mg x (rows.map fun r=>(r.1,T.a (.int r.2))):=by
 have key:∃ ws:List (Str × Value),ws.map (·.1) = rows.map (·.1) ∧ Paired (fun (e:DictEntry) (kv:Str × Value)=>(∃ t,e.key = .str kv.1 t) ∧ e.val = kv.2 ∧ e.hash = keyH w (.inr kv.1)) es ws ∧ Paired (fun (a:Str × V) (b:Str × Value)=>a.1 = b.1 ∧ RelV a.2 b.2) (rows.map fun r=>(r.1,V.int r.2)) ws:=by
  clear h2 hn
  induction h3 with
  | nil=>exact ⟨[],rfl,.nil,.nil⟩
  | @cons a b es vs hab _ ih =>
   obtain ⟨ws,q1,q2,q3⟩:=ih
   obtain ⟨k1,⟨t,k2⟩,k3⟩:=hab
   exact ⟨(b.1,.int b.2 t) :: ws,by simp [q1],.cons ⟨k1,k2,k3⟩ q2,.cons ⟨rfl,t,rfl⟩ q3⟩
 obtain ⟨ws,q1,q2,q3⟩:=key
 refine ⟨p,rows.map fun r=>(r.1,V.int r.2),ws,h1,⟨es,ep,h2,by rw [q1]; exact hn,q2⟩,q3,fun H=>?_⟩
 clear h3 hn q1 q2 q3
 induction rows with
 | nil=>exact .nil
 | cons a r ih=>exact .cons ⟨rfl,by unfold Im; rfl⟩ ih
section
variable {ι:Type} {P:Program} {wd:World} {base:Heap} {K:Fg} {X:ι → Cx} {mg:Str → Option Value} {k:Nat} {pos pos0:Pos} {x:Str} {i:Expr} {fi:DE} {Γ:En}
theorem ex_kt (tb:List (Str × T)) (M:Fm K mg k X) (B:Fb P wd base X) (c:KTV wd K mg x tb) (hi:EX K X i fi) (hs:NoSl i:=by intro _ _; rfl) (hg:∀ j,Gl (X j) x:=by intro _; rfl) (hd:(x == ("__debug__":Str)) = false:=by decide):EX K X (.Subscript (.Name x pos0) i pos) (dKt tb fi) :=
 let ⟨p,vs,ws,h1,h2,h3,h5⟩:=c
 let ⟨t,q,u⟩:=hi
 ⟨tKt vs t,fun j=>pe_kt (p:=p) (ws:=ws) (pe_glob (hg j) (by rw [M.mg]; exact h1) rfl hd) (q j) hs (by rw [M.K,B.w]; exact h2) h3,sim_kt u h5⟩
@[simp] theorem dKt_ap {tb:List (Str × T)}:dKt tb fi Γ = (fi Γ).bind fun p=>match p.1 with
 | .v (.a (.str n))=>(tb.find? fun kv=>decide (kv.1 = n)).map fun kv=>(.v kv.2,p.2)
 | _=>none:=(rfl)
end
end D
set_option Elab.async false
set_option linter.all false
set_option maxRecDepth 100000
set_option maxHeartbeats 4000000
namespace D
open PySem L2
noncomputable def shlS:En → S → S → Option S:=opIIc CPow fun i j=>.int (i * 2 ^ j.toNat)
section
variable {ι:Type} {K:Fg} {X:ι → Cx} {a b:Expr} {pos:Pos} {fa fb:DE} {Γ:En}
theorem ex_shl (ha:EX K X a fa) (hb:EX K X b fb):EX K X (.BinOp a .LShift b pos) (dOp shlS fa fb):=ex_op (fun j=>op_shl) simR2_rI ha hb
@[simp] theorem shlS_ii {m n:Int}:shlS Γ (.v (.a (.int m))) (.v (.a (.int n))) = if CPow m n then some (.v (.a (.int (m * 2 ^ n.toNat)))) else none:=(rfl)
end
end D
set_option Elab.async false
set_option linter.all false
set_option maxRecDepth 100000
set_option maxHeartbeats 4000000
namespace Lw
open PySem L2 D
noncomputable def top (i:Nat):Stmt:=PySem.Challenge.pw_fivecups_k10_whole_spelled_says_the_same.main.body.getD i (.Pass ⟨0,0,0,0⟩)
noncomputable section
variable {P:Program} {wd:World} {K:PySem.W.Frag} {mg:Str → Option Value} {base:Heap}
noncomputable def c_LAYERS_MORE:List (Str × T):=([("yes",0),("no",0),("ask",0),("not",0),("and",1),("or",1),("either",2),("most",3)]:List (Str × Int)).map fun r=>(r.1,T.a (.int r.2))
noncomputable abbrev fuel_l_many_parts:Nat:=12
noncomputable abbrev fuel_l_plain:Nat:=50
noncomputable abbrev fuel_l_saying:Nat:=12
noncomputable abbrev fuel_l_weighed:Nat:=12
noncomputable abbrev fuel_l_weight:Nat:=12
noncomputable abbrev st_l_box:Stmt:=top 20
theorem sc_l_box:FnScope ["_law_script","_law_k","_law_cell","_law_seed"] ["_law_script","_law_k"] (defScope st_l_box):=⟨rfl,rfl,rfl,by decide +kernel,rfl,by decide +kernel,by decide +kernel⟩
noncomputable def d_l_box:DS:=dSeq (dSet 2 (dOp addS (dOp mulS (dC (.int 7919)) (dVar 1)) (dC (.int 11))))
 (dSeq (dIf (dTest (dOp ltS (dVar 1) (dCB lenS (dCons (dVar 0) dNil)))) (dSet 2 (dOp ixS (dVar 0) (dVar 1))) (dIf (dTest (dOp gtS (dCB lenS (dCons (dVar 0) dNil)) (dC (.int 0)))) (dSet 2 (dOp addS (dVar 2) (dOp mulS (dOp modS (dOp ixS (dVar 0) (dOp modS (dVar 1) (dCB lenS (dCons (dVar 0) dNil)))) (dC (.int 2147483629))) (dC (.int 69623))))) dNext))
 (dSeq (dSet 3 (dOp addS (dOp modS (dOp addS (dOp mulS (dOp modS (dVar 2) (dC (.int 2147483629))) (dC (.int 48271))) (dOp mulS (dC (.int 40692)) (dVar 1))) (dC (.int 2147483629))) (dC (.int 1))))
 (dRet (dLst (dCons (dOp ixS (dLst (dCons (dC (.int 0)) (dCons (dVar 2) dNil))) (dCB intS (dCons (dOp geS (dVar 2) (dOp powS (dC (.int 10)) (dC (.int 18)))) dNil))) (dCons (dVar 3) dNil))))))
noncomputable def F_l_box:DF:=fnD none 2 4 d_l_box
theorem ok_l_box {f:Addr} {fd:FuncData} (Fn:Fun K "_law_box" "_law_box" st_l_box f fd) (hm:mg "_law_box" = some (.ref f)) (hb:Binds K fd ["_law_script","_law_k"] []) (z_int:mg "int" = none) (z_len:mg "len" = none):FD P wd K mg base (1) "_law_box" none 2 F_l_box :=
 fd_of (k:=0) Fn sc_l_box hm hb fun cdv A outer s H E M B=>bx_cons (sx_set 2 (ex_add M (ex_mul ex_int (ex_var 1)) ex_int) (hN:=fun _=>sc_l_box.nd))
 (bx_cons (sx_if (tx_c cr_lt (ex_var 1) (ex_cb M (br_len M) z_len PySem.boot_len (ax_cons (ex_var 0) ax_nil))) (bx_one (sx_set 2 (ex_ix M (ex_var 0) (ex_var 1)) (hN:=fun _=>sc_l_box.nd))) (bx_one (sx_if (tx_c cr_gt (ex_cb M (br_len M) z_len PySem.boot_len (ax_cons (ex_var 0) ax_nil)) ex_int) (bx_one (sx_set 2 (ex_add M (ex_var 2) (ex_mul (ex_mod (ex_ix M (ex_var 0) (ex_mod (ex_var 1) (ex_cb M (br_len M) z_len PySem.boot_len (ax_cons (ex_var 0) ax_nil)))) ex_int) ex_int)) (hN:=fun _=>sc_l_box.nd))) bx_nil)))
 (bx_cons (sx_set 3 (ex_add M (ex_mod (ex_add M (ex_mul (ex_mod (ex_var 2) ex_int) ex_int) (ex_mul ex_int (ex_var 1))) ex_int) ex_int) (hN:=fun _=>sc_l_box.nd))
 (bx_one (sx_ret (ex_lst (ax_cons (ex_ix M (ex_lst (ax_cons ex_int (ax_cons (ex_var 2) ax_nil))) (ex_ct M (tr_int) z_int (by decide +kernel) (ax_cons (ex_c cr_ge (ex_var 2) (ex_pow ex_int ex_int)) ax_nil))) (ax_cons (ex_var 3) ax_nil)))))))
noncomputable abbrev st_l_take:Stmt:=top 21
theorem sc_l_take:FnScope ["_law_box_here","_law_wide","_law_digit","_law_one"] ["_law_box_here","_law_wide"] (defScope st_l_take):=⟨rfl,rfl,rfl,by decide +kernel,rfl,by decide +kernel,by decide +kernel⟩
noncomputable def d_l_take:DS:=dSeq (dIf (dTest (dOp gtS (dOp ixS (dVar 0) (dC (.int 0))) (dC (.int 0)))) (dSeq (dSet 2 (dOp modS (dOp ixS (dVar 0) (dC (.int 0))) (dVar 1)))
 (dSeq (dSetIx 0 (dOp fdivS (dOp ixS (dVar 0) (dC (.int 0))) (dVar 1)) (dC (.int 0)))
 (dRet (dVar 2)))) dNext)
 (dSeq (dSet 3 (dOp modS (dOp mulS (dOp ixS (dVar 0) (dC (.int 1))) (dC (.int 69623))) (dC (.int 2147483647))))
 (dSeq (dSetIx 0 (dOp addS (dOp modS (dOp addS (dOp mulS (dVar 3) (dC (.int 48271))) (dC (.int 30103))) (dC (.int 2147483629))) (dC (.int 1))) (dC (.int 1)))
 (dRet (dOp modS (dOp fdivS (dOp addS (dOp mulS (dVar 3) (dC (.int 2147483647))) (dOp ixS (dVar 0) (dC (.int 1)))) (dC (.int 8191))) (dVar 1)))))
noncomputable def F_l_take:DF:=fnD (some 0) 2 4 d_l_take
theorem ok_l_take {f:Addr} {fd:FuncData} (Fn:Fun K "_law_take" "_law_take" st_l_take f fd) (hm:mg "_law_take" = some (.ref f)) (hb:Binds K fd ["_law_box_here","_law_wide"] []) :FD P wd K mg base (1) "_law_take" (some 0) 2 F_l_take :=
 fd_of (k:=0) Fn sc_l_take hm hb fun cdv A outer s H E M B=>bx_cons (sx_if (tx_c cr_gt (ex_ix M (ex_var 0) ex_int) ex_int) (bx_cons (sx_set 2 (ex_mod (ex_ix M (ex_var 0) ex_int) (ex_var 1)) (hN:=fun _=>sc_l_take.nd))
 (bx_cons (sx_setIx 0 (ex_fdiv (ex_ix M (ex_var 0) ex_int) (ex_var 1)) (pv' 0) ex_int)
 (bx_one (sx_ret (ex_var 2))))) bx_nil)
 (bx_cons (sx_set 3 (ex_mod (ex_mul (ex_ix M (ex_var 0) ex_int) ex_int) ex_int) (hN:=fun _=>sc_l_take.nd))
 (bx_cons (sx_setIx 0 (ex_add M (ex_mod (ex_add M (ex_mul (ex_var 3) ex_int) ex_int) ex_int) ex_int) (pv' 0) ex_int)
 (bx_one (sx_ret (ex_mod (ex_fdiv (ex_add M (ex_mul (ex_var 3) ex_int) (ex_ix M (ex_var 0) ex_int)) ex_int) (ex_var 1))))))
noncomputable abbrev st_l_saying:Stmt:=top 23
theorem sc_l_saying:FnScope ["_law_box_here","_law_questions","_law_room","_law_down","_law_form","_law_first","_law_one","_law_second","_law_other","_law_head"] ["_law_box_here","_law_questions","_law_room","_law_down"] (defScope st_l_saying):=⟨rfl,rfl,rfl,by decide +kernel,rfl,by decide +kernel,by decide +kernel⟩
noncomputable def d_l_saying (rec:DF):DS:=dSeq (dSet 4 (dCall (some 0) F_l_take [] (dCons (dVar 0) (dCons (dC (.int 10)) dNil))))
 (dSeq (dIf (dOr (dTest (dOp ltS (dVar 2) (dC (.int 2)))) (dOr (dTest (dOp ltS (dVar 3) (dC (.int 2)))) (dTest (dOp eqS (dVar 4) (dC (.int 0)))))) (dRet (dOp ixS (dLst (dCons (dTup (dCons (dC (.str "ask")) (dCons (dCall (some 0) F_l_take [] (dCons (dVar 0) (dCons (dVar 1) dNil))) dNil))) (dCons (dTup (dCons (dC (.str "yes")) dNil)) (dCons (dTup (dCons (dC (.str "no")) dNil)) dNil)))) (dCB max2S (dCons (dC (.int 0)) (dCons (dOp subS (dCall (some 0) F_l_take [] (dCons (dVar 0) (dCons (dC (.int 8)) dNil))) (dC (.int 5))) dNil))))) dNext)
 (dSeq (dIf (dOr (dTest (dOp ltS (dVar 4) (dC (.int 3)))) (dTest (dOp ltS (dVar 2) (dC (.int 3))))) (dRet (dTup (dCons (dC (.str "not")) (dCons (dCall (some 0) rec [] (dCons (dVar 0) (dCons (dVar 1) (dCons (dOp subS (dVar 2) (dC (.int 1))) (dCons (dOp subS (dVar 3) (dC (.int 1))) dNil))))) dNil)))) dNext)
 (dSeq (dSet 5 (dOp addS (dC (.int 1)) (dCall (some 0) F_l_take [] (dCons (dVar 0) (dCons (dOp subS (dVar 2) (dC (.int 2))) dNil)))))
 (dSeq (dSet 6 (dCall (some 0) rec [] (dCons (dVar 0) (dCons (dVar 1) (dCons (dVar 5) (dCons (dOp subS (dVar 3) (dC (.int 1))) dNil))))))
 (dSeq (dIf (dAnd (dTest (dOp eqS (dVar 4) (dC (.int 9)))) (dAnd (dTest (dOp gtS (dVar 2) (dC (.int 3)))) (dTest (dOp ltS (dVar 5) (dOp subS (dVar 2) (dC (.int 2))))))) (dSeq (dSet 7 (dOp addS (dC (.int 1)) (dCall (some 0) F_l_take [] (dCons (dVar 0) (dCons (dOp subS (dOp subS (dVar 2) (dC (.int 2))) (dVar 5)) dNil)))))
 (dSeq (dSet 8 (dCall (some 0) rec [] (dCons (dVar 0) (dCons (dVar 1) (dCons (dVar 7) (dCons (dOp subS (dVar 3) (dC (.int 1))) dNil))))))
 (dRet (dTup (dCons (dC (.str "most")) (dCons (dVar 6) (dCons (dVar 8) (dCons (dCall (some 0) rec [] (dCons (dVar 0) (dCons (dVar 1) (dCons (dOp subS (dOp subS (dOp subS (dVar 2) (dC (.int 1))) (dVar 5)) (dVar 7)) (dCons (dOp subS (dVar 3) (dC (.int 1))) dNil))))) dNil)))))))) dNext)
 (dSeq (dSet 9 (dOp ixS (dLst (dCons (dC (.str "and")) (dCons (dC (.str "or")) (dCons (dC (.str "either")) dNil)))) (dOp modS (dVar 4) (dC (.int 3)))))
 (dRet (dTup (dCons (dVar 9) (dCons (dVar 6) (dCons (dCall (some 0) rec [] (dCons (dVar 0) (dCons (dVar 1) (dCons (dOp subS (dOp subS (dVar 2) (dC (.int 1))) (dVar 5)) (dCons (dOp subS (dVar 3) (dC (.int 1))) dNil))))) dNil)))))))))))
noncomputable def F_l_saying:Nat → DF
 | 0=>fun _=>none
 | n + 1=>fnD (some 0) 4 10 (d_l_saying (F_l_saying n))
theorem ok_l_saying {f:Addr} {fd:FuncData} (Fn:Fun K "_law_saying" "_law_saying" st_l_saying f fd) (hm:mg "_law_saying" = some (.ref f)) (hb:Binds K fd ["_law_box_here","_law_questions","_law_room","_law_down"] []) (z_max:mg "max" = none) (D_l_take:FD P wd K mg base (1) "_law_take" (some 0) 2 F_l_take) (n:Nat):FD P wd K mg base (1 + n) "_law_saying" (some 0) 4 (F_l_saying n):=by
 induction n with
 | zero=>exact fd_zero Fn hm hb rfl
 | succ n ih =>
  have Drec:=ih
  exact fd_of (k:=1 + n) Fn sc_l_saying hm hb fun cdv A outer s H E M B=>bx_cons (sx_set 4 (ex_call M B D_l_take (ax_cons (ex_var 0) (ax_cons ex_int ax_nil))) (hN:=fun _=>sc_l_saying.nd))   (bx_cons (sx_if (tx_w (wx_or (tx_c cr_lt (ex_var 2) ex_int) (wx_or (tx_c cr_lt (ex_var 3) ex_int) (wx_or1 (tx_c (cr_eq M) (ex_var 4) ex_int))))) (bx_one (sx_ret (ex_ix M (ex_lst (ax_cons (ex_tup (ax_cons ex_str (ax_cons (ex_call M B D_l_take (ax_cons (ex_var 0) (ax_cons (ex_var 1) ax_nil))) ax_nil))) (ax_cons (ex_tup (ax_cons ex_str ax_nil)) (ax_cons (ex_tup (ax_cons ex_str ax_nil)) ax_nil)))) (ex_cb M (br_max2 M) z_max PyProof.Rows.boot_max (ax_cons ex_int (ax_cons (ex_sub (ex_call M B D_l_take (ax_cons (ex_var 0) (ax_cons ex_int ax_nil))) ex_int) ax_nil)))))) bx_nil)   (bx_cons (sx_if (tx_w (wx_or (tx_c cr_lt (ex_var 4) ex_int) (wx_or1 (tx_c cr_lt (ex_var 2) ex_int)))) (bx_one (sx_ret (ex_tup (ax_cons ex_str (ax_cons (ex_call M B Drec (ax_cons (ex_var 0) (ax_cons (ex_var 1) (ax_cons (ex_sub (ex_var 2) ex_int) (ax_cons (ex_sub (ex_var 3) ex_int) ax_nil))))) ax_nil))))) bx_nil)   (bx_cons (sx_set 5 (ex_add M ex_int (ex_call M B D_l_take (ax_cons (ex_var 0) (ax_cons (ex_sub (ex_var 2) ex_int) ax_nil)))) (hN:=fun _=>sc_l_saying.nd))   (bx_cons (sx_set 6 (ex_call M B Drec (ax_cons (ex_var 0) (ax_cons (ex_var 1) (ax_cons (ex_var 5) (ax_cons (ex_sub (ex_var 3) ex_int) ax_nil))))) (hN:=fun _=>sc_l_saying.nd))   (bx_cons (sx_if (tx_w (wx_and (tx_c (cr_eq M) (ex_var 4) ex_int) (wx_and (tx_c cr_gt (ex_var 2) ex_int) (wx_and1 (tx_c cr_lt (ex_var 5) (ex_sub (ex_var 2) ex_int)))))) (bx_cons (sx_set 7 (ex_add M ex_int (ex_call M B D_l_take (ax_cons (ex_var 0) (ax_cons (ex_sub (ex_sub (ex_var 2) ex_int) (ex_var 5)) ax_nil)))) (hN:=fun _=>sc_l_saying.nd))   (bx_cons (sx_set 8 (ex_call M B Drec (ax_cons (ex_var 0) (ax_cons (ex_var 1) (ax_cons (ex_var 7) (ax_cons (ex_sub (ex_var 3) ex_int) ax_nil))))) (hN:=fun _=>sc_l_saying.nd))   (bx_one (sx_ret (ex_tup (ax_cons ex_str (ax_cons (ex_var 6) (ax_cons (ex_var 8) (ax_cons (ex_call M B Drec (ax_cons (ex_var 0) (ax_cons (ex_var 1) (ax_cons (ex_sub (ex_sub (ex_sub (ex_var 2) ex_int) (ex_var 5)) (ex_var 7)) (ax_cons (ex_sub (ex_var 3) ex_int) ax_nil))))) ax_nil))))))))) bx_nil)   (bx_cons (sx_set 9 (ex_ix M (ex_lst (ax_cons ex_str (ax_cons ex_str (ax_cons ex_str ax_nil)))) (ex_mod (ex_var 4) ex_int)) (hN:=fun _=>sc_l_saying.nd))   (bx_one (sx_ret (ex_tup (ax_cons (ex_var 9) (ax_cons (ex_var 6) (ax_cons (ex_call M B Drec (ax_cons (ex_var 0) (ax_cons (ex_var 1) (ax_cons (ex_sub (ex_sub (ex_var 2) ex_int) (ex_var 5)) (ax_cons (ex_sub (ex_var 3) ex_int) ax_nil))))) ax_nil))))))))))))
noncomputable abbrev st_l_weighed:Stmt:=top 26
theorem sc_l_weighed:FnScope ["_law_box_here","_law_questions","_law_most","_law_down","_law_form","_law_head","_law_room","_law_last","_law_third","_law_first","_law_one"] ["_law_box_here","_law_questions","_law_most","_law_down"] (defScope st_l_weighed):=⟨rfl,rfl,rfl,by decide +kernel,rfl,by decide +kernel,by decide +kernel⟩
noncomputable def d_l_weighed (rec:DF):DS:=dSeq (dSet 4 (dCall (some 0) F_l_take [] (dCons (dVar 0) (dCons (dC (.int 8)) dNil))))
 (dSeq (dIf (dOr (dTest (dOp ltS (dVar 2) (dC (.int 4)))) (dOr (dTest (dOp ltS (dVar 3) (dC (.int 2)))) (dTest (dOp eqS (dVar 4) (dC (.int 0)))))) (dRet (dCall (some 0) (F_l_saying fuel_l_saying) [] (dCons (dVar 0) (dCons (dVar 1) (dCons (dC (.int 1)) (dCons (dC (.int 1)) dNil)))))) dNext)
 (dSeq (dIf (dTest (dOp eqS (dVar 4) (dC (.int 1)))) (dRet (dTup (dCons (dC (.str "not")) (dCons (dCall (some 0) rec [] (dCons (dVar 0) (dCons (dVar 1) (dCons (dVar 2) (dCons (dOp subS (dVar 3) (dC (.int 1))) dNil))))) dNil)))) dNext)
 (dSeq (dPar3 5 6 7 (dCons (dOp ixS (dLst (dCons (dC (.str "and")) (dCons (dC (.str "or")) dNil))) (dOp modS (dVar 4) (dC (.int 2)))) (dCons (dOp fdivS (dVar 2) (dC (.int 2))) (dCons (dTup dNil) dNil))))
 (dSeq (dIf (dAnd (dTest (dOp eqS (dVar 4) (dC (.int 4)))) (dTest (dOp gtS (dVar 2) (dC (.int 15))))) (dPar2 5 6 (dCons (dC (.str "either")) (dCons (dOp fdivS (dVar 2) (dC (.int 8))) dNil))) dNext)
 (dSeq (dIf (dAnd (dTest (dOp ltS (dVar 4) (dC (.int 4)))) (dTest (dOp gtS (dVar 2) (dC (.int 27))))) (dSeq (dSet 8 (dOp addS (dC (.int 1)) (dCall (some 0) F_l_take [] (dCons (dVar 0) (dCons (dOp fdivS (dOp subS (dVar 2) (dC (.int 24))) (dC (.int 4))) dNil)))))
 (dSeq (dPar2 5 6 (dCons (dC (.str "most")) (dCons (dOp fdivS (dOp subS (dVar 2) (dOp mulS (dC (.int 4)) (dVar 8))) (dC (.int 12))) dNil)))
 (dSet 7 (dTup (dCons (dCall (some 0) rec [] (dCons (dVar 0) (dCons (dVar 1) (dCons (dVar 8) (dCons (dOp subS (dVar 3) (dC (.int 1))) dNil))))) dNil))))) dNext)
 (dSeq (dSet 9 (dOp addS (dC (.int 1)) (dCall (some 0) F_l_take [] (dCons (dVar 0) (dCons (dOp subS (dVar 6) (dC (.int 1))) dNil)))))
 (dSeq (dSet 10 (dCall (some 0) rec [] (dCons (dVar 0) (dCons (dVar 1) (dCons (dVar 9) (dCons (dOp subS (dVar 3) (dC (.int 1))) dNil))))))
 (dRet (dOp addS (dTup (dCons (dVar 5) (dCons (dVar 10) (dCons (dCall (some 0) rec [] (dCons (dVar 0) (dCons (dVar 1) (dCons (dOp subS (dVar 6) (dVar 9)) (dCons (dOp subS (dVar 3) (dC (.int 1))) dNil))))) dNil)))) (dVar 7))))))))))
noncomputable def F_l_weighed:Nat → DF
 | 0=>fun _=>none
 | n + 1=>fnD (some 0) 4 11 (d_l_weighed (F_l_weighed n))
theorem ok_l_weighed {f:Addr} {fd:FuncData} (Fn:Fun K "_law_weighed" "_law_weighed" st_l_weighed f fd) (hm:mg "_law_weighed" = some (.ref f)) (hb:Binds K fd ["_law_box_here","_law_questions","_law_most","_law_down"] []) (D_l_take:FD P wd K mg base (1) "_law_take" (some 0) 2 F_l_take) (D_l_saying:FD P wd K mg base (13) "_law_saying" (some 0) 4 (F_l_saying fuel_l_saying)) (n:Nat):FD P wd K mg base (13 + n) "_law_weighed" (some 0) 4 (F_l_weighed n):=by
 induction n with
 | zero=>exact fd_zero Fn hm hb rfl
 | succ n ih =>
  have Drec:=ih
  exact fd_of (k:=13 + n) Fn sc_l_weighed hm hb fun cdv A outer s H E M B=>bx_cons (sx_set 4 (ex_call M B D_l_take (ax_cons (ex_var 0) (ax_cons ex_int ax_nil))) (hN:=fun _=>sc_l_weighed.nd))   (bx_cons (sx_if (tx_w (wx_or (tx_c cr_lt (ex_var 2) ex_int) (wx_or (tx_c cr_lt (ex_var 3) ex_int) (wx_or1 (tx_c (cr_eq M) (ex_var 4) ex_int))))) (bx_one (sx_ret (ex_call M B D_l_saying (ax_cons (ex_var 0) (ax_cons (ex_var 1) (ax_cons ex_int (ax_cons ex_int ax_nil))))))) bx_nil)   (bx_cons (sx_if (tx_c (cr_eq M) (ex_var 4) ex_int) (bx_one (sx_ret (ex_tup (ax_cons ex_str (ax_cons (ex_call M B Drec (ax_cons (ex_var 0) (ax_cons (ex_var 1) (ax_cons (ex_var 2) (ax_cons (ex_sub (ex_var 3) ex_int) ax_nil))))) ax_nil))))) bx_nil)   (bx_cons (sx_par3 5 6 7 M (ax_cons (ex_ix M (ex_lst (ax_cons ex_str (ax_cons ex_str ax_nil))) (ex_mod (ex_var 4) ex_int)) (ax_cons (ex_fdiv (ex_var 2) ex_int) (ax_cons (ex_tup ax_nil) ax_nil))) (hN:=fun _=>sc_l_weighed.nd))   (bx_cons (sx_if (tx_w (wx_and (tx_c (cr_eq M) (ex_var 4) ex_int) (wx_and1 (tx_c cr_gt (ex_var 2) ex_int)))) (bx_one (sx_par 5 6 M (ax_cons ex_str (ax_cons (ex_fdiv (ex_var 2) ex_int) ax_nil)) (hN:=fun _=>sc_l_weighed.nd))) bx_nil)   (bx_cons (sx_if (tx_w (wx_and (tx_c cr_lt (ex_var 4) ex_int) (wx_and1 (tx_c cr_gt (ex_var 2) ex_int)))) (bx_cons (sx_set 8 (ex_add M ex_int (ex_call M B D_l_take (ax_cons (ex_var 0) (ax_cons (ex_fdiv (ex_sub (ex_var 2) ex_int) ex_int) ax_nil)))) (hN:=fun _=>sc_l_weighed.nd))   (bx_cons (sx_par 5 6 M (ax_cons ex_str (ax_cons (ex_fdiv (ex_sub (ex_var 2) (ex_mul ex_int (ex_var 8))) ex_int) ax_nil)) (hN:=fun _=>sc_l_weighed.nd))   (bx_one (sx_set 7 (ex_tup (ax_cons (ex_call M B Drec (ax_cons (ex_var 0) (ax_cons (ex_var 1) (ax_cons (ex_var 8) (ax_cons (ex_sub (ex_var 3) ex_int) ax_nil))))) ax_nil)) (hN:=fun _=>sc_l_weighed.nd))))) bx_nil)   (bx_cons (sx_set 9 (ex_add M ex_int (ex_call M B D_l_take (ax_cons (ex_var 0) (ax_cons (ex_sub (ex_var 6) ex_int) ax_nil)))) (hN:=fun _=>sc_l_weighed.nd))   (bx_cons (sx_set 10 (ex_call M B Drec (ax_cons (ex_var 0) (ax_cons (ex_var 1) (ax_cons (ex_var 9) (ax_cons (ex_sub (ex_var 3) ex_int) ax_nil))))) (hN:=fun _=>sc_l_weighed.nd))   (bx_one (sx_ret (ex_add M (ex_tup (ax_cons (ex_var 5) (ax_cons (ex_var 10) (ax_cons (ex_call M B Drec (ax_cons (ex_var 0) (ax_cons (ex_var 1) (ax_cons (ex_sub (ex_var 6) (ex_var 9)) (ax_cons (ex_sub (ex_var 3) ex_int) ax_nil))))) ax_nil)))) (ex_var 7)))))))))))
noncomputable def d_l_weight_e1 (rec:DF):DE:=dCall none rec [] (dCons (dVar 0) dNil)
noncomputable def d_l_weight_q1 (rec:DF):DT:=dTru (dCB isiS (dCons (dVar 0) (dCons (dC (.ty "tuple")) dNil)))
noncomputable abbrev st_l_weight:Stmt:=top 24
theorem sc_l_weight:FnScope ["_law_saying_here","_law_some"] ["_law_saying_here"] (defScope st_l_weight):=⟨rfl,rfl,rfl,by decide +kernel,rfl,by decide +kernel,by decide +kernel⟩
noncomputable def d_l_weight (rec:DF):DS:=dSeq (dSet 1 (dComp none [none] (dSeqI (dSl (dVar 0) (dPart (dC (.int 1))) dNoPart)) (gdName 0) ((d_l_weight_q1 rec)) ((d_l_weight_e1 rec))))
 (dSeq (dIf (dTest (dOp (inS false) (dOp ixS (dVar 0) (dC (.int 0))) (dTup (dCons (dC (.str "yes")) (dCons (dC (.str "no")) (dCons (dC (.str "ask")) dNil)))))) (dRet (dC (.int 1))) dNext)
 (dSeq (dIf (dTest (dOp eqS (dOp ixS (dVar 0) (dC (.int 0))) (dC (.str "not")))) (dRet (dOp ixS (dVar 1) (dC (.int 0)))) dNext)
 (dSeq (dIf (dTest (dOp eqS (dOp ixS (dVar 0) (dC (.int 0))) (dC (.str "most")))) (dRet (dOp addS (dOp mulS (dC (.int 12)) (dOp addS (dOp ixS (dVar 1) (dC (.int 0))) (dOp ixS (dVar 1) (dC (.int 1))))) (dOp mulS (dC (.int 4)) (dOp ixS (dVar 1) (dC (.int 2)))))) dNext)
 (dRet (dOp mulS (dOp addS (dOp ixS (dVar 1) (dC (.int 0))) (dOp ixS (dVar 1) (dC (.int 1)))) (dOp ixS (dLst (dCons (dC (.int 2)) (dCons (dC (.int 8)) dNil))) (dCB intS (dCons (dOp eqS (dOp ixS (dVar 0) (dC (.int 0))) (dC (.str "either"))) dNil))))))))
noncomputable def F_l_weight:Nat → DF
 | 0=>fun _=>none
 | n + 1=>fnD none 1 2 (d_l_weight (F_l_weight n))
theorem ok_l_weight {f:Addr} {fd:FuncData} (Fn:Fun K "_law_weight" "_law_weight" st_l_weight f fd) (hm:mg "_law_weight" = some (.ref f)) (hb:Binds K fd ["_law_saying_here"] []) (z_int:mg "int" = none) (z_isinstance:mg "isinstance" = none) (z_tuple:mg "tuple" = none) (n:Nat):FD P wd K mg base (0 + n) "_law_weight" none 1 (F_l_weight n):=by
 induction n with
 | zero=>exact fd_zero Fn hm hb rfl
 | succ n ih =>
  have Drec:=ih
  exact fd_of (k:=0 + n) Fn sc_l_weight hm hb fun cdv A outer s H E M B=>bx_cons (sx_setC 1 none (N':=["_law_one"]) (ix:=[none]) M (fun _=>⟨rfl,by kernel_rfl⟩) (ix_seq' M (ex_sl M (ex_var 0) (ox_some ex_int) ox_none)) (gx_name 0 (hN:=fun _=>(by show (["_law_one"]:List Str).Nodup; decide +kernel))) (qx_one (tx_v M.comp (ex_cb M.comp (br_isi M.comp) z_isinstance PyProof.Rows.boot_isinstance (ax_cons (ex_var 0) (ax_cons (ex_ty M.comp z_tuple PyProof.Rows.boot_tuple) ax_nil))))) (ex_call M.comp B.comp Drec (ax_cons (ex_var 0) ax_nil)) (hix:=hix0) (hN:=fun _=>sc_l_weight.nd))   (bx_cons (sx_if (tx_c (cr_in M) (ex_ix M (ex_var 0) ex_int) (ex_tup (ax_cons ex_str (ax_cons ex_str (ax_cons ex_str ax_nil))))) (bx_one (sx_ret ex_int)) bx_nil)   (bx_cons (sx_if (tx_c (cr_eq M) (ex_ix M (ex_var 0) ex_int) ex_str) (bx_one (sx_ret (ex_ix M (ex_var 1) ex_int))) bx_nil)   (bx_cons (sx_if (tx_c (cr_eq M) (ex_ix M (ex_var 0) ex_int) ex_str) (bx_one (sx_ret (ex_add M (ex_mul ex_int (ex_add M (ex_ix M (ex_var 1) ex_int) (ex_ix M (ex_var 1) ex_int))) (ex_mul ex_int (ex_ix M (ex_var 1) ex_int))))) bx_nil)   (bx_one (sx_ret (ex_mul (ex_add M (ex_ix M (ex_var 1) ex_int) (ex_ix M (ex_var 1) ex_int)) (ex_ix M (ex_lst (ax_cons ex_int (ax_cons ex_int ax_nil))) (ex_ct M (tr_int) z_int (by decide +kernel) (ax_cons (ex_c (cr_eq M) (ex_ix M (ex_var 0) ex_int) ex_str) ax_nil)))))))))
noncomputable def d_l_many_parts_e1 (rec:DF):DE:=dCall none rec [] (dCons (dVar 0) dNil)
noncomputable def d_l_many_parts_q1 (rec:DF):DT:=dTru (dCB isiS (dCons (dVar 0) (dCons (dC (.ty "tuple")) dNil)))
noncomputable abbrev st_l_many_parts:Stmt:=top 25
theorem sc_l_many_parts:FnScope ["_law_saying_here"] ["_law_saying_here"] (defScope st_l_many_parts):=⟨rfl,rfl,rfl,by decide +kernel,rfl,by decide +kernel,by decide +kernel⟩
noncomputable def d_l_many_parts (rec:DF):DS:=dRet (dOp addS (dC (.int 1)) (dCB sumS (dCons (dComp none [none] (dSeqI (dSl (dVar 0) (dPart (dC (.int 1))) dNoPart)) (gdName 0) ((d_l_many_parts_q1 rec)) ((d_l_many_parts_e1 rec))) dNil)))
noncomputable def F_l_many_parts:Nat → DF
 | 0=>fun _=>none
 | n + 1=>fnD none 1 1 (d_l_many_parts (F_l_many_parts n))
theorem ok_l_many_parts {f:Addr} {fd:FuncData} (Fn:Fun K "_law_many_parts" "_law_many_parts" st_l_many_parts f fd) (hm:mg "_law_many_parts" = some (.ref f)) (hb:Binds K fd ["_law_saying_here"] []) (z_isinstance:mg "isinstance" = none) (z_sum:mg "sum" = none) (z_tuple:mg "tuple" = none) (n:Nat):FD P wd K mg base (0 + n) "_law_many_parts" none 1 (F_l_many_parts n):=by
 induction n with
 | zero=>exact fd_zero Fn hm hb rfl
 | succ n ih =>
  have Drec:=ih
  exact fd_of (k:=0 + n) Fn sc_l_many_parts hm hb fun cdv A outer s H E M B=>bx_one (sx_ret (ex_add M ex_int (ex_cb M (br_sum M) z_sum PyProof.Rows.boot_sum (ax_cons (ex_comp none (N':=["_law_one"]) (ix:=[none]) M (fun _=>⟨rfl,by kernel_rfl⟩) (ix_seq' M (ex_sl M (ex_var 0) (ox_some ex_int) ox_none)) (gx_name 0 (hN:=fun _=>(by show (["_law_one"]:List Str).Nodup; decide +kernel))) (qx_one (tx_v M.comp (ex_cb M.comp (br_isi M.comp) z_isinstance PyProof.Rows.boot_isinstance (ax_cons (ex_var 0) (ax_cons (ex_ty M.comp z_tuple PyProof.Rows.boot_tuple) ax_nil))))) (ex_call M.comp B.comp Drec (ax_cons (ex_var 0) ax_nil)) (hix:=hix0)) ax_nil))))
noncomputable def d_l_light_c1:DT:=dOr (dTest (dOp gtS (dCall none (F_l_weight fuel_l_weight) [] (dCons (dVar 4) dNil)) (dVar 3))) (dTest (dOp gtS (dCall none (F_l_many_parts fuel_l_many_parts) [] (dCons (dVar 4) dNil)) (dVar 2)))
noncomputable def d_l_light_b1:DS:=dSet 4 (dOp ixS (dVar 4) (dOp addS (dC (.int 1)) (dCall (some 0) F_l_take [] (dCons (dVar 0) (dCons (dOp subS (dCB lenS (dCons (dVar 4) dNil)) (dC (.int 1))) dNil)))))
noncomputable abbrev st_l_light:Stmt:=top 27
theorem sc_l_light:FnScope ["_law_box_here","_law_questions","_law_room","_law_most","_law_found"] ["_law_box_here","_law_questions","_law_room","_law_most"] (defScope st_l_light):=⟨rfl,rfl,rfl,by decide +kernel,rfl,by decide +kernel,by decide +kernel⟩
noncomputable def d_l_light:DS:=dSeq (dSet 4 (dCall (some 0) (F_l_saying fuel_l_saying) [] (dCons (dVar 0) (dCons (dVar 1) (dCons (dVar 2) (dCons (dC (.int 6)) dNil))))))
 (dSeq (dIf (dTest (dOp eqS (dCall (some 0) F_l_take [] (dCons (dVar 0) (dCons (dC (.int 2)) dNil))) (dC (.int 0)))) (dSet 4 (dCall (some 0) (F_l_weighed fuel_l_weighed) [] (dCons (dVar 0) (dCons (dVar 1) (dCons (dVar 3) (dCons (dC (.int 6)) dNil)))))) dNext)
 (dSeq (dWhile (d_l_light_c1) (d_l_light_b1) fuelX)
 (dRet (dVar 4))))
noncomputable def F_l_light:DF:=fnD (some 0) 4 5 d_l_light
theorem ok_l_light {f:Addr} {fd:FuncData} (Fn:Fun K "_law_light" "_law_light" st_l_light f fd) (hm:mg "_law_light" = some (.ref f)) (hb:Binds K fd ["_law_box_here","_law_questions","_law_room","_law_most"] []) (z_len:mg "len" = none) (D_l_take:FD P wd K mg base (1) "_law_take" (some 0) 2 F_l_take) (D_l_saying:FD P wd K mg base (13) "_law_saying" (some 0) 4 (F_l_saying fuel_l_saying)) (D_l_weighed:FD P wd K mg base (25) "_law_weighed" (some 0) 4 (F_l_weighed fuel_l_weighed)) (D_l_weight:FD P wd K mg base (12) "_law_weight" none 1 (F_l_weight fuel_l_weight)) (D_l_many_parts:FD P wd K mg base (12) "_law_many_parts" none 1 (F_l_many_parts fuel_l_many_parts)):FD P wd K mg base (26) "_law_light" (some 0) 4 F_l_light :=
 fd_of (k:=25) Fn sc_l_light hm hb fun cdv A outer s H E M B=>bx_cons (sx_set 4 (ex_call M B D_l_saying (ax_cons (ex_var 0) (ax_cons (ex_var 1) (ax_cons (ex_var 2) (ax_cons ex_int ax_nil))))) (hN:=fun _=>sc_l_light.nd))
 (bx_cons (sx_if (tx_c (cr_eq M) (ex_call M B D_l_take (ax_cons (ex_var 0) (ax_cons ex_int ax_nil))) ex_int) (bx_one (sx_set 4 (ex_call M B D_l_weighed (ax_cons (ex_var 0) (ax_cons (ex_var 1) (ax_cons (ex_var 3) (ax_cons ex_int ax_nil))))) (hN:=fun _=>sc_l_light.nd))) bx_nil)
 (bx_cons (sx_while fuelX (fun _=>PassesOwn.never) (tx_w (wx_or (tx_c cr_gt (ex_call M B D_l_weight (ax_cons (ex_var 4) ax_nil)) (ex_var 3)) (wx_or1 (tx_c cr_gt (ex_call M B D_l_many_parts (ax_cons (ex_var 4) ax_nil)) (ex_var 2))))) (bx_one (sx_set 4 (ex_ix M (ex_var 4) (ex_add M ex_int (ex_call M B D_l_take (ax_cons (ex_var 0) (ax_cons (ex_sub (ex_cb M (br_len M) z_len PySem.boot_len (ax_cons (ex_var 4) ax_nil)) ex_int) ax_nil))))) (hN:=fun _=>sc_l_light.nd))))
 (bx_one (sx_ret (ex_var 4)))))
noncomputable def d_l_all_answers_b1:DS:=dDrop (dMut 3 hExtend (dCons (dLst (dCons (dOp addS (dVar 4) (dTup (dCons (dC (.int 0)) dNil))) (dCons (dOp addS (dVar 4) (dTup (dCons (dC (.int 1)) dNil))) dNil))) dNil))
noncomputable def d_l_all_answers_b2:DS:=dSeq (dSet 3 (dLst dNil))
 (dSeq (dFor none (dSeqI (dVar 1)) (gdName 4) (d_l_all_answers_b1))
 (dMv 1 3))
noncomputable abbrev st_l_all_answers:Stmt:=top 29
theorem sc_l_all_answers:FnScope ["_law_questions","_law_found","_law_k","_law_longer","_law_answers_here"] ["_law_questions"] (defScope st_l_all_answers):=⟨rfl,rfl,rfl,by decide +kernel,rfl,by decide +kernel,by decide +kernel⟩
noncomputable def d_l_all_answers:DS:=dSeq (dSet 1 (dLst (dCons (dTup dNil) dNil)))
 (dSeq (dFor none (dRng1 (dCons (dVar 0) dNil)) (gdName 2) (d_l_all_answers_b2))
 (dRet (dVar 1)))
noncomputable def F_l_all_answers:DF:=fnD none 1 5 d_l_all_answers
theorem ok_l_all_answers {f:Addr} {fd:FuncData} (Fn:Fun K "_law_all_answers" "_law_all_answers" st_l_all_answers f fd) (hm:mg "_law_all_answers" = some (.ref f)) (hb:Binds K fd ["_law_questions"] []) (z_range:mg "range" = none):FD P wd K mg base (1) "_law_all_answers" none 1 F_l_all_answers :=
 fd_of (k:=0) Fn sc_l_all_answers hm hb fun cdv A outer s H E M B=>bx_cons (sx_set 1 (ex_lst (ax_cons (ex_tup ax_nil) ax_nil)) (hN:=fun _=>sc_l_all_answers.nd))
 (bx_cons (sx_for M (fun _=>PassesOwn.never) (ix_rng1 M z_range (ax_cons (ex_var 0) ax_nil)) (gx_name 2 (hN:=fun _=>sc_l_all_answers.nd)) (bx_cons (sx_set 3 (ex_lst ax_nil) (hN:=fun _=>sc_l_all_answers.nd))
 (bx_cons (sx_for M (fun _=>PassesOwn.never) (ix_seq' M (ex_var 1)) (gx_name 4 (hN:=fun _=>sc_l_all_answers.nd)) (bx_one (sx_expr (ex_mut M PySem.F.slot_list_extend PySem.F.type_list_extend (fun _=>mt_extend) mut_extend (pv' 3) (ax_cons (ex_lst (ax_cons (ex_add M (ex_var 4) (ex_tup (ax_cons ex_int ax_nil))) (ax_cons (ex_add M (ex_var 4) (ex_tup (ax_cons ex_int ax_nil))) ax_nil))) ax_nil)))))
 (bx_one (sx_mv 1 3 (ex_var 3) (hN:=fun _=>sc_l_all_answers.nd))))))
 (bx_one (sx_ret (ex_var 1))))
noncomputable abbrev st_p_inner:Stmt:=top 5
theorem sc_p_inner:FnScope ["saying"] ["saying"] (defScope st_p_inner):=⟨rfl,rfl,rfl,by decide +kernel,rfl,by decide +kernel,by decide +kernel⟩
noncomputable def d_p_inner:DS:=dRet (dIfE (dTest (dOp eqS (dOp ixS (dVar 0) (dC (.int 0))) (dC (.str "ask")))) (dTup dNil) (dSl (dVar 0) (dPart (dC (.int 1))) dNoPart))
noncomputable def F_p_inner:DF:=fnD none 1 1 d_p_inner
theorem ok_p_inner {f:Addr} {fd:FuncData} (Fn:Fun K "inner" "inner" st_p_inner f fd) (hm:mg "inner" = some (.ref f)) (hb:Binds K fd ["saying"] []) :FD P wd K mg base (1) "inner" none 1 F_p_inner :=
 fd_of (k:=0) Fn sc_p_inner hm hb fun cdv A outer s H E M B=>bx_one (sx_ret (ex_if (tx_c (cr_eq M) (ex_ix M (ex_var 0) ex_int) ex_str) (ex_tup ax_nil) (ex_sl M (ex_var 0) (ox_some ex_int) ox_none)))
noncomputable def d_p_all_within_c1:DT:=dTru (dVar 3)
noncomputable def d_p_all_within_b1:DS:=dSeq (dSet 4 (dMut 3 hPop dNil))
 (dSeq (dDrop (dMut 2 hAppend (dCons (dVar 4) dNil)))
 (dDrop (dMut 3 hExtend (dCons (dLRev (dCons (dCallV 1 [("inner",1,F_p_inner)] (dCons (dVar 4) dNil)) dNil)) dNil))))
noncomputable abbrev st_p_all_within:Stmt:=top 1
theorem sc_p_all_within:FnScope ["whole","inside_of","found","rest","part"] ["whole","inside_of"] (defScope st_p_all_within):=⟨rfl,rfl,rfl,by decide +kernel,rfl,by decide +kernel,by decide +kernel⟩
noncomputable def d_p_all_within:DS:=dSeq (dSet 2 (dLst dNil))
 (dSeq (dSet 3 (dLst (dCons (dVar 0) dNil)))
 (dSeq (dWhile (d_p_all_within_c1) (d_p_all_within_b1) fuelX)
 (dRet (dVar 2))))
noncomputable def F_p_all_within:DF:=fnD none 2 5 d_p_all_within
theorem ok_p_all_within {f:Addr} {fd:FuncData} (Fn:Fun K "all_within" "all_within" st_p_all_within f fd) (hm:mg "all_within" = some (.ref f)) (hb:Binds K fd ["whole","inside_of"] []) (z_list:mg "list" = none) (z_reversed:mg "reversed" = none) (D_p_inner:FD P wd K mg base (1) "inner" none 1 F_p_inner):FD P wd K mg base (2) "all_within" none 2 F_p_all_within :=
 fd_of (k:=1) Fn sc_p_all_within hm hb fun cdv A outer s H E M B=>bx_cons (sx_set 2 (ex_lst ax_nil) (hN:=fun _=>sc_p_all_within.nd))
 (bx_cons (sx_set 3 (ex_lst (ax_cons (ex_var 0) ax_nil)) (hN:=fun _=>sc_p_all_within.nd))
 (bx_cons (sx_while fuelX (fun _=>PassesOwn.never) (tx_v M (ex_var 3)) (bx_cons (sx_set 4 (ex_mut0 M PySem.F.slot_list_pop PySem.F.type_list_pop (fun _=>mt_pop) mut_pop (pv' 3)) (hN:=fun _=>sc_p_all_within.nd))
 (bx_cons (sx_expr (ex_mut M PySem.F.slot_list_append PySem.F.type_list_append (fun _=>mt_append) mut_append (pv' 2) (ax_cons (ex_var 4) ax_nil)))
 (bx_one (sx_expr (ex_mut M PySem.F.slot_list_extend PySem.F.type_list_extend (fun _=>mt_extend) mut_extend (pv' 3) (ax_cons (ex_lrev M z_list z_reversed (ax_cons (ex_callV (k':=1) 1 M B (tb_cons D_p_inner (tb_nil)) (ax_cons (ex_var 4) ax_nil)) ax_nil)) ax_nil)))))))
 (bx_one (sx_ret (ex_var 2)))))
noncomputable abbrev st_p_layers_of:Stmt:=top 10
theorem sc_p_layers_of:FnScope ["part","inside"] ["part","inside"] (defScope st_p_layers_of):=⟨rfl,rfl,rfl,by decide +kernel,rfl,by decide +kernel,by decide +kernel⟩
noncomputable def d_p_layers_of:DS:=dRet (dOp addS (dKt c_LAYERS_MORE (dOp ixS (dVar 0) (dC (.int 0)))) (dCB (maxDS 0) (dCons (dVar 1) dNil)))
noncomputable def F_p_layers_of:DF:=fnD none 2 2 d_p_layers_of
theorem ok_p_layers_of {f:Addr} {fd:FuncData} (Fn:Fun K "layers_of" "layers_of" st_p_layers_of f fd) (hm:mg "layers_of" = some (.ref f)) (hb:Binds K fd ["part","inside"] []) (z_max:mg "max" = none) (k_LAYERS_MORE:KTV wd K mg "LAYERS_MORE" c_LAYERS_MORE):FD P wd K mg base (1) "layers_of" none 2 F_p_layers_of :=
 fd_of (k:=0) Fn sc_p_layers_of hm hb fun cdv A outer s H E M B=>bx_one (sx_ret (ex_add M (ex_kt c_LAYERS_MORE M B k_LAYERS_MORE (ex_ix M (ex_var 0) ex_int)) (ex_maxd M z_max PyProof.Rows.boot_max (ax_cons (ex_var 1) ax_nil))))
noncomputable abbrev st_p_weight_of:Stmt:=top 12
theorem sc_p_weight_of:FnScope ["part","inside","word"] ["part","inside"] (defScope st_p_weight_of):=⟨rfl,rfl,rfl,by decide +kernel,rfl,by decide +kernel,by decide +kernel⟩
noncomputable def d_p_weight_of:DS:=dSeq (dSet 2 (dOp ixS (dVar 0) (dC (.int 0))))
 (dSeq (dIf (dTest (dOp eqS (dVar 2) (dC (.str "not")))) (dRet (dOp ixS (dVar 1) (dC (.int 0)))) dNext)
 (dSeq (dIf (dTest (dOp (inS false) (dVar 2) (dTup (dCons (dC (.str "and")) (dCons (dC (.str "or")) dNil))))) (dRet (dOp mulS (dC (.int 2)) (dOp addS (dOp ixS (dVar 1) (dC (.int 0))) (dOp ixS (dVar 1) (dC (.int 1)))))) dNext)
 (dSeq (dIf (dTest (dOp eqS (dVar 2) (dC (.str "either")))) (dRet (dOp mulS (dC (.int 8)) (dOp addS (dOp ixS (dVar 1) (dC (.int 0))) (dOp ixS (dVar 1) (dC (.int 1)))))) dNext)
 (dSeq (dIf (dTest (dOp eqS (dVar 2) (dC (.str "most")))) (dRet (dOp addS (dOp mulS (dC (.int 12)) (dOp addS (dOp ixS (dVar 1) (dC (.int 0))) (dOp ixS (dVar 1) (dC (.int 1))))) (dOp mulS (dC (.int 4)) (dOp ixS (dVar 1) (dC (.int 2)))))) dNext)
 (dRet (dC (.int 1)))))))
noncomputable def F_p_weight_of:DF:=fnD none 2 3 d_p_weight_of
theorem ok_p_weight_of {f:Addr} {fd:FuncData} (Fn:Fun K "weight_of" "weight_of" st_p_weight_of f fd) (hm:mg "weight_of" = some (.ref f)) (hb:Binds K fd ["part","inside"] []) :FD P wd K mg base (1) "weight_of" none 2 F_p_weight_of :=
 fd_of (k:=0) Fn sc_p_weight_of hm hb fun cdv A outer s H E M B=>bx_cons (sx_set 2 (ex_ix M (ex_var 0) ex_int) (hN:=fun _=>sc_p_weight_of.nd))
 (bx_cons (sx_if (tx_c (cr_eq M) (ex_var 2) ex_str) (bx_one (sx_ret (ex_ix M (ex_var 1) ex_int))) bx_nil)
 (bx_cons (sx_if (tx_c (cr_in M) (ex_var 2) (ex_tup (ax_cons ex_str (ax_cons ex_str ax_nil)))) (bx_one (sx_ret (ex_mul ex_int (ex_add M (ex_ix M (ex_var 1) ex_int) (ex_ix M (ex_var 1) ex_int))))) bx_nil)
 (bx_cons (sx_if (tx_c (cr_eq M) (ex_var 2) ex_str) (bx_one (sx_ret (ex_mul ex_int (ex_add M (ex_ix M (ex_var 1) ex_int) (ex_ix M (ex_var 1) ex_int))))) bx_nil)
 (bx_cons (sx_if (tx_c (cr_eq M) (ex_var 2) ex_str) (bx_one (sx_ret (ex_add M (ex_mul ex_int (ex_add M (ex_ix M (ex_var 1) ex_int) (ex_ix M (ex_var 1) ex_int))) (ex_mul ex_int (ex_ix M (ex_var 1) ex_int))))) bx_nil)
 (bx_one (sx_ret ex_int))))))
noncomputable abbrev st_p_either_or_both:Stmt:=top 16
theorem sc_p_either_or_both:FnScope ["s","t"] ["s","t"] (defScope st_p_either_or_both):=⟨rfl,rfl,rfl,by decide +kernel,rfl,by decide +kernel,by decide +kernel⟩
noncomputable def d_p_either_or_both:DS:=dRet (dTup (dCons (dC (.str "not")) (dCons (dTup (dCons (dC (.str "and")) (dCons (dTup (dCons (dC (.str "not")) (dCons (dVar 0) dNil))) (dCons (dTup (dCons (dC (.str "not")) (dCons (dVar 1) dNil))) dNil)))) dNil)))
noncomputable def F_p_either_or_both:DF:=fnD none 2 2 d_p_either_or_both
theorem ok_p_either_or_both {f:Addr} {fd:FuncData} (Fn:Fun K "either_or_both" "either_or_both" st_p_either_or_both f fd) (hm:mg "either_or_both" = some (.ref f)) (hb:Binds K fd ["s","t"] []) :FD P wd K mg base (1) "either_or_both" none 2 F_p_either_or_both :=
 fd_of (k:=0) Fn sc_p_either_or_both hm hb fun cdv A outer s H E M B=>bx_one (sx_ret (ex_tup (ax_cons ex_str (ax_cons (ex_tup (ax_cons ex_str (ax_cons (ex_tup (ax_cons ex_str (ax_cons (ex_var 0) ax_nil))) (ax_cons (ex_tup (ax_cons ex_str (ax_cons (ex_var 1) ax_nil))) ax_nil)))) ax_nil))))
noncomputable abbrev st_p_spelled_of:Stmt:=top 17
theorem sc_p_spelled_of:FnScope ["part","inside","word","s","t"] ["part","inside"] (defScope st_p_spelled_of):=⟨rfl,rfl,rfl,by decide +kernel,rfl,by decide +kernel,by decide +kernel⟩
noncomputable def d_p_spelled_of:DS:=dSeq (dSet 2 (dOp ixS (dVar 0) (dC (.int 0))))
 (dSeq (dIf (dTest (dOp (inS false) (dVar 2) (dTup (dCons (dC (.str "yes")) (dCons (dC (.str "no")) (dCons (dC (.str "ask")) dNil)))))) (dRet (dVar 0)) dNext)
 (dSeq (dIf (dTest (dOp eqS (dVar 2) (dC (.str "or")))) (dRet (dCall none F_p_either_or_both [] (dCons (dOp ixS (dVar 1) (dC (.int 0))) (dCons (dOp ixS (dVar 1) (dC (.int 1))) dNil)))) dNext)
 (dSeq (dIf (dTest (dOp eqS (dVar 2) (dC (.str "either")))) (dSeq (dSet 3 (dOp ixS (dVar 1) (dC (.int 0))))
 (dSeq (dSet 4 (dOp ixS (dVar 1) (dC (.int 1))))
 (dRet (dCall none F_p_either_or_both [] (dCons (dTup (dCons (dC (.str "and")) (dCons (dVar 3) (dCons (dTup (dCons (dC (.str "not")) (dCons (dVar 4) dNil))) dNil)))) (dCons (dTup (dCons (dC (.str "and")) (dCons (dTup (dCons (dC (.str "not")) (dCons (dVar 3) dNil))) (dCons (dVar 4) dNil)))) dNil)))))) dNext)
 (dSeq (dIf (dTest (dOp eqS (dVar 2) (dC (.str "most")))) (dSeq (dSet 3 (dOp ixS (dVar 1) (dC (.int 0))))
 (dSeq (dSet 4 (dOp ixS (dVar 1) (dC (.int 1))))
 (dRet (dCall none F_p_either_or_both [] (dCons (dTup (dCons (dC (.str "and")) (dCons (dVar 3) (dCons (dVar 4) dNil)))) (dCons (dTup (dCons (dC (.str "and")) (dCons (dOp ixS (dVar 1) (dC (.int 2))) (dCons (dCall none F_p_either_or_both [] (dCons (dVar 3) (dCons (dVar 4) dNil))) dNil)))) dNil)))))) dNext)
 (dRet (dCB tupleS (dCons (dOp addS (dLst (dCons (dVar 2) dNil)) (dVar 1)) dNil)))))))
noncomputable def F_p_spelled_of:DF:=fnD none 2 5 d_p_spelled_of
theorem ok_p_spelled_of {f:Addr} {fd:FuncData} (Fn:Fun K "spelled_of" "spelled_of" st_p_spelled_of f fd) (hm:mg "spelled_of" = some (.ref f)) (hb:Binds K fd ["part","inside"] []) (z_tuple:mg "tuple" = none) (D_p_either_or_both:FD P wd K mg base (1) "either_or_both" none 2 F_p_either_or_both):FD P wd K mg base (2) "spelled_of" none 2 F_p_spelled_of :=
 fd_of (k:=1) Fn sc_p_spelled_of hm hb fun cdv A outer s H E M B=>bx_cons (sx_set 2 (ex_ix M (ex_var 0) ex_int) (hN:=fun _=>sc_p_spelled_of.nd))
 (bx_cons (sx_if (tx_c (cr_in M) (ex_var 2) (ex_tup (ax_cons ex_str (ax_cons ex_str (ax_cons ex_str ax_nil))))) (bx_one (sx_ret (ex_var 0))) bx_nil)
 (bx_cons (sx_if (tx_c (cr_eq M) (ex_var 2) ex_str) (bx_one (sx_ret (ex_call M B D_p_either_or_both (ax_cons (ex_ix M (ex_var 1) ex_int) (ax_cons (ex_ix M (ex_var 1) ex_int) ax_nil))))) bx_nil)
 (bx_cons (sx_if (tx_c (cr_eq M) (ex_var 2) ex_str) (bx_cons (sx_set 3 (ex_ix M (ex_var 1) ex_int) (hN:=fun _=>sc_p_spelled_of.nd))
 (bx_cons (sx_set 4 (ex_ix M (ex_var 1) ex_int) (hN:=fun _=>sc_p_spelled_of.nd))
 (bx_one (sx_ret (ex_call M B D_p_either_or_both (ax_cons (ex_tup (ax_cons ex_str (ax_cons (ex_var 3) (ax_cons (ex_tup (ax_cons ex_str (ax_cons (ex_var 4) ax_nil))) ax_nil)))) (ax_cons (ex_tup (ax_cons ex_str (ax_cons (ex_tup (ax_cons ex_str (ax_cons (ex_var 3) ax_nil))) (ax_cons (ex_var 4) ax_nil)))) ax_nil))))))) bx_nil)
 (bx_cons (sx_if (tx_c (cr_eq M) (ex_var 2) ex_str) (bx_cons (sx_set 3 (ex_ix M (ex_var 1) ex_int) (hN:=fun _=>sc_p_spelled_of.nd))
 (bx_cons (sx_set 4 (ex_ix M (ex_var 1) ex_int) (hN:=fun _=>sc_p_spelled_of.nd))
 (bx_one (sx_ret (ex_call M B D_p_either_or_both (ax_cons (ex_tup (ax_cons ex_str (ax_cons (ex_var 3) (ax_cons (ex_var 4) ax_nil)))) (ax_cons (ex_tup (ax_cons ex_str (ax_cons (ex_ix M (ex_var 1) ex_int) (ax_cons (ex_call M B D_p_either_or_both (ax_cons (ex_var 3) (ax_cons (ex_var 4) ax_nil))) ax_nil)))) ax_nil))))))) bx_nil)
 (bx_one (sx_ret (ex_ct M (tr_tuple M) z_tuple PyProof.Rows.boot_tuple (ax_cons (ex_add M (ex_lst (ax_cons (ex_var 2) ax_nil)) (ex_var 1)) ax_nil))))))))
noncomputable abbrev st_p_so_by:Stmt:=top 8
theorem sc_p_so_by:FnScope ["answers","part","inside","word"] ["answers","part","inside"] (defScope st_p_so_by):=⟨rfl,rfl,rfl,by decide +kernel,rfl,by decide +kernel,by decide +kernel⟩
noncomputable def d_p_so_by:DS:=dSeq (dSet 3 (dOp ixS (dVar 1) (dC (.int 0))))
 (dSeq (dIf (dTest (dOp eqS (dVar 3) (dC (.str "ask")))) (dRet (dOp eqS (dOp ixS (dVar 0) (dOp ixS (dVar 1) (dC (.int 1)))) (dC (.int 1)))) dNext)
 (dSeq (dIf (dTest (dOp eqS (dVar 3) (dC (.str "not")))) (dRet (dNotV (dOp ixS (dVar 2) (dC (.int 0))))) dNext)
 (dSeq (dIf (dTest (dOp eqS (dVar 3) (dC (.str "and")))) (dRet (dAndV (dOp ixS (dVar 2) (dC (.int 0))) (dOp ixS (dVar 2) (dC (.int 1))))) dNext)
 (dSeq (dIf (dTest (dOp eqS (dVar 3) (dC (.str "or")))) (dRet (dOrV (dOp ixS (dVar 2) (dC (.int 0))) (dOp ixS (dVar 2) (dC (.int 1))))) dNext)
 (dSeq (dIf (dTest (dOp eqS (dVar 3) (dC (.str "either")))) (dRet (dOp neS (dOp ixS (dVar 2) (dC (.int 0))) (dOp ixS (dVar 2) (dC (.int 1))))) dNext)
 (dSeq (dIf (dTest (dOp eqS (dVar 3) (dC (.str "most")))) (dRet (dOp geS (dLFind gCount (dVar 2) (dCons (dC (.bl true)) dNil)) (dC (.int 2)))) dNext)
 (dRet (dOp eqS (dVar 3) (dC (.str "yes"))))))))))
noncomputable def F_p_so_by:DF:=fnD none 3 4 d_p_so_by
theorem ok_p_so_by {f:Addr} {fd:FuncData} (Fn:Fun K "so_by" "so_by" st_p_so_by f fd) (hm:mg "so_by" = some (.ref f)) (hb:Binds K fd ["answers","part","inside"] []) :FD P wd K mg base (1) "so_by" none 3 F_p_so_by :=
 fd_of (k:=0) Fn sc_p_so_by hm hb fun cdv A outer s H E M B=>bx_cons (sx_set 3 (ex_ix M (ex_var 1) ex_int) (hN:=fun _=>sc_p_so_by.nd))
 (bx_cons (sx_if (tx_c (cr_eq M) (ex_var 3) ex_str) (bx_one (sx_ret (ex_c (cr_eq M) (ex_ix M (ex_var 0) (ex_ix M (ex_var 1) ex_int)) ex_int))) bx_nil)
 (bx_cons (sx_if (tx_c (cr_eq M) (ex_var 3) ex_str) (bx_one (sx_ret (ex_not (ex_ix M (ex_var 2) ex_int)))) bx_nil)
 (bx_cons (sx_if (tx_c (cr_eq M) (ex_var 3) ex_str) (bx_one (sx_ret (ex_and (ex_ix M (ex_var 2) ex_int) (ex_one (ex_ix M (ex_var 2) ex_int))))) bx_nil)
 (bx_cons (sx_if (tx_c (cr_eq M) (ex_var 3) ex_str) (bx_one (sx_ret (ex_or (ex_ix M (ex_var 2) ex_int) (ex_one (ex_ix M (ex_var 2) ex_int))))) bx_nil)
 (bx_cons (sx_if (tx_c (cr_eq M) (ex_var 3) ex_str) (bx_one (sx_ret (ex_c (cr_ne M) (ex_ix M (ex_var 2) ex_int) (ex_ix M (ex_var 2) ex_int)))) bx_nil)
 (bx_cons (sx_if (tx_c (cr_eq M) (ex_var 3) ex_str) (bx_one (sx_ret (ex_c cr_ge (ex_lfind M PySem.F.slot_list_count PySem.F.type_list_count (fun j=>mt_lcount (M.room j)) (ex_var 2) (ax_cons ex_bl ax_nil)) ex_int))) bx_nil)
 (bx_one (sx_ret (ex_c (cr_eq M) (ex_var 3) ex_str)))))))))
noncomputable abbrev st_p_is_so:Stmt:=top 9
noncomputable def lamE (s:Stmt):Expr:=match defBody s with
 | [.Return (some (.Call _ [_,l] _ _)) _]=>l
 | _=>.Name "" ⟨0,0,0,0⟩
noncomputable def L_so:Lam:=match lamE st_p_is_so with
 | .Lambda ps b sc _=>⟨ps,b,sc,"is_so.<locals>.<lambda>","answers"⟩
 | e=>⟨defArgs st_p_is_so,e,defScope st_p_is_so,"",""⟩
theorem sc_lam:LamScope L_so "part" "inside":=⟨rfl,rfl,rfl,by decide +kernel,rfl,rfl,rfl,fun y h=>(show ∀ q ∈ L_so.scope.names,q.2 = NameKind.free → q.1 = L_so.x by decide +kernel) (y,.free) (PySem.mem_of_lookup h) rfl,by decide,fun _ _ _ _ _ _=>rfl⟩
noncomputable def d_lam:DE:=dCall none F_p_so_by [] (dCons (dVar 2) (dCons (dVar 0) (dCons (dVar 1) dNil)))
theorem ok_lam (D_p_so_by:FD P wd K mg base (1) "so_by" none 3 F_p_so_by):LD P wd K mg base (1) L_so d_lam:=⟨"part","inside",sc_lam,fun f c cd A outer s H hr=>by
 have M:Fm K mg 1 (fun _:Unit=>cxLam P wd K mg base L_so "part" "inside" f cd c A outer s H):=⟨fun _=>rfl,fun _=>rfl,fun _=>rfl,fun _=>hr⟩
 have B:Fb P wd base (fun _:Unit=>cxLam P wd K mg base L_so "part" "inside" f cd c A outer s H):=⟨fun _=>rfl,fun _=>rfl,fun _=>rfl⟩
 obtain ⟨t,p,u⟩:=(show EX K (fun _:Unit=>cxLam P wd K mg base L_so "part" "inside" f cd c A outer s H) L_so.body d_lam from ex_call M B D_p_so_by (ax_cons (ex_var 2) (ax_cons (ex_var 0) (ax_cons (ex_var 1) ax_nil))))
 exact ⟨t,p (),u⟩⟩
noncomputable def d_p_fold_within_e1:DE:=dMut 1 hPop dNil
noncomputable def d_p_fold_within_b1:DS:=dSeq (dSet 5 (dComp (some (1,3)) [none,some 3] (dSeqI (dCallV 1 [("inner",1,F_p_inner)] (dCons (dVar 4) dNil))) (gdName 0) dYes (d_p_fold_within_e1)))
 (dDrop (dMut 3 hAppend (dCons (dCallM 2 [("layers_of",2,F_p_layers_of),("weight_of",2,F_p_weight_of),("spelled_of",2,F_p_spelled_of)] L_so d_lam (dCons (dVar 4) (dCons (dVar 5) dNil))) dNil)))
noncomputable abbrev st_p_fold_within:Stmt:=top 2
theorem sc_p_fold_within:FnScope ["whole","inside_of","put","told","part","inside"] ["whole","inside_of","put"] (defScope st_p_fold_within):=⟨rfl,rfl,rfl,by decide +kernel,rfl,by decide +kernel,by decide +kernel⟩
noncomputable def d_p_fold_within:DS:=dSeq (dSet 3 (dLst dNil))
 (dSeq (dFor none (dRevL (dCons (dCall none F_p_all_within [] (dCons (dVar 0) (dCons (dVar 1) dNil))) dNil)) (gdName 4) (d_p_fold_within_b1))
 (dRet (dOp ixS (dVar 3) (dC (.int 0)))))
noncomputable def F_p_fold_within:DF:=fnD none 3 6 d_p_fold_within
theorem ok_p_fold_within {f:Addr} {fd:FuncData} (Fn:Fun K "fold_within" "fold_within" st_p_fold_within f fd) (hm:mg "fold_within" = some (.ref f)) (hb:Binds K fd ["whole","inside_of","put"] []) (z_reversed:mg "reversed" = none) (D_p_inner:FD P wd K mg base (1) "inner" none 1 F_p_inner) (D_p_all_within:FD P wd K mg base (2) "all_within" none 2 F_p_all_within) (D_p_layers_of:FD P wd K mg base (1) "layers_of" none 2 F_p_layers_of) (D_p_weight_of:FD P wd K mg base (1) "weight_of" none 2 F_p_weight_of) (D_p_spelled_of:FD P wd K mg base (2) "spelled_of" none 2 F_p_spelled_of) (D_p_so_by:FD P wd K mg base (1) "so_by" none 3 F_p_so_by):FD P wd K mg base (4) "fold_within" none 3 F_p_fold_within :=
 fd_of (k:=3) Fn sc_p_fold_within hm hb fun cdv A outer s H E M B=>bx_cons (sx_set 3 (ex_lst ax_nil) (hN:=fun _=>sc_p_fold_within.nd))
 (bx_cons (sx_for M (fun _=>PassesOwn.never) (ix_revL M z_reversed (ax_cons (ex_call M B D_p_all_within (ax_cons (ex_var 0) (ax_cons (ex_var 1) ax_nil))) ax_nil)) (gx_name 4 (hN:=fun _=>sc_p_fold_within.nd)) (bx_cons (sx_setC 5 (some (1,3)) (N':=["one","told"]) (ix:=[none,some 3]) M (fun _=>⟨rfl,by kernel_rfl⟩) (ix_seq' M (ex_callV (k':=1) 1 M B (tb_cons D_p_inner (tb_nil)) (ax_cons (ex_var 4) ax_nil))) (gx_name 0 (hN:=fun _=>(by show (["one","told"]:List Str).Nodup; decide +kernel))) qx_nil (ex_mut0 M.comp PySem.F.slot_list_pop PySem.F.type_list_pop (fun _=>mt_pop) mut_pop (pv' 1)) (hix:=hix1 (by decide)) (hN:=fun _=>sc_p_fold_within.nd))
 (bx_one (sx_expr (ex_mut M PySem.F.slot_list_append PySem.F.type_list_append (fun _=>mt_append) mut_append (pv' 3) (ax_cons (ex_callM (k':=2) 2 M B (tb_cons D_p_layers_of (tb_cons D_p_weight_of (tb_cons D_p_spelled_of (tb_nil)))) ((ok_lam D_p_so_by).mono (by decide)) (ax_cons (ex_var 4) (ax_cons (ex_var 5) ax_nil))) ax_nil))))))
 (bx_one (sx_ret (ex_ix M (ex_var 3) ex_int))))
noncomputable abbrev st_p_folded:Stmt:=top 7
theorem sc_p_folded:FnScope ["saying","put"] ["saying","put"] (defScope st_p_folded):=⟨rfl,rfl,rfl,by decide +kernel,rfl,by decide +kernel,by decide +kernel⟩
noncomputable def d_p_folded:DS:=dRet (dCall none F_p_fold_within [] (dCons (dVar 0) (dCons (dFn "inner") (dCons (dVar 1) dNil))))
noncomputable def F_p_folded:DF:=fnD none 2 2 d_p_folded
theorem ok_p_folded {f:Addr} {fd:FuncData} (Fn:Fun K "folded" "folded" st_p_folded f fd) (hm:mg "folded" = some (.ref f)) (hb:Binds K fd ["saying","put"] []) (n_inner:NK K mg "inner") (D_p_fold_within:FD P wd K mg base (4) "fold_within" none 3 F_p_fold_within):FD P wd K mg base (5) "folded" none 2 F_p_folded :=
 fd_of (k:=4) Fn sc_p_folded hm hb fun cdv A outer s H E M B=>bx_one (sx_ret (ex_call M B D_p_fold_within (ax_cons (ex_var 0) (ax_cons (ex_fn M n_inner) (ax_cons (ex_var 1) ax_nil)))))
noncomputable abbrev st_p_spelled:Stmt:=top 18
theorem sc_p_spelled:FnScope ["saying"] ["saying"] (defScope st_p_spelled):=⟨rfl,rfl,rfl,by decide +kernel,rfl,by decide +kernel,by decide +kernel⟩
noncomputable def d_p_spelled:DS:=dRet (dCall none F_p_folded [] (dCons (dVar 0) (dCons (dFn "spelled_of") dNil)))
noncomputable def F_p_spelled:DF:=fnD none 1 1 d_p_spelled
theorem ok_p_spelled {f:Addr} {fd:FuncData} (Fn:Fun K "spelled" "spelled" st_p_spelled f fd) (hm:mg "spelled" = some (.ref f)) (hb:Binds K fd ["saying"] []) (n_spelled_of:NK K mg "spelled_of") (D_p_folded:FD P wd K mg base (5) "folded" none 2 F_p_folded):FD P wd K mg base (6) "spelled" none 1 F_p_spelled :=
 fd_of (k:=5) Fn sc_p_spelled hm hb fun cdv A outer s H E M B=>bx_one (sx_ret (ex_call M B D_p_folded (ax_cons (ex_var 0) (ax_cons (ex_fn M n_spelled_of) ax_nil))))
noncomputable abbrev st_p_weight:Stmt:=top 13
theorem sc_p_weight:FnScope ["saying"] ["saying"] (defScope st_p_weight):=⟨rfl,rfl,rfl,by decide +kernel,rfl,by decide +kernel,by decide +kernel⟩
noncomputable def d_p_weight:DS:=dRet (dCall none F_p_folded [] (dCons (dVar 0) (dCons (dFn "weight_of") dNil)))
noncomputable def F_p_weight:DF:=fnD none 1 1 d_p_weight
theorem ok_p_weight {f:Addr} {fd:FuncData} (Fn:Fun K "weight" "weight" st_p_weight f fd) (hm:mg "weight" = some (.ref f)) (hb:Binds K fd ["saying"] []) (n_weight_of:NK K mg "weight_of") (D_p_folded:FD P wd K mg base (5) "folded" none 2 F_p_folded):FD P wd K mg base (6) "weight" none 1 F_p_weight :=
 fd_of (k:=5) Fn sc_p_weight hm hb fun cdv A outer s H E M B=>bx_one (sx_ret (ex_call M B D_p_folded (ax_cons (ex_var 0) (ax_cons (ex_fn M n_weight_of) ax_nil))))
noncomputable def d_l_plain_e1 (rec:DF):DE:=dCall none rec [] (dCons (dVar 0) dNil)
noncomputable abbrev st_l_plain:Stmt:=top 30
theorem sc_l_plain:FnScope ["_law_saying_here"] ["_law_saying_here"] (defScope st_l_plain):=⟨rfl,rfl,rfl,by decide +kernel,rfl,by decide +kernel,by decide +kernel⟩
noncomputable def d_l_plain (rec:DF):DS:=dSeq (dIf (dTest (dOp (inS false) (dOp ixS (dVar 0) (dC (.int 0))) (dTup (dCons (dC (.str "yes")) (dCons (dC (.str "no")) (dCons (dC (.str "ask")) dNil)))))) (dRet (dC (.bl true))) dNext)
 (dRet (dAndV (dOp (inS false) (dOp ixS (dVar 0) (dC (.int 0))) (dTup (dCons (dC (.str "not")) (dCons (dC (.str "and")) dNil)))) (dCB allS (dCons (dComp none [none] (dSeqI (dSl (dVar 0) (dPart (dC (.int 1))) dNoPart)) (gdName 0) dYes ((d_l_plain_e1 rec))) dNil))))
noncomputable def F_l_plain:Nat → DF
 | 0=>fun _=>none
 | n + 1=>fnD none 1 1 (d_l_plain (F_l_plain n))
theorem ok_l_plain {f:Addr} {fd:FuncData} (Fn:Fun K "_law_plain" "_law_plain" st_l_plain f fd) (hm:mg "_law_plain" = some (.ref f)) (hb:Binds K fd ["_law_saying_here"] []) (z_all:mg "all" = none) (n:Nat):FD P wd K mg base (0 + n) "_law_plain" none 1 (F_l_plain n):=by
 induction n with
 | zero=>exact fd_zero Fn hm hb rfl
 | succ n ih =>
  have Drec:=ih
  exact fd_of (k:=0 + n) Fn sc_l_plain hm hb fun cdv A outer s H E M B=>bx_cons (sx_if (tx_c (cr_in M) (ex_ix M (ex_var 0) ex_int) (ex_tup (ax_cons ex_str (ax_cons ex_str (ax_cons ex_str ax_nil))))) (bx_one (sx_ret ex_bl)) bx_nil)   (bx_one (sx_ret (ex_and (ex_c (cr_in M) (ex_ix M (ex_var 0) ex_int) (ex_tup (ax_cons ex_str (ax_cons ex_str ax_nil)))) (ex_one (ex_cb M (br_all M) z_all PyProof.Rows.boot_all (ax_cons (ex_comp none (N':=["_law_one"]) (ix:=[none]) M (fun _=>⟨rfl,by kernel_rfl⟩) (ix_seq' M (ex_sl M (ex_var 0) (ox_some ex_int) ox_none)) (gx_name 0 (hN:=fun _=>(by show (["_law_one"]:List Str).Nodup; decide +kernel))) qx_nil (ex_call M.comp B.comp Drec (ax_cons (ex_var 0) ax_nil)) (hix:=hix0)) ax_nil))))))
noncomputable abbrev st_p_all_parts:Stmt:=top 6
theorem sc_p_all_parts:FnScope ["saying"] ["saying"] (defScope st_p_all_parts):=⟨rfl,rfl,rfl,by decide +kernel,rfl,by decide +kernel,by decide +kernel⟩
noncomputable def d_p_all_parts:DS:=dRet (dCall none F_p_all_within [] (dCons (dVar 0) (dCons (dFn "inner") dNil)))
noncomputable def F_p_all_parts:DF:=fnD none 1 1 d_p_all_parts
theorem ok_p_all_parts {f:Addr} {fd:FuncData} (Fn:Fun K "all_parts" "all_parts" st_p_all_parts f fd) (hm:mg "all_parts" = some (.ref f)) (hb:Binds K fd ["saying"] []) (n_inner:NK K mg "inner") (D_p_all_within:FD P wd K mg base (2) "all_within" none 2 F_p_all_within):FD P wd K mg base (3) "all_parts" none 1 F_p_all_parts :=
 fd_of (k:=2) Fn sc_p_all_parts hm hb fun cdv A outer s H E M B=>bx_one (sx_ret (ex_call M B D_p_all_within (ax_cons (ex_var 0) (ax_cons (ex_fn M n_inner) ax_nil))))
noncomputable def d_p_questions_in_e1:DE:=dOp ixS (dVar 0) (dC (.int 1))
noncomputable def d_p_questions_in_q1:DT:=dTest (dOp eqS (dOp ixS (dVar 0) (dC (.int 0))) (dC (.str "ask")))
noncomputable abbrev st_p_questions_in:Stmt:=top 14
theorem sc_p_questions_in:FnScope ["saying"] ["saying"] (defScope st_p_questions_in):=⟨rfl,rfl,rfl,by decide +kernel,rfl,by decide +kernel,by decide +kernel⟩
noncomputable def d_p_questions_in:DS:=dRet (dSortSet (dCons (dComp none [none] (dSeqI (dCall none F_p_all_parts [] (dCons (dVar 0) dNil))) (gdName 0) (d_p_questions_in_q1) (d_p_questions_in_e1)) dNil))
noncomputable def F_p_questions_in:DF:=fnD none 1 1 d_p_questions_in
theorem ok_p_questions_in {f:Addr} {fd:FuncData} (Fn:Fun K "questions_in" "questions_in" st_p_questions_in f fd) (hm:mg "questions_in" = some (.ref f)) (hb:Binds K fd ["saying"] []) (z_set:mg "set" = none) (z_sorted:mg "sorted" = none) (D_p_all_parts:FD P wd K mg base (3) "all_parts" none 1 F_p_all_parts):FD P wd K mg base (4) "questions_in" none 1 F_p_questions_in :=
 fd_of (k:=3) Fn sc_p_questions_in hm hb fun cdv A outer s H E M B=>bx_one (sx_ret (ex_sortSet M B z_sorted z_set (ax_cons (ex_comp none (N':=["part"]) (ix:=[none]) M (fun _=>⟨rfl,by kernel_rfl⟩) (ix_seq' M (ex_call M B D_p_all_parts (ax_cons (ex_var 0) ax_nil))) (gx_name 0 (hN:=fun _=>(by show (["part"]:List Str).Nodup; decide +kernel))) (qx_one (tx_c (cr_eq M.comp) (ex_ix M.comp (ex_var 0) ex_int) ex_str)) (ex_ix M.comp (ex_var 0) ex_int) (hix:=hix0)) ax_nil)))
noncomputable abbrev st_p_layers:Stmt:=top 11
theorem sc_p_layers:FnScope ["saying"] ["saying"] (defScope st_p_layers):=⟨rfl,rfl,rfl,by decide +kernel,rfl,by decide +kernel,by decide +kernel⟩
noncomputable def d_p_layers:DS:=dRet (dCall none F_p_folded [] (dCons (dVar 0) (dCons (dFn "layers_of") dNil)))
noncomputable def F_p_layers:DF:=fnD none 1 1 d_p_layers
theorem ok_p_layers {f:Addr} {fd:FuncData} (Fn:Fun K "layers" "layers" st_p_layers f fd) (hm:mg "layers" = some (.ref f)) (hb:Binds K fd ["saying"] []) (n_layers_of:NK K mg "layers_of") (D_p_folded:FD P wd K mg base (5) "folded" none 2 F_p_folded):FD P wd K mg base (6) "layers" none 1 F_p_layers :=
 fd_of (k:=5) Fn sc_p_layers hm hb fun cdv A outer s H E M B=>bx_one (sx_ret (ex_call M B D_p_folded (ax_cons (ex_var 0) (ax_cons (ex_fn M n_layers_of) ax_nil))))
noncomputable def F_p_is_so:DF:=fnD none 2 2 (dRet (dHand F_p_folded L_so))
theorem sc_p_is_so:FnScope ["saying","answers"] ["saying","answers"] (defScope st_p_is_so):=⟨rfl,rfl,rfl,by decide +kernel,rfl,by decide +kernel,by decide +kernel⟩
theorem hcl_so {f:Addr} {cdv:Value} {n:Nat} (c:Addr) (h:(PyProof.Rows.envOfC "is_so" (defScope st_p_is_so) n f cdv).cells.lookup L_so.x = some c):closureFor L_so.scope (PyProof.Rows.envOfC "is_so" (defScope st_p_is_so) n f cdv) = pure [(L_so.x,c)]:=by
 cases h
 rfl
theorem ok_p_is_so {f:Addr} {fd:FuncData} (Fn:Fun K "is_so" "is_so" st_p_is_so f fd) (hm:mg "is_so" = some (.ref f)) (hb:Binds K fd ["saying","answers"] []) (tab_p_is_so:TabAt K fd) (D_p_folded:FD P wd K mg base (5) "folded" none 2 F_p_folded):FD P wd K mg base (6) "is_so" none 2 F_p_is_so:=by
 refine ⟨⟨f,fd,["saying","answers"],fo_ofC (k:=5) Fn sc_p_is_so fun cdv A outer s H E hc M B=>bx_one (sx_ret ?_),hm,Fn.kp,hb⟩,fnD_len⟩
 refine ex_hand (L:=L_so) (x:="folded") (y:="saying") M B D_p_folded tab_p_is_so hc ?a1 ?a2 ?a3 ?a4 ?a5 ?a6 ?a7 ?a8 ?a9 ?a10 ?a11 ?a12 ?a13 ?a14 ?a15 ?a16
 case a1=>exact fun _=>rfl
 case a2=>decide
 case a4=>exact fun _ c h=>hcl_so c h
 case a7=>exact fun _=>pv 0
 case a11=>rfl
 case a13=>decide
 all_goals (intro _; rfl)
noncomputable def d_l_right_e1:DE:=dOp eqS (dCall none F_p_is_so [] (dCons (dVar 1) (dCons (dVar 0) dNil))) (dCall none F_p_is_so [] (dCons (dVar 2) (dCons (dVar 0) dNil)))
noncomputable abbrev st_l_right:Stmt:=top 31
theorem sc_l_right:FnScope ["_law_saying_here","_law_rows","_law_found"] ["_law_saying_here","_law_rows"] (defScope st_l_right):=⟨rfl,rfl,rfl,by decide +kernel,rfl,by decide +kernel,by decide +kernel⟩
noncomputable def d_l_right:DS:=dSeq (dSet 2 (dCall none F_p_spelled [] (dCons (dVar 0) dNil)))
 (dSeq (dIf (dOr (dNot (dTru (dCall none (F_l_plain fuel_l_plain) [] (dCons (dVar 2) dNil)))) (dOr (dTest (dOp neS (dCall none F_p_weight [] (dCons (dVar 2) dNil)) (dCall none F_p_weight [] (dCons (dVar 0) dNil)))) (dTest (dOp neS (dCall none F_p_questions_in [] (dCons (dVar 2) dNil)) (dCall none F_p_questions_in [] (dCons (dVar 0) dNil)))))) (dRet (dC (.bl false))) dNext)
 (dSeq (dIf (dTest (dOp ltS (dOp shlS (dC (.int 1)) (dOp mulS (dC (.int 2)) (dCall none F_p_layers [] (dCons (dVar 2) dNil)))) (dCall none F_p_weight [] (dCons (dVar 0) dNil)))) (dRet (dC (.bl false))) dNext)
 (dRet (dCB allS (dCons (dComp none [none,some 2,some 0] (dSeqI (dVar 1)) (gdName 0) dYes (d_l_right_e1)) dNil)))))
noncomputable def F_l_right:DF:=fnD none 2 3 d_l_right
theorem ok_l_right {f:Addr} {fd:FuncData} (Fn:Fun K "_law_right" "_law_right" st_l_right f fd) (hm:mg "_law_right" = some (.ref f)) (hb:Binds K fd ["_law_saying_here","_law_rows"] []) (z_all:mg "all" = none) (D_p_spelled:FD P wd K mg base (6) "spelled" none 1 F_p_spelled) (D_p_weight:FD P wd K mg base (6) "weight" none 1 F_p_weight) (D_l_plain:FD P wd K mg base (50) "_law_plain" none 1 (F_l_plain fuel_l_plain)) (D_p_questions_in:FD P wd K mg base (4) "questions_in" none 1 F_p_questions_in) (D_p_layers:FD P wd K mg base (6) "layers" none 1 F_p_layers) (D_p_is_so:FD P wd K mg base (6) "is_so" none 2 F_p_is_so):FD P wd K mg base (51) "_law_right" none 2 F_l_right :=
 fd_of (k:=50) Fn sc_l_right hm hb fun cdv A outer s H E M B=>bx_cons (sx_set 2 (ex_call M B D_p_spelled (ax_cons (ex_var 0) ax_nil)) (hN:=fun _=>sc_l_right.nd))
 (bx_cons (sx_if (tx_w (wx_or (tx_not (tx_v M (ex_call M B D_l_plain (ax_cons (ex_var 2) ax_nil)))) (wx_or (tx_c (cr_ne M) (ex_call M B D_p_weight (ax_cons (ex_var 2) ax_nil)) (ex_call M B D_p_weight (ax_cons (ex_var 0) ax_nil))) (wx_or1 (tx_c (cr_ne M) (ex_call M B D_p_questions_in (ax_cons (ex_var 2) ax_nil)) (ex_call M B D_p_questions_in (ax_cons (ex_var 0) ax_nil))))))) (bx_one (sx_ret ex_bl)) bx_nil)
 (bx_cons (sx_if (tx_c cr_lt (ex_shl ex_int (ex_mul ex_int (ex_call M B D_p_layers (ax_cons (ex_var 2) ax_nil)))) (ex_call M B D_p_weight (ax_cons (ex_var 0) ax_nil))) (bx_one (sx_ret ex_bl)) bx_nil)
 (bx_one (sx_ret (ex_cb M (br_all M) z_all PyProof.Rows.boot_all (ax_cons (ex_comp none (N':=["_law_answers_here","_law_found","_law_saying_here"]) (ix:=[none,some 2,some 0]) M (fun _=>⟨rfl,by kernel_rfl⟩) (ix_seq' M (ex_var 1)) (gx_name 0 (hN:=fun _=>(by show (["_law_answers_here","_law_found","_law_saying_here"]:List Str).Nodup; decide +kernel))) qx_nil (ex_c (cr_eq M.comp) (ex_call M.comp B.comp D_p_is_so (ax_cons (ex_var 1) (ax_cons (ex_var 0) ax_nil))) (ex_call M.comp B.comp D_p_is_so (ax_cons (ex_var 2) (ax_cons (ex_var 0) ax_nil)))) (hix:=hix0)) ax_nil))))))
noncomputable def d_l_answers_e1:DE:=dCall (some 0) F_l_take [] (dCons (dVar 1) (dCons (dC (.int 2)) dNil))
noncomputable abbrev st_l_answers:Stmt:=top 28
theorem sc_l_answers:FnScope ["_law_box_here","_law_questions"] ["_law_box_here","_law_questions"] (defScope st_l_answers):=⟨rfl,rfl,rfl,by decide +kernel,rfl,by decide +kernel,by decide +kernel⟩
noncomputable def d_l_answers:DS:=dRet (dCB tupleS (dCons (dComp (some (1,0)) [none,some 0] (dRng1 (dCons (dVar 1) dNil)) (gdName 0) dYes (d_l_answers_e1)) dNil))
noncomputable def F_l_answers:DF:=fnD (some 0) 2 2 d_l_answers
theorem ok_l_answers {f:Addr} {fd:FuncData} (Fn:Fun K "_law_answers" "_law_answers" st_l_answers f fd) (hm:mg "_law_answers" = some (.ref f)) (hb:Binds K fd ["_law_box_here","_law_questions"] []) (z_range:mg "range" = none) (z_tuple:mg "tuple" = none) (D_l_take:FD P wd K mg base (1) "_law_take" (some 0) 2 F_l_take):FD P wd K mg base (2) "_law_answers" (some 0) 2 F_l_answers :=
 fd_of (k:=1) Fn sc_l_answers hm hb fun cdv A outer s H E M B=>bx_one (sx_ret (ex_ct M (tr_tuple M) z_tuple PyProof.Rows.boot_tuple (ax_cons (ex_comp (some (1,0)) (N':=["_law_k","_law_box_here"]) (ix:=[none,some 0]) M (fun _=>⟨rfl,by kernel_rfl⟩) (ix_rng1 M z_range (ax_cons (ex_var 1) ax_nil)) (gx_name 0 (hN:=fun _=>(by show (["_law_k","_law_box_here"]:List Str).Nodup; decide +kernel))) qx_nil (ex_call M.comp B.comp D_l_take (ax_cons (ex_var 1) (ax_cons ex_int ax_nil))) (hix:=hix1 (by decide))) ax_nil)))
noncomputable def d_law_e1:DE:=dCall (some 0) F_l_answers [] (dCons (dVar 1) (dCons (dVar 2) dNil))
noncomputable def d_law_b1:DS:=dSeq (dSet 2 (dCall none F_l_box [] (dCons (dVar 0) (dCons (dVar 1) dNil))))
 (dSeq (dSet 3 (dOp addS (dC (.int 1)) (dCall (some 0) F_l_take [] (dCons (dVar 2) (dCons (dC (.int 10)) dNil)))))
 (dSeq (dIf (dTest (dOp eqS (dCall (some 0) F_l_take [] (dCons (dVar 2) (dCons (dC (.int 2)) dNil))) (dC (.int 0)))) (dSet 3 (dOp addS (dC (.int 1)) (dCall (some 0) F_l_take [] (dCons (dVar 2) (dCons (dC (.int 3)) dNil))))) dNext)
 (dSeq (dSet 4 (dCall (some 0) F_l_light [] (dCons (dVar 2) (dCons (dVar 3) (dCons (dC (.int 24)) (dCons (dC (.int 128)) dNil))))))
 (dSeq (dIf (dTest (dOp ltS (dVar 3) (dC (.int 4)))) (dSet 5 (dCall none F_l_all_answers [] (dCons (dVar 3) dNil))) (dSet 5 (dComp (some (1,2)) [none,some 2,some 3] (dRng1 (dCons (dC (.int 10)) dNil)) (gdName 0) dYes (d_law_e1))))
 (dIf (dNot (dTru (dCall none F_l_right [] (dCons (dVar 4) (dCons (dVar 5) dNil))))) (dRet (dC (.bl false))) dNext)))))
noncomputable abbrev st_law:Stmt:=top 32
theorem sc_law:FnScope ["_law_script","_law_k","_law_box_here","_law_questions","_law_saying_here","_law_rows"] ["_law_script"] (defScope st_law):=⟨rfl,rfl,rfl,by decide +kernel,rfl,by decide +kernel,by decide +kernel⟩
noncomputable def d_law:DS:=dSeq (dFor none (dRng1 (dCons (dOp addS (dC (.int 1)) (dCB lenS (dCons (dSl (dVar 0) dNoPart (dPart (dC (.int 3)))) dNil))) dNil)) (gdName 1) (d_law_b1))
 (dRet (dC (.bl true)))
noncomputable def F_law:DF:=fnD none 1 6 d_law
theorem ok_law {f:Addr} {fd:FuncData} (Fn:Fun K "law" "law" st_law f fd) (z_len:mg "len" = none) (z_range:mg "range" = none) (D_l_box:FD P wd K mg base (1) "_law_box" none 2 F_l_box) (D_l_take:FD P wd K mg base (1) "_law_take" (some 0) 2 F_l_take) (D_l_light:FD P wd K mg base (26) "_law_light" (some 0) 4 F_l_light) (D_l_all_answers:FD P wd K mg base (1) "_law_all_answers" none 1 F_l_all_answers) (D_l_right:FD P wd K mg base (51) "_law_right" none 2 F_l_right) (D_l_answers:FD P wd K mg base (2) "_law_answers" (some 0) 2 F_l_answers):FnOk P wd K mg base CX0 52 f fd ["_law_script"] (spD K none 1 F_law) :=
 fo_of (k:=51) Fn sc_law fun cdv A outer s H E M B=>bx_cons (sx_for M (fun _=>PassesOwn.never) (ix_rng1 M z_range (ax_cons (ex_add M ex_int (ex_cb M (br_len M) z_len PySem.boot_len (ax_cons (ex_sl M (ex_var 0) ox_none (ox_some ex_int)) ax_nil))) ax_nil)) (gx_name 1 (hN:=fun _=>sc_law.nd)) (bx_cons (sx_set 2 (ex_call M B D_l_box (ax_cons (ex_var 0) (ax_cons (ex_var 1) ax_nil))) (hN:=fun _=>sc_law.nd))
 (bx_cons (sx_set 3 (ex_add M ex_int (ex_call M B D_l_take (ax_cons (ex_var 2) (ax_cons ex_int ax_nil)))) (hN:=fun _=>sc_law.nd))
 (bx_cons (sx_if (tx_c (cr_eq M) (ex_call M B D_l_take (ax_cons (ex_var 2) (ax_cons ex_int ax_nil))) ex_int) (bx_one (sx_set 3 (ex_add M ex_int (ex_call M B D_l_take (ax_cons (ex_var 2) (ax_cons ex_int ax_nil)))) (hN:=fun _=>sc_law.nd))) bx_nil)
 (bx_cons (sx_set 4 (ex_call M B D_l_light (ax_cons (ex_var 2) (ax_cons (ex_var 3) (ax_cons ex_int (ax_cons ex_int ax_nil))))) (hN:=fun _=>sc_law.nd))
 (bx_cons (sx_if (tx_c cr_lt (ex_var 3) ex_int) (bx_one (sx_set 5 (ex_call M B D_l_all_answers (ax_cons (ex_var 3) ax_nil)) (hN:=fun _=>sc_law.nd))) (bx_one (sx_setC 5 (some (1,2)) (N':=["_law_turn","_law_box_here","_law_questions"]) (ix:=[none,some 2,some 3]) M (fun _=>⟨rfl,by kernel_rfl⟩) (ix_rng1 M z_range (ax_cons ex_int ax_nil)) (gx_name 0 (hN:=fun _=>(by show (["_law_turn","_law_box_here","_law_questions"]:List Str).Nodup; decide +kernel))) qx_nil (ex_call M.comp B.comp D_l_answers (ax_cons (ex_var 1) (ax_cons (ex_var 2) ax_nil))) (hix:=hix1 (by decide)) (hN:=fun _=>sc_law.nd))))
 (bx_one (sx_if (tx_not (tx_v M (ex_call M B D_l_right (ax_cons (ex_var 4) (ax_cons (ex_var 5) ax_nil))))) (bx_one (sx_ret ex_bl)) bx_nil))))))))
 (bx_one (sx_ret ex_bl))
noncomputable abbrev tb_1:Tb:=[("inner",1,F_p_inner)]
noncomputable abbrev tb_2:Tb:=[("layers_of",2,F_p_layers_of),("weight_of",2,F_p_weight_of),("spelled_of",2,F_p_spelled_of)]
end
end Lw
set_option Elab.async false
set_option linter.all false
set_option maxRecDepth 100000
set_option maxHeartbeats 4000000
namespace Lw
open PySem L2 D
theorem take_ok (a b w:Int) (h0:0 < w) (h1:w < 1073741824):∃ r a' b',0 ≤ r ∧ r < w ∧ F_l_take [.l [iT a,iT b],.v (iT w)] = some (.v (iT r),[iT a',iT b']):=by
 have h2:CDiv a w:=⟨h0,h1⟩
 by_cases h:0 < a
 ·refine ⟨a % w,a / w,b,Int.emod_nonneg _ (by omega),Int.emod_lt_of_pos _ h0,?_⟩
  simp [F_l_take,fnD,d_l_take,h,h0,h2,ixN]
 ·refine ⟨(b * 69623 % 2147483647 * 2147483647 + ((b * 69623 % 2147483647 * 48271 + 30103) % 2147483629 + 1)) / 8191 % w,a,(b * 69623 % 2147483647 * 48271 + 30103) % 2147483629 + 1,Int.emod_nonneg _ (by omega),Int.emod_lt_of_pos _ h0,?_⟩
  simp [F_l_take,fnD,d_l_take,h,h0,h2,ixN,CMul,CDiv]
theorem take_nat (a b:Int) (w:Nat) (h0:0 < w) (h1:w ≤ 1000000000):∃ (r:Nat) (a' b':Int),r < w ∧ F_l_take [.l [iT a,iT b],.v (iT (w:Int))] = some (.v (iT (r:Int)),[iT a',iT b']):=by
 obtain ⟨r,a',b',r0,r1,e⟩:=take_ok a b w (by omega) (by omega)
 obtain ⟨n,rfl⟩:∃ n:Nat,r = n:=⟨r.toNat,by omega⟩
 exact ⟨n,a',b',by omega,e⟩
theorem box_ok (ns:List Int) (k:Int) (hk:0 ≤ k) (hk1:k < 1000):∃ a b,F_l_box [.k (intsT ns),.v (iT k)] = some (.l [iT a,iT b],[]):=by
 have hl:(intsT ns).length = ns.length:=by simp [intsT]
 have fin:∀ c:Int,∃ a,atI [T.a (V.int 0),T.a (V.int c)] (if (1000000000000000000:Int) ≤ c then 1 else 0) = some (iT a):=fun c=>by
  split
  ·exact ⟨c,rfl⟩
  ·exact ⟨0,rfl⟩
 have c1:CMul 7919 k:=.inl ⟨by decide,by decide⟩
 have c2:CMul 40692 k:=.inl ⟨by decide,by decide⟩
 have c3:∀ m:Int,CMul m 69623:=fun m=>.inr ⟨by decide,by decide⟩
 have c4:∀ m:Int,CMul m 48271:=fun m=>.inr ⟨by decide,by decide⟩
 have c5:CPow 10 18:=⟨by decide,by decide,by decide⟩
 by_cases h1:k < ns.length
 ·obtain ⟨z,hz⟩:=atI_ints ns hk h1
  obtain ⟨a,ha⟩:=fin z
  refine ⟨a,(z % 2147483629 * 48271 + 40692 * k) % 2147483629 + 1,?_⟩
  simp [F_l_box,fnD,d_l_box,hl,h1,c1,c2,c3,c4,c5,hz,ha,gd,line_eq]
 ·by_cases h2:0 < ns.length
  ·obtain ⟨z,hz⟩:=atI_ints ns (i:=k % ns.length) (Int.emod_nonneg _ (by omega)) (Int.emod_lt_of_pos _ (by omega))
   obtain ⟨a,ha⟩:=fin (7919 * k + 11 + z % 2147483629 * 69623)
   refine ⟨a,((7919 * k + 11 + z % 2147483629 * 69623) % 2147483629 * 48271 + 40692 * k) % 2147483629 + 1,?_⟩
   simp [F_l_box,fnD,d_l_box,hl,h1,h2,c1,c2,c3,c4,c5,hz,ha,gd,line_eq]
  ·obtain ⟨a,ha⟩:=fin (7919 * k + 11)
   refine ⟨a,((7919 * k + 11) % 2147483629 * 48271 + 40692 * k) % 2147483629 + 1,?_⟩
   simp [F_l_box,fnD,d_l_box,hl,h1,h2,c1,c2,c3,c4,c5,ha,gd,line_eq]
theorem forD_step {tg:En → T → Option En} {b:DS} {t:T} {r:List T} {Γ Γ1 Γ2:En} (h1:tg Γ t = some Γ1) (h2:b Γ1 = some (.nx Γ2)):forD tg b (t :: r) Γ = forD tg b r Γ2:=by
 rw [forD_cons,h1,Option.bind_some,h2,Option.bind_some]
end Lw
set_option Elab.async false
set_option linter.all false
set_option maxRecDepth 100000
set_option maxHeartbeats 4000000
namespace Lw
open PySem L2 D
@[simp] theorem w_yes_ask:(("yes":Str) = "ask") = False:=eq_false (by decide +kernel)
@[simp] theorem w_yes_not:(("yes":Str) = "not") = False:=eq_false (by decide +kernel)
@[simp] theorem w_yes_and:(("yes":Str) = "and") = False:=eq_false (by decide +kernel)
@[simp] theorem w_yes_or:(("yes":Str) = "or") = False:=eq_false (by decide +kernel)
@[simp] theorem w_yes_either:(("yes":Str) = "either") = False:=eq_false (by decide +kernel)
@[simp] theorem w_yes_most:(("yes":Str) = "most") = False:=eq_false (by decide +kernel)
@[simp] theorem w_no_yes:(("no":Str) = "yes") = False:=eq_false (by decide +kernel)
@[simp] theorem w_no_ask:(("no":Str) = "ask") = False:=eq_false (by decide +kernel)
@[simp] theorem w_no_not:(("no":Str) = "not") = False:=eq_false (by decide +kernel)
@[simp] theorem w_no_and:(("no":Str) = "and") = False:=eq_false (by decide +kernel)
@[simp] theorem w_no_or:(("no":Str) = "or") = False:=eq_false (by decide +kernel)
@[simp] theorem w_no_either:(("no":Str) = "either") = False:=eq_false (by decide +kernel)
@[simp] theorem w_no_most:(("no":Str) = "most") = False:=eq_false (by decide +kernel)
@[simp] theorem w_ask_not:(("ask":Str) = "not") = False:=eq_false (by decide +kernel)
@[simp] theorem w_ask_and:(("ask":Str) = "and") = False:=eq_false (by decide +kernel)
@[simp] theorem w_ask_or:(("ask":Str) = "or") = False:=eq_false (by decide +kernel)
@[simp] theorem w_ask_either:(("ask":Str) = "either") = False:=eq_false (by decide +kernel)
@[simp] theorem w_ask_most:(("ask":Str) = "most") = False:=eq_false (by decide +kernel)
@[simp] theorem w_not_ask:(("not":Str) = "ask") = False:=eq_false (by decide +kernel)
@[simp] theorem w_not_or:(("not":Str) = "or") = False:=eq_false (by decide +kernel)
@[simp] theorem w_not_either:(("not":Str) = "either") = False:=eq_false (by decide +kernel)
@[simp] theorem w_not_most:(("not":Str) = "most") = False:=eq_false (by decide +kernel)
@[simp] theorem w_and_yes:(("and":Str) = "yes") = False:=eq_false (by decide +kernel)
@[simp] theorem w_and_no:(("and":Str) = "no") = False:=eq_false (by decide +kernel)
@[simp] theorem w_and_ask:(("and":Str) = "ask") = False:=eq_false (by decide +kernel)
@[simp] theorem w_and_not:(("and":Str) = "not") = False:=eq_false (by decide +kernel)
@[simp] theorem w_and_or:(("and":Str) = "or") = False:=eq_false (by decide +kernel)
@[simp] theorem w_and_either:(("and":Str) = "either") = False:=eq_false (by decide +kernel)
@[simp] theorem w_and_most:(("and":Str) = "most") = False:=eq_false (by decide +kernel)
@[simp] theorem w_or_yes:(("or":Str) = "yes") = False:=eq_false (by decide +kernel)
@[simp] theorem w_or_no:(("or":Str) = "no") = False:=eq_false (by decide +kernel)
@[simp] theorem w_or_ask:(("or":Str) = "ask") = False:=eq_false (by decide +kernel)
@[simp] theorem w_or_not:(("or":Str) = "not") = False:=eq_false (by decide +kernel)
@[simp] theorem w_or_and:(("or":Str) = "and") = False:=eq_false (by decide +kernel)
@[simp] theorem w_or_either:(("or":Str) = "either") = False:=eq_false (by decide +kernel)
@[simp] theorem w_or_most:(("or":Str) = "most") = False:=eq_false (by decide +kernel)
@[simp] theorem w_either_ask:(("either":Str) = "ask") = False:=eq_false (by decide +kernel)
@[simp] theorem w_either_not:(("either":Str) = "not") = False:=eq_false (by decide +kernel)
@[simp] theorem w_either_and:(("either":Str) = "and") = False:=eq_false (by decide +kernel)
@[simp] theorem w_either_or:(("either":Str) = "or") = False:=eq_false (by decide +kernel)
@[simp] theorem w_either_most:(("either":Str) = "most") = False:=eq_false (by decide +kernel)
@[simp] theorem w_most_ask:(("most":Str) = "ask") = False:=eq_false (by decide +kernel)
@[simp] theorem w_most_not:(("most":Str) = "not") = False:=eq_false (by decide +kernel)
@[simp] theorem w_most_and:(("most":Str) = "and") = False:=eq_false (by decide +kernel)
@[simp] theorem w_most_or:(("most":Str) = "or") = False:=eq_false (by decide +kernel)
@[simp] theorem w_most_either:(("most":Str) = "either") = False:=eq_false (by decide +kernel)
inductive Sy where
 | yes | no | ask (q:Nat) | nt (a:Sy) | an (a b:Sy) | or (a b:Sy) | ei (a b:Sy) | mo (a b c:Sy)
noncomputable abbrev sT (x:Str):T:=.a (.str x)
noncomputable def Sy.t:Sy → T
 | .yes=>.t [sT "yes"]
 | .no=>.t [sT "no"]
 | .ask q=>.t [sT "ask",iT q]
 | .nt a=>.t [sT "not",a.t]
 | .an a b=>.t [sT "and",a.t,b.t]
 | .or a b=>.t [sT "or",a.t,b.t]
 | .ei a b=>.t [sT "either",a.t,b.t]
 | .mo a b c=>.t [sT "most",a.t,b.t,c.t]
noncomputable def Sy.kids:Sy → List Sy
 | .yes=>[]
 | .no=>[]
 | .ask _=>[]
 | .nt a=>[a]
 | .an a b=>[a,b]
 | .or a b=>[a,b]
 | .ei a b=>[a,b]
 | .mo a b c=>[a,b,c]
noncomputable def Sy.parts:Sy → Nat
 | .yes=>1
 | .no=>1
 | .ask _=>1
 | .nt a=>1 + a.parts
 | .an a b=>1 + a.parts + b.parts
 | .or a b=>1 + a.parts + b.parts
 | .ei a b=>1 + a.parts + b.parts
 | .mo a b c=>1 + a.parts + b.parts + c.parts
noncomputable def Sy.down:Sy → Nat
 | .yes=>1
 | .no=>1
 | .ask _=>1
 | .nt a=>1 + a.down
 | .an a b=>1 + max a.down b.down
 | .or a b=>1 + max a.down b.down
 | .ei a b=>1 + max a.down b.down
 | .mo a b c=>1 + max a.down (max b.down c.down)
noncomputable def Sy.wt:Sy → Nat
 | .yes=>1
 | .no=>1
 | .ask _=>1
 | .nt a=>a.wt
 | .an a b=>2 * (a.wt + b.wt)
 | .or a b=>2 * (a.wt + b.wt)
 | .ei a b=>8 * (a.wt + b.wt)
 | .mo a b c=>12 * (a.wt + b.wt) + 4 * c.wt
noncomputable def Sy.qs (q:Nat):Sy → Prop
 | .yes=>True
 | .no=>True
 | .ask k=>k < q
 | .nt a=>a.qs q
 | .an a b=>a.qs q ∧ b.qs q
 | .or a b=>a.qs q ∧ b.qs q
 | .ei a b=>a.qs q ∧ b.qs q
 | .mo a b c=>a.qs q ∧ b.qs q ∧ c.qs q
theorem Sy.parts_pos:∀ s:Sy,1 ≤ s.parts
 | .yes=>Nat.le_refl _
 | .no=>Nat.le_refl _
 | .ask _=>Nat.le_refl _
 | .nt a=>by simp only [Sy.parts]; omega
 | .an a b=>by simp only [Sy.parts]; omega
 | .or a b=>by simp only [Sy.parts]; omega
 | .ei a b=>by simp only [Sy.parts]; omega
 | .mo a b c=>by simp only [Sy.parts]; omega
theorem Sy.down_pos:∀ s:Sy,1 ≤ s.down
 | .yes=>Nat.le_refl _
 | .no=>Nat.le_refl _
 | .ask _=>Nat.le_refl _
 | .nt a=>by simp only [Sy.down]; omega
 | .an a b=>by simp only [Sy.down]; omega
 | .or a b=>by simp only [Sy.down]; omega
 | .ei a b=>by simp only [Sy.down]; omega
 | .mo a b c=>by simp only [Sy.down]; omega
noncomputable def Sy.rs (f:Sy → T):Sy → Rs
 | .yes=>.mk (Sy.t .yes) (f .yes) []
 | .no=>.mk (Sy.t .no) (f .no) []
 | .ask q=>.mk (Sy.t (.ask q)) (f (.ask q)) []
 | .nt a=>.mk (Sy.t (.nt a)) (f (.nt a)) [a.rs f]
 | .an a b=>.mk (Sy.t (.an a b)) (f (.an a b)) [a.rs f,b.rs f]
 | .or a b=>.mk (Sy.t (.or a b)) (f (.or a b)) [a.rs f,b.rs f]
 | .ei a b=>.mk (Sy.t (.ei a b)) (f (.ei a b)) [a.rs f,b.rs f]
 | .mo a b c=>.mk (Sy.t (.mo a b c)) (f (.mo a b c)) [a.rs f,b.rs f,c.rs f]
theorem Sy.rs_e (f:Sy → T) (s:Sy):(s.rs f).e = s.t:=by cases s <;> rfl
theorem Sy.rs_v (f:Sy → T) (s:Sy):(s.rs f).v = f s:=by cases s <;> rfl
theorem Sy.rs_pre (f:Sy → T):∀ s:Sy,(s.rs f).pre.length = s.parts
 | .yes=>by simp [Sy.rs,pre_mk,pres_nil,Sy.parts]
 | .no=>by simp [Sy.rs,pre_mk,pres_nil,Sy.parts]
 | .ask _=>by simp [Sy.rs,pre_mk,pres_nil,Sy.parts]
 | .nt a=>by simp [Sy.rs,pre_mk,pres_nil,pres_cons,Sy.parts,a.rs_pre f]; omega
 | .an a b=>by simp [Sy.rs,pre_mk,pres_nil,pres_cons,Sy.parts,a.rs_pre f,b.rs_pre f]; omega
 | .or a b=>by simp [Sy.rs,pre_mk,pres_nil,pres_cons,Sy.parts,a.rs_pre f,b.rs_pre f]; omega
 | .ei a b=>by simp [Sy.rs,pre_mk,pres_nil,pres_cons,Sy.parts,a.rs_pre f,b.rs_pre f]; omega
 | .mo a b c=>by simp [Sy.rs,pre_mk,pres_nil,pres_cons,Sy.parts,a.rs_pre f,b.rs_pre f,c.rs_pre f]; omega
theorem cut1 (x:T) (r:List T):cutT (x :: r) (some 1) none = r:=cut_drop (x :: r) 1
theorem inner_ok (s:Sy):F_p_inner [.v s.t] = some (.v (.t (s.kids.map Sy.t)),[]):=by
 cases s <;> simp [F_p_inner,fnD,d_p_inner,Sy.t,Sy.kids,gd,cut1,atI_0]
theorem Sy.rs_in (f:Sy → T):∀ s:Sy,(s.rs f).In F_p_inner
 | .yes=>in_mk.mpr ⟨.inl (inner_ok .yes),ins_nil⟩
 | .no=>in_mk.mpr ⟨.inl (inner_ok .no),ins_nil⟩
 | .ask q=>in_mk.mpr ⟨.inl (inner_ok (.ask q)),ins_nil⟩
 | .nt a=>in_mk.mpr ⟨.inl (by simpa [Sy.kids,Sy.rs_e] using inner_ok (.nt a)),ins_cons.mpr ⟨a.rs_in f,ins_nil⟩⟩
 | .an a b=>in_mk.mpr ⟨.inl (by simpa [Sy.kids,Sy.rs_e] using inner_ok (.an a b)),ins_cons.mpr ⟨a.rs_in f,ins_cons.mpr ⟨b.rs_in f,ins_nil⟩⟩⟩
 | .or a b=>in_mk.mpr ⟨.inl (by simpa [Sy.kids,Sy.rs_e] using inner_ok (.or a b)),ins_cons.mpr ⟨a.rs_in f,ins_cons.mpr ⟨b.rs_in f,ins_nil⟩⟩⟩
 | .ei a b=>in_mk.mpr ⟨.inl (by simpa [Sy.kids,Sy.rs_e] using inner_ok (.ei a b)),ins_cons.mpr ⟨a.rs_in f,ins_cons.mpr ⟨b.rs_in f,ins_nil⟩⟩⟩
 | .mo a b c=>in_mk.mpr ⟨.inl (by simpa [Sy.kids,Sy.rs_e] using inner_ok (.mo a b c)),ins_cons.mpr ⟨a.rs_in f,ins_cons.mpr ⟨b.rs_in f,ins_cons.mpr ⟨c.rs_in f,ins_nil⟩⟩⟩⟩
noncomputable def orS (s t:Sy):Sy:=.nt (.an (.nt s) (.nt t))
noncomputable def Sy.spell:Sy → Sy
 | .yes=>.yes
 | .no=>.no
 | .ask q=>.ask q
 | .nt a=>.nt a.spell
 | .an a b=>.an a.spell b.spell
 | .or a b=>orS a.spell b.spell
 | .ei a b=>orS (.an a.spell (.nt b.spell)) (.an (.nt a.spell) b.spell)
 | .mo a b c=>orS (.an a.spell b.spell) (.an c.spell (orS a.spell b.spell))
theorem eob_ok (x y:T):F_p_either_or_both [.v x,.v y] = some (.v (.t [sT "not",.t [sT "and",.t [sT "not",x],.t [sT "not",y]]]),[]):=by
 have g2:(2:Nat) ≤ sizeLine:=by decide
 have g3:(3:Nat) ≤ sizeLine:=by decide
 simp [F_p_either_or_both,fnD,d_p_either_or_both,gd,g2,g3]
theorem spelled_of_ok (s:Sy):F_p_spelled_of [.v s.t,.r (s.kids.map fun k=>k.spell.t)] = some (.v s.spell.t,[]):=by
 have g1:(1:Nat) ≤ sizeLine:=by decide
 have g2:(2:Nat) ≤ sizeLine:=by decide
 have g3:(3:Nat) ≤ sizeLine:=by decide
 have g4:(4:Nat) ≤ sizeLine:=by decide
 cases s <;> simp [F_p_spelled_of,fnD,d_p_spelled_of,Sy.t,Sy.kids,Sy.spell,orS,gd,g1,g2,g3,g4,eob_ok,inS,atomsOf,flatV,inV,eqV]
end Lw
set_option Elab.async false
set_option linter.all false
set_option maxRecDepth 100000
set_option maxHeartbeats 4000000
namespace Lw
open PySem L2 D
theorem seq_nx' {f g:DS} {Γ Γ':En} {r:Option O} (h:f Γ = some (.nx Γ')) (k:g Γ' = r):dSeq f g Γ = r:=by rw [dSeq_ap,h]; exact k
theorem seq_rt {f g:DS} {Γ Γ':En} {s:S} (h:f Γ = some (.rt s Γ')):dSeq f g Γ = some (.rt s Γ'):=by rw [dSeq_ap,h]; rfl
theorem if_t {ta:DT} {f g:DS} {Γ Γ':En} {r:Option O} (h:ta Γ = some (true,Γ')) (k:f Γ' = r):dIf ta f g Γ = r:=by rw [dIf_ap,h]; exact k
theorem if_f {ta:DT} {f g:DS} {Γ Γ':En} {r:Option O} (h:ta Γ = some (false,Γ')) (k:g Γ' = r):dIf ta f g Γ = r:=by rw [dIf_ap,h]; exact k
theorem fnD_rt {np nN:Nat} {g:DS} {gs:List G} {s:S} {xs:List T} {rest:En} {r:G} (hl:gs.length = np) (h:g (gs.map some ++ List.replicate (nN - np) none) = some (.rt s (some (.l xs) :: rest))) (hr:resG (some 0) (some (.l xs) :: rest) s = some r):fnD (some 0) np nN g gs = some (r,xs):=by
 unfold fnD
 rw [if_pos hl,h,Option.bind_some]
 dsimp only
 rw [hr]
 rfl
theorem saying_ok (q:Nat) (hq0:0 < q) (hq:q ≤ 100):∀ (n:Nat) (a b:Int) (room down:Nat),1 ≤ n → down ≤ n → 1 ≤ room → room ≤ 1000 → ∃ (s:Sy) (a' b':Int),s.down ≤ max 1 down ∧ s.parts ≤ room ∧ s.qs q ∧
  F_l_saying n [.l [iT a,iT b],.v (iT (q:Int)),.v (iT (room:Int)),.v (iT (down:Int))] = some (.v s.t,[iT a',iT b']):=by
 intro n
 induction n with
 | zero=>intro a b room down h; omega
 | succ n ih =>
  intro a b room down _ hd hr hr2
  obtain ⟨f,a1,b1,hf,e1⟩:=take_nat a b 10 (by decide) (by decide)
  have e1':F_l_take [.l [.a (.int a),.a (.int b)],.v (.a (.int 10))] = some (.v (.a (.int (f:Int))),[.a (.int a1),.a (.int b1)]):=e1
  have g1:(1:Nat) ≤ sizeLine:=by decide
  have g2:(2:Nat) ≤ sizeLine:=by decide
  have g3:(3:Nat) ≤ sizeLine:=by decide
  have g4:(4:Nat) ≤ sizeLine:=by decide
  by_cases leaf:room < 2 ∨ down < 2 ∨ f = 0
  ·obtain ⟨k,a2,b2,hk,e2⟩:=take_nat a1 b1 q hq0 (by omega)
   obtain ⟨g,a3,b3,hg,e3⟩:=take_nat a2 b2 8 (by decide) (by decide)
   have e3':F_l_take [.l [.a (.int a2),.a (.int b2)],.v (.a (.int 8))] = some (.v (.a (.int (g:Int))),[.a (.int a3),.a (.int b3)]):=e3
   simp only [iT] at e2
   have fin:∀ (s:Sy) (i:Nat),(if (g:Int) - 5 > 0 then (g:Int) - 5 else 0) = (i:Int) → [Sy.t (.ask k),Sy.t .yes,Sy.t .no][i]? = some s.t → F_l_saying (n + 1) [.l [iT a,iT b],.v (iT (q:Int)),.v (iT (room:Int)),.v (iT (down:Int))] = some (.v s.t,[iT a3,iT b3]):=fun s i ei es=>by
    refine fnD_rt (nN:=10) (g:=d_l_saying (F_l_saying n)) (s:=.v s.t) (rest:=[some (.v (iT (q:Int))),some (.v (iT (room:Int))),some (.v (iT (down:Int))),some (.v (iT (f:Int))),none,none,none,none,none]) rfl ?_ rfl
    unfold d_l_saying
    refine seq_nx' (Γ':=[some (.l [iT a1,iT b1]),some (.v (iT (q:Int))),some (.v (iT (room:Int))),some (.v (iT (down:Int))),some (.v (iT (f:Int))),none,none,none,none,none]) (by simp [e1']) ?_
    refine seq_rt (if_t (Γ':=[some (.l [iT a1,iT b1]),some (.v (iT (q:Int))),some (.v (iT (room:Int))),some (.v (iT (down:Int))),some (.v (iT (f:Int))),none,none,none,none,none]) ?_ ?_)
    ·by_cases h1:room < 2
     ·have:(room:Int) < 2:=by omega
      simp [this]
     ·have h1':¬ (room:Int) < 2:=by omega
      by_cases h2:down < 2
      ·have:(down:Int) < 2:=by omega
       simp [this,h1']
      ·have h2':¬ (down:Int) < 2:=by omega
       have:f = 0:=by omega
       simp [this,h1',h2']
    ·simp only [Sy.t] at es
     have mx:(if (5:Int) < (g:Int) then (g:Int) - 5 else 0) = (i:Int):=by
      rw [← ei]
      by_cases c:5 < g
      ·rw [if_pos (by omega),if_pos (by omega)]
      ·rw [if_neg (by omega),if_neg (by omega)]
     simp [e2,e3',gd,g1,g2,g3,mx,atI_nat',es]
   have hm:(1:Nat) ≤ max 1 down:=Nat.le_max_left _ _
   by_cases c1:g ≤ 5
   ·exact ⟨.ask k,a3,b3,hm,hr,hk,fin _ 0 (by rw [if_neg (by omega)]; rfl) rfl⟩
   ·by_cases c2:g = 6
    ·subst c2
     exact ⟨.yes,a3,b3,hm,hr,trivial,fin _ 1 (by decide) rfl⟩
    ·have:g = 7:=by omega
     subst this
     exact ⟨.no,a3,b3,hm,hr,trivial,fin _ 2 (by decide) rfl⟩
  ·have l1:¬ room < 2:=fun z=>leaf (.inl z)
   have l2:¬ down < 2:=fun z=>leaf (.inr (.inl z))
   have l3:¬ f = 0:=fun z=>leaf (.inr (.inr z))
   have m1:¬ (room:Int) < 2:=by omega
   have m2:¬ (down:Int) < 2:=by omega
   have m3:¬ (f:Int) = 0:=by omega
   have d1:(down:Int) - 1 = ((down - 1:Nat):Int):=by omega
   let Γ1:En:=[some (.l [iT a1,iT b1]),some (.v (iT (q:Int))),some (.v (iT (room:Int))),some (.v (iT (down:Int))),some (.v (iT (f:Int))),none,none,none,none,none]
   by_cases nt:f < 3 ∨ room < 3
   ·obtain ⟨s,a2,b2,h1,h2,h3,e2⟩:=ih a1 b1 (room - 1) (down - 1) (by omega) (by omega) (by omega) (by omega)
    have r1:(room:Int) - 1 = ((room - 1:Nat):Int):=by omega
    refine ⟨.nt s,a2,b2,by simp only [Sy.down]; omega,by simp only [Sy.parts]; omega,h3,?_⟩
    simp only [iT] at e2
    refine fnD_rt (nN:=10) (g:=d_l_saying (F_l_saying n)) (s:=.v (Sy.t (.nt s))) (rest:=[some (.v (iT (q:Int))),some (.v (iT (room:Int))),some (.v (iT (down:Int))),some (.v (iT (f:Int))),none,none,none,none,none]) rfl ?_ rfl
    unfold d_l_saying
    refine seq_nx' (Γ':=Γ1) (by simp [e1',Γ1]) ?_
    refine seq_nx' (Γ':=Γ1) (if_f (Γ':=Γ1) (by simp [m1,m2,l3,Γ1]) rfl) ?_
    refine seq_rt (if_t (Γ':=Γ1) ?_ ?_)
    ·by_cases h:f < 3
     ·have:(f:Int) < 3:=by omega
      simp [this,Γ1]
     ·have h':¬ (f:Int) < 3:=by omega
      have:(room:Int) < 3:=by omega
      simp [this,h',Γ1]
    ·simp only [Sy.t]
     simp [r1,d1,e2,gd,g2,Γ1]
   ·have n1:¬ (f:Int) < 3:=by omega
    have n2:¬ (room:Int) < 3:=by omega
    obtain ⟨k1,a2,b2,hk1,e2⟩:=take_nat a1 b1 (room - 2) (by omega) (by omega)
    have r2:(room:Int) - 2 = ((room - 2:Nat):Int):=by omega
    obtain ⟨x1,hx1⟩:∃ x1:Nat,x1 = 1 + k1:=⟨1 + k1,rfl⟩
    obtain ⟨s1,a3,b3,h1,h2,h3,e3⟩:=ih a2 b2 x1 (down - 1) (by omega) (by omega) (by omega) (by omega)
    have c1:(1:Int) + (k1:Int) = (x1:Int):=by omega
    simp only [iT] at e2 e3
    let Γ2:En:=[some (.l [iT a3,iT b3]),some (.v (iT (q:Int))),some (.v (iT (room:Int))),some (.v (iT (down:Int))),some (.v (iT (f:Int))),some (.v (iT (x1:Int))),some (.v s1.t),none,none,none]
    by_cases mo:f = 9 ∧ room > 3 ∧ x1 < room - 2
    ·obtain ⟨k2,a4,b4,hk2,e4⟩:=take_nat a3 b3 (room - 2 - x1) (by omega) (by omega)
     obtain ⟨x2,hx2⟩:∃ x2:Nat,x2 = 1 + k2:=⟨1 + k2,rfl⟩
     have c2:(1:Int) + (k2:Int) = (x2:Int):=by omega
     obtain ⟨s2,a5,b5,u1,u2,u3,e5⟩:=ih a4 b4 x2 (down - 1) (by omega) (by omega) (by omega) (by omega)
     obtain ⟨s3,a6,b6,v1,v2,v3,e6⟩:=ih a5 b5 (room - 1 - x1 - x2) (down - 1) (by omega) (by omega) (by omega) (by omega)
     have r3:(room:Int) - 2 - (x1:Int) = ((room - 2 - x1:Nat):Int):=by omega
     have r4:(room:Int) - 1 - (x1:Int) - (x2:Int) = ((room - 1 - x1 - x2:Nat):Int):=by omega
     refine ⟨.mo s1 s2 s3,a6,b6,by simp only [Sy.down]; omega,by simp only [Sy.parts]; omega,⟨h3,u3,v3⟩,?_⟩
     simp only [iT] at e4 e5 e6
     refine fnD_rt (nN:=10) (g:=d_l_saying (F_l_saying n)) (s:=.v (Sy.t (.mo s1 s2 s3))) (rest:=[some (.v (iT (q:Int))),some (.v (iT (room:Int))),some (.v (iT (down:Int))),some (.v (iT (f:Int))),some (.v (iT (x1:Int))),some (.v s1.t),some (.v (iT (x2:Int))),some (.v s2.t),none]) rfl ?_ rfl
     unfold d_l_saying
     refine seq_nx' (Γ':=Γ1) (by simp [e1',Γ1]) ?_
     refine seq_nx' (Γ':=Γ1) (if_f (Γ':=Γ1) (by simp [m1,m2,l3,Γ1]) rfl) ?_
     refine seq_nx' (Γ':=Γ1) (if_f (Γ':=Γ1) (by simp [n1,n2,Γ1]) rfl) ?_
     refine seq_nx' (Γ':=[some (.l [iT a2,iT b2]),some (.v (iT (q:Int))),some (.v (iT (room:Int))),some (.v (iT (down:Int))),some (.v (iT (f:Int))),some (.v (iT (x1:Int))),none,none,none,none]) (by simp only [Γ1,iT]; simp [r2,e2,c1]) ?_
     refine seq_nx' (Γ':=Γ2) (by simp only [Γ2,iT]; simp [d1,e3]) ?_
     have q1:(f:Int) = 9:=by omega
     have q2:(3:Int) < (room:Int):=by omega
     have q3:(x1:Int) < (room:Int) - 2:=by omega
     refine seq_rt (if_t (Γ':=Γ2) (by simp only [Γ2,iT]; simp only [dAnd_ap,dTest_ap,dOp_ap,dVar_ap,dC_ap]; simp [q1,q2,q3]) ?_)
     refine seq_nx' (Γ':=[some (.l [iT a4,iT b4]),some (.v (iT (q:Int))),some (.v (iT (room:Int))),some (.v (iT (down:Int))),some (.v (iT (f:Int))),some (.v (iT (x1:Int))),some (.v s1.t),some (.v (iT (x2:Int))),none,none]) (by simp only [Γ2,iT]; simp [r3,e4,c2]) ?_
     refine seq_nx' (Γ':=[some (.l [iT a5,iT b5]),some (.v (iT (q:Int))),some (.v (iT (room:Int))),some (.v (iT (down:Int))),some (.v (iT (f:Int))),some (.v (iT (x1:Int))),some (.v s1.t),some (.v (iT (x2:Int))),some (.v s2.t),none]) (by simp only [iT]; simp [d1,e5]) ?_
     simp only [Sy.t,iT]
     simp [r4,d1,e6,gd,g4]
    ·obtain ⟨s2,a4,b4,u1,u2,u3,e4⟩:=ih a3 b3 (room - 1 - x1) (down - 1) (by omega) (by omega) (by omega) (by omega)
     have r3:(room:Int) - 1 - (x1:Int) = ((room - 1 - x1:Nat):Int):=by omega
     simp only [iT] at e4
     have fin:∀ (w:Str) (i:Nat),(f:Int) % 3 = (i:Int) → [sT "and",sT "or",sT "either"][i]? = some (sT w) → F_l_saying (n + 1) [.l [iT a,iT b],.v (iT (q:Int)),.v (iT (room:Int)),.v (iT (down:Int))] = some (.v (.t [sT w,s1.t,s2.t]),[iT a4,iT b4]):=fun w i ei es=>by
      refine fnD_rt (nN:=10) (g:=d_l_saying (F_l_saying n)) (s:=.v (.t [sT w,s1.t,s2.t])) (rest:=[some (.v (iT (q:Int))),some (.v (iT (room:Int))),some (.v (iT (down:Int))),some (.v (iT (f:Int))),some (.v (iT (x1:Int))),some (.v s1.t),none,none,some (.v (sT w))]) rfl ?_ rfl
      unfold d_l_saying
      refine seq_nx' (Γ':=Γ1) (by simp [e1',Γ1]) ?_
      refine seq_nx' (Γ':=Γ1) (if_f (Γ':=Γ1) (by simp [m1,m2,l3,Γ1]) rfl) ?_
      refine seq_nx' (Γ':=Γ1) (if_f (Γ':=Γ1) (by simp [n1,n2,Γ1]) rfl) ?_
      refine seq_nx' (Γ':=[some (.l [iT a2,iT b2]),some (.v (iT (q:Int))),some (.v (iT (room:Int))),some (.v (iT (down:Int))),some (.v (iT (f:Int))),some (.v (iT (x1:Int))),none,none,none,none]) (by simp only [Γ1,iT]; simp [r2,e2,c1]) ?_
      refine seq_nx' (Γ':=Γ2) (by simp only [Γ2,iT]; simp [d1,e3]) ?_
      refine seq_nx' (Γ':=Γ2) (if_f (Γ':=Γ2) ?_ rfl) ?_
      ·simp only [Γ2,iT]
       by_cases q1:f = 9
       ·have q1':(f:Int) = 9:=by omega
        by_cases q2:room > 3
        ·have q2':(3:Int) < (room:Int):=by omega
         have q3:¬ (x1:Int) < (room:Int) - 2:=by omega
         simp only [dAnd_ap,dTest_ap,dOp_ap,dVar_ap,dC_ap]
         simp [q1',q2',q3]
        ·have q2':¬ (3:Int) < (room:Int):=by omega
         simp [q1',q2']
       ·have q1':¬ (f:Int) = 9:=by omega
        simp [q1']
      ·simp only [Γ2,iT]
       refine seq_nx' (Γ':=[some (.l [iT a3,iT b3]),some (.v (iT (q:Int))),some (.v (iT (room:Int))),some (.v (iT (down:Int))),some (.v (iT (f:Int))),some (.v (iT (x1:Int))),some (.v s1.t),none,none,some (.v (sT w))]) (by simp only [iT]; simp [gd,g3,ei,atI_nat',es]) ?_
       simp only [iT]
       simp [r3,d1,e4,gd,g3]
     have hf3:f % 3 = 0 ∨ f % 3 = 1 ∨ f % 3 = 2:=by omega
     rcases hf3 with h | h | h
     ·exact ⟨.an s1 s2,a4,b4,by simp only [Sy.down]; omega,by simp only [Sy.parts]; omega,⟨h3,u3⟩,fin "and" 0 (by omega) rfl⟩
     ·exact ⟨.or s1 s2,a4,b4,by simp only [Sy.down]; omega,by simp only [Sy.parts]; omega,⟨h3,u3⟩,fin "or" 1 (by omega) rfl⟩
     ·exact ⟨.ei s1 s2,a4,b4,by simp only [Sy.down]; omega,by simp only [Sy.parts]; omega,⟨h3,u3⟩,fin "either" 2 (by omega) rfl⟩
theorem answers_comp:∀ (its:List T) (o:Option G) (a b:Int),∃ (as:List Nat) (o':Option G) (a' b':Int),as.length = its.length ∧ (∀ x ∈ as,x < 2) ∧ compD (gdName 0) dYes d_l_answers_e1 its [o,some (.l [iT a,iT b])] = some (tvT as,[o',some (.l [iT a',iT b'])])
 | [],o,a,b=>⟨[],o,a,b,rfl,(fun x hx=>nomatch hx),rfl⟩
 | t :: r,o,a,b=>by
  obtain ⟨x,a1,b1,hx,e1⟩:=take_nat a b 2 (by decide) (by decide)
  have e1':F_l_take [.l [iT a,iT b],.v (.a (.int 2))] = some (.v (iT (x:Int)),[iT a1,iT b1]):=e1
  obtain ⟨as,o',a',b',hl,hlt,e2⟩:=answers_comp r (some (.v t)) a1 b1
  refine ⟨x :: as,o',a',b',by simp [hl],fun y hy=>(List.mem_cons.mp hy).elim (fun z=>z ▸ hx) (hlt y),?_⟩
  have el:d_l_answers_e1 [some (.v t),some (.l [iT a,iT b])] = some (.v (iT (x:Int)),[some (.v t),some (.l [iT a1,iT b1])]):=by
   simp only [iT] at e1'
   simp [d_l_answers_e1,e1']
  simp only [iT,tvT] at el e2
  rw [compD_cons]
  simp [el,e2]
theorem answers_ok (a b:Int) (qs:Nat) (hq:qs ≤ 10):∃ as a' b',AnsOk qs as ∧ F_l_answers [.l [iT a,iT b],.v (iT (qs:Int))] = some (.v (tuT as),[iT a',iT b']):=by
 obtain ⟨as,o',a',b',hl,hlt,e⟩:=answers_comp (rngT 0 qs) none a b
 refine ⟨as,a',b',⟨by rw [hl]; simp [rngT],hlt⟩,?_⟩
 simp only [iT,tvT] at e
 simp [F_l_answers,fnD,d_l_answers,rngS_nat qs (by omega),e]
theorem lw_q (rec:DF) (s:Sy):d_l_weight_q1 rec [some (.v s.t)] = some (true,[some (.v s.t)]):=by
 cases s <;> simp [d_l_weight_q1,Sy.t,isiS,tyN,subTy]
theorem lw_i (rec:DF) (i:Int):d_l_weight_q1 rec [some (.v (iT i))] = some (false,[some (.v (iT i))]):=by
 simp [d_l_weight_q1,isiS,tyN,subTy]
theorem lw_e (rec:DF) (s:Sy) (m:Nat) (h:rec [.v s.t] = some (.v (iT (m:Int)),[])):d_l_weight_e1 rec [some (.v s.t)] = some (.v (iT (m:Int)),[some (.v s.t)]):=by
 simp only [iT] at h ⊢
 simp [d_l_weight_e1,h]
theorem l_weight_ok:∀ (n:Nat) (s:Sy),s.down ≤ n → F_l_weight n [.v s.t] = some (.v (iT (s.wt:Int)),[]):=by
 intro n
 induction n with
 | zero=>intro s h; have:=s.down_pos; omega
 | succ n ih =>
  intro s h
  have g1:(1:Nat) ≤ sizeLine:=by decide
  have g2:(2:Nat) ≤ sizeLine:=by decide
  have g3:(3:Nat) ≤ sizeLine:=by decide
  have c12:∀ x:Int,CMul 12 x:=fun x=>.inl ⟨by decide,by decide⟩
  have c4:∀ x:Int,CMul 4 x:=fun x=>.inl ⟨by decide,by decide⟩
  have c2:∀ x:Int,CMul x 2:=fun x=>.inr ⟨by decide,by decide⟩
  have c8:∀ x:Int,CMul x 8:=fun x=>.inr ⟨by decide,by decide⟩
  have ea:∀ k:Sy,k.down ≤ n → d_l_weight_e1 (F_l_weight n) [some (.v k.t)] = some (.v (.a (.int (k.wt:Int))),[some (.v k.t)]):=fun k hk=>lw_e _ k _ (ih k hk)
  have qi:=fun i:Int=>lw_i (F_l_weight n) i
  have qk:=lw_q (F_l_weight n)
  simp only [iT] at qi
  cases s with
  | yes=>simp [F_l_weight,fnD,d_l_weight,Sy.t,Sy.wt,cut1,compD_nil,gd,g1,g2,g3,inS,atomsOf,flatV,inV,eqV]
  | no=>simp [F_l_weight,fnD,d_l_weight,Sy.t,Sy.wt,cut1,compD_nil,gd,g1,g2,g3,inS,atomsOf,flatV,inV,eqV]
  | ask q=>simp [F_l_weight,fnD,d_l_weight,Sy.t,Sy.wt,cut1,compD_cons,compD_nil,gd,g1,g2,g3,inS,atomsOf,flatV,inV,eqV,qi]
  | nt a =>
   have h1:=ea a (by simp only [Sy.down] at h; omega)
   simp [F_l_weight,fnD,d_l_weight,Sy.t,Sy.wt,cut1,compD_cons,compD_nil,gd,g1,g2,g3,inS,atomsOf,flatV,inV,eqV,qk,h1]
  | an a b =>
   have h1:=ea a (by simp only [Sy.down] at h; omega)
   have h2:=ea b (by simp only [Sy.down] at h; omega)
   simp [F_l_weight,fnD,d_l_weight,Sy.t,Sy.wt,cut1,compD_cons,compD_nil,gd,g1,g2,g3,inS,atomsOf,flatV,inV,eqV,qk,h1,h2,c2]
   omega
  | or a b =>
   have h1:=ea a (by simp only [Sy.down] at h; omega)
   have h2:=ea b (by simp only [Sy.down] at h; omega)
   simp [F_l_weight,fnD,d_l_weight,Sy.t,Sy.wt,cut1,compD_cons,compD_nil,gd,g1,g2,g3,inS,atomsOf,flatV,inV,eqV,qk,h1,h2,c2]
   omega
  | ei a b =>
   have h1:=ea a (by simp only [Sy.down] at h; omega)
   have h2:=ea b (by simp only [Sy.down] at h; omega)
   simp [F_l_weight,fnD,d_l_weight,Sy.t,Sy.wt,cut1,compD_cons,compD_nil,gd,g1,g2,g3,inS,atomsOf,flatV,inV,eqV,qk,h1,h2,c8]
   omega
  | mo a b c =>
   have h1:=ea a (by simp only [Sy.down] at h; omega)
   have h2:=ea b (by simp only [Sy.down] at h; omega)
   have h3:=ea c (by simp only [Sy.down] at h; omega)
   simp [F_l_weight,fnD,d_l_weight,Sy.t,Sy.wt,cut1,compD_cons,compD_nil,gd,g1,g2,g3,inS,atomsOf,flatV,inV,eqV,qk,h1,h2,h3,c12,c4]
theorem lp_q (rec:DF) (s:Sy):d_l_many_parts_q1 rec [some (.v s.t)] = some (true,[some (.v s.t)]):=by
 cases s <;> simp [d_l_many_parts_q1,Sy.t,isiS,tyN,subTy]
theorem lp_i (rec:DF) (i:Int):d_l_many_parts_q1 rec [some (.v (iT i))] = some (false,[some (.v (iT i))]):=by
 simp [d_l_many_parts_q1,isiS,tyN,subTy]
theorem lp_e (rec:DF) (s:Sy) (m:Nat) (h:rec [.v s.t] = some (.v (iT (m:Int)),[])):d_l_many_parts_e1 rec [some (.v s.t)] = some (.v (iT (m:Int)),[some (.v s.t)]):=by
 simp only [iT] at h ⊢
 simp [d_l_many_parts_e1,h]
theorem l_parts_ok:∀ (n:Nat) (s:Sy),s.down ≤ n → F_l_many_parts n [.v s.t] = some (.v (iT (s.parts:Int)),[]):=by
 intro n
 induction n with
 | zero=>intro s h; have:=s.down_pos; omega
 | succ n ih =>
  intro s h
  have g1:(1:Nat) ≤ sizeLine:=by decide
  have g2:(2:Nat) ≤ sizeLine:=by decide
  have g3:(3:Nat) ≤ sizeLine:=by decide
  have ea:∀ k:Sy,k.down ≤ n → d_l_many_parts_e1 (F_l_many_parts n) [some (.v k.t)] = some (.v (.a (.int (k.parts:Int))),[some (.v k.t)]):=fun k hk=>lp_e _ k _ (ih k hk)
  have qi:=fun i:Int=>lp_i (F_l_many_parts n) i
  have qk:=lp_q (F_l_many_parts n)
  simp only [iT] at qi
  cases s with
  | yes=>simp [F_l_many_parts,fnD,d_l_many_parts,Sy.t,Sy.parts,cut1,compD_nil,gd,sumS,intsOf]
  | no=>simp [F_l_many_parts,fnD,d_l_many_parts,Sy.t,Sy.parts,cut1,compD_nil,gd,sumS,intsOf]
  | ask q=>simp [F_l_many_parts,fnD,d_l_many_parts,Sy.t,Sy.parts,cut1,compD_cons,compD_nil,gd,g1,sumS,intsOf,qi]
  | nt a =>
   have h1:=ea a (by simp only [Sy.down] at h; omega)
   simp [F_l_many_parts,fnD,d_l_many_parts,Sy.t,Sy.parts,cut1,compD_cons,compD_nil,gd,g1,sumS,intsOf,qk,h1]
  | an a b =>
   have h1:=ea a (by simp only [Sy.down] at h; omega)
   have h2:=ea b (by simp only [Sy.down] at h; omega)
   simp [F_l_many_parts,fnD,d_l_many_parts,Sy.t,Sy.parts,cut1,compD_cons,compD_nil,gd,g1,g2,sumS,intsOf,qk,h1,h2]
   omega
  | or a b =>
   have h1:=ea a (by simp only [Sy.down] at h; omega)
   have h2:=ea b (by simp only [Sy.down] at h; omega)
   simp [F_l_many_parts,fnD,d_l_many_parts,Sy.t,Sy.parts,cut1,compD_cons,compD_nil,gd,g1,g2,sumS,intsOf,qk,h1,h2]
   omega
  | ei a b =>
   have h1:=ea a (by simp only [Sy.down] at h; omega)
   have h2:=ea b (by simp only [Sy.down] at h; omega)
   simp [F_l_many_parts,fnD,d_l_many_parts,Sy.t,Sy.parts,cut1,compD_cons,compD_nil,gd,g1,g2,sumS,intsOf,qk,h1,h2]
   omega
  | mo a b c =>
   have h1:=ea a (by simp only [Sy.down] at h; omega)
   have h2:=ea b (by simp only [Sy.down] at h; omega)
   have h3:=ea c (by simp only [Sy.down] at h; omega)
   simp [F_l_many_parts,fnD,d_l_many_parts,Sy.t,Sy.parts,cut1,compD_cons,compD_nil,gd,g1,g2,g3,sumS,intsOf,qk,h1,h2,h3]
   omega
noncomputable def wTail (rec:DF):DS:=dSeq (dSet 9 (dOp addS (dC (.int 1)) (dCall (some 0) F_l_take [] (dCons (dVar 0) (dCons (dOp subS (dVar 6) (dC (.int 1))) dNil)))))
 (dSeq (dSet 10 (dCall (some 0) rec [] (dCons (dVar 0) (dCons (dVar 1) (dCons (dVar 9) (dCons (dOp subS (dVar 3) (dC (.int 1))) dNil))))))
 (dRet (dOp addS (dTup (dCons (dVar 5) (dCons (dVar 10) (dCons (dCall (some 0) rec [] (dCons (dVar 0) (dCons (dVar 1) (dCons (dOp subS (dVar 6) (dVar 9)) (dCons (dOp subS (dVar 3) (dC (.int 1))) dNil))))) dNil)))) (dVar 7))))
theorem w_tail (q n dn:Nat) (hdn:2 ≤ dn) (ih:∀ (a b:Int) (most:Nat),1 ≤ most → most ≤ 1000 → ∃ (s:Sy) (a' b':Int),s.down ≤ max 1 (dn - 1) ∧ s.qs q ∧ F_l_weighed n [.l [iT a,iT b],.v (iT (q:Int)),.v (iT (most:Int)),.v (iT ((dn - 1:Nat):Int))] = some (.v s.t,[iT a',iT b']))
  (a b:Int) (mo f:Int) (w:Str) (r:Nat) (l:List T) (o8:Option G) (hr:2 ≤ r) (hr2:r ≤ 1000) (hl:l.length ≤ 10) :
  ∃ (s1 s2:Sy) (a' b':Int) (o9 o10:Option G),s1.down ≤ max 1 (dn - 1) ∧ s1.qs q ∧ s2.down ≤ max 1 (dn - 1) ∧ s2.qs q ∧ wTail (F_l_weighed n) [some (.l [iT a,iT b]),some (.v (iT (q:Int))),some (.v (iT mo)),some (.v (iT (dn:Int))),some (.v (iT f)),some (.v (sT w)),some (.v (iT (r:Int))),some (.v (.t l)),o8,none,none] =
   some (.rt (.v (.t ([sT w,s1.t,s2.t] ++ l))) [some (.l [iT a',iT b']),some (.v (iT (q:Int))),some (.v (iT mo)),some (.v (iT (dn:Int))),some (.v (iT f)),some (.v (sT w)),some (.v (iT (r:Int))),some (.v (.t l)),o8,o9,o10]):=by
 obtain ⟨k,a1,b1,hk,e1⟩:=take_nat a b (r - 1) (by omega) (by omega)
 obtain ⟨x,hx⟩:∃ x:Nat,x = 1 + k:=⟨1 + k,rfl⟩
 obtain ⟨s1,a2,b2,u1,u2,e2⟩:=ih a1 b1 x (by omega) (by omega)
 obtain ⟨s2,a3,b3,v1,v2,e3⟩:=ih a2 b2 (r - x) (by omega) (by omega)
 have c1:(1:Int) + (k:Int) = (x:Int):=by omega
 have c2:(r:Int) - 1 = ((r - 1:Nat):Int):=by omega
 have c3:(r:Int) - (x:Int) = ((r - x:Nat):Int):=by omega
 have c4:(dn:Int) - 1 = ((dn - 1:Nat):Int):=by omega
 have g3:(3:Nat) ≤ sizeLine:=by decide
 have g4:3 + l.length ≤ sizeLine:=Nat.le_trans (show 3 + l.length ≤ 13 by omega) (by decide)
 have g5:l.length + 1 + 1 + 1 ≤ sizeLine:=Nat.le_trans (show l.length + 1 + 1 + 1 ≤ 13 by omega) (by decide)
 refine ⟨s1,s2,a3,b3,some (.v (iT (x:Int))),some (.v s1.t),u1,u2,v1,v2,?_⟩
 simp only [iT] at e1 e2 e3 ⊢
 unfold wTail
 refine seq_nx' (Γ':=[some (.l [iT a1,iT b1]),some (.v (iT (q:Int))),some (.v (iT mo)),some (.v (iT (dn:Int))),some (.v (iT f)),some (.v (sT w)),some (.v (iT (r:Int))),some (.v (.t l)),o8,some (.v (iT (x:Int))),none]) (by simp [c2,e1,c1]) ?_
 refine seq_nx' (Γ':=[some (.l [iT a2,iT b2]),some (.v (iT (q:Int))),some (.v (iT mo)),some (.v (iT (dn:Int))),some (.v (iT f)),some (.v (sT w)),some (.v (iT (r:Int))),some (.v (.t l)),o8,some (.v (iT (x:Int))),some (.v s1.t)]) (by simp [c4,e2]) ?_
 simp [c3,c4,e3,gd,g3,g4,g5]
theorem weighed_ok (q:Nat) (hq0:0 < q) (hq:q ≤ 100):∀ (n:Nat) (a b:Int) (most down:Nat),1 ≤ n → down ≤ n → 1 ≤ most → most ≤ 1000 → ∃ (s:Sy) (a' b':Int),s.down ≤ max 1 down ∧ s.qs q ∧
  F_l_weighed n [.l [iT a,iT b],.v (iT (q:Int)),.v (iT (most:Int)),.v (iT (down:Int))] = some (.v s.t,[iT a',iT b']):=by
 intro n
 induction n with
 | zero=>intro a b most down h; omega
 | succ n ih =>
  intro a b most down _ hd hm hm2
  obtain ⟨f,a1,b1,hf,e1⟩:=take_nat a b 8 (by decide) (by decide)
  have e1':F_l_take [.l [.a (.int a),.a (.int b)],.v (.a (.int 8))] = some (.v (.a (.int (f:Int))),[.a (.int a1),.a (.int b1)]):=e1
  have g1:(1:Nat) ≤ sizeLine:=by decide
  have g2:(2:Nat) ≤ sizeLine:=by decide
  let Γ1:En:=[some (.l [iT a1,iT b1]),some (.v (iT (q:Int))),some (.v (iT (most:Int))),some (.v (iT (down:Int))),some (.v (iT (f:Int))),none,none,none,none,none,none]
  by_cases leaf:most < 4 ∨ down < 2 ∨ f = 0
  ·obtain ⟨s,a2,b2,h1,h2,h3,e2⟩:=saying_ok q hq0 hq fuel_l_saying a1 b1 1 1 (by decide) (by decide) (by decide) (by decide)
   have e2':F_l_saying fuel_l_saying [.l [.a (.int a1),.a (.int b1)],.v (.a (.int (q:Int))),.v (.a (.int 1)),.v (.a (.int 1))] = some (.v s.t,[.a (.int a2),.a (.int b2)]):=e2
   refine ⟨s,a2,b2,by omega,h3,?_⟩
   refine fnD_rt (nN:=11) (g:=d_l_weighed (F_l_weighed n)) (s:=.v s.t) (rest:=[some (.v (iT (q:Int))),some (.v (iT (most:Int))),some (.v (iT (down:Int))),some (.v (iT (f:Int))),none,none,none,none,none,none]) rfl ?_ rfl
   unfold d_l_weighed
   refine seq_nx' (Γ':=Γ1) (by simp [e1',Γ1]) ?_
   refine seq_rt (if_t (Γ':=Γ1) ?_ ?_)
   ·by_cases h1:most < 4
    ·have:(most:Int) < 4:=by omega
     simp [this,Γ1]
    ·have h1':¬ (most:Int) < 4:=by omega
     by_cases h2:down < 2
     ·have:(down:Int) < 2:=by omega
      simp [this,h1',Γ1]
     ·have h2':¬ (down:Int) < 2:=by omega
      have:f = 0:=by omega
      simp [this,h1',h2',Γ1]
   ·simp [e2',Γ1]
  ·have l1:¬ (most:Int) < 4:=by omega
   have l2:¬ (down:Int) < 2:=by omega
   have l3:¬ f = 0:=by omega
   have head:∀ {r:Option O} (X:DS),X Γ1 = r → dSeq (dIf (dOr (dTest (dOp ltS (dVar 2) (dC (.int 4)))) (dOr (dTest (dOp ltS (dVar 3) (dC (.int 2)))) (dTest (dOp eqS (dVar 4) (dC (.int 0)))))) (dRet (dCall (some 0) (F_l_saying fuel_l_saying) [] (dCons (dVar 0) (dCons (dVar 1) (dCons (dC (.int 1)) (dCons (dC (.int 1)) dNil)))))) dNext) X Γ1 = r:=fun X h =>
    seq_nx' (Γ':=Γ1) (if_f (Γ':=Γ1) (by simp [l1,l2,l3,Γ1]) rfl) h
   by_cases one:f = 1
   ·subst one
    obtain ⟨s,a2,b2,h1,h2,e2⟩:=ih a1 b1 most (down - 1) (by omega) (by omega) hm hm2
    have c4:(down:Int) - 1 = ((down - 1:Nat):Int):=by omega
    refine ⟨.nt s,a2,b2,by simp only [Sy.down]; omega,h2,?_⟩
    simp only [iT] at e2
    refine fnD_rt (nN:=11) (g:=d_l_weighed (F_l_weighed n)) (s:=.v (Sy.t (.nt s))) (rest:=[some (.v (iT (q:Int))),some (.v (iT (most:Int))),some (.v (iT (down:Int))),some (.v (iT ((1:Nat):Int))),none,none,none,none,none,none]) rfl ?_ rfl
    unfold d_l_weighed
    refine seq_nx' (Γ':=Γ1) (by simp [e1',Γ1]) (head _ ?_)
    refine seq_rt (if_t (Γ':=Γ1) (by simp [Γ1]) ?_)
    simp only [Sy.t]
    simp [c4,e2,gd,g2,Γ1]
   ·have o1:¬ (f:Int) = 1:=by omega
    have ih':∀ (a b:Int) (most:Nat),1 ≤ most → most ≤ 1000 → ∃ (s:Sy) (a' b':Int),s.down ≤ max 1 (down - 1) ∧ s.qs q ∧ F_l_weighed n [.l [iT a,iT b],.v (iT (q:Int)),.v (iT (most:Int)),.v (iT ((down - 1:Nat):Int))] = some (.v s.t,[iT a',iT b']):=fun a b mm h1 h2=>ih a b mm (down - 1) (by omega) (by omega) h1 h2
    have d2:CDiv (most:Int) 2:=⟨by decide,by decide⟩
    have d8:CDiv (most:Int) 8:=⟨by decide,by decide⟩
    obtain ⟨w0,ew,hw0⟩:∃ w0:Str,atI [sT "and",sT "or"] ((f:Int) % 2) = some (sT w0) ∧ (w0 = "and" ∨ w0 = "or"):=by
     have:f % 2 = 0 ∨ f % 2 = 1:=by omega
     rcases this with h | h
     ·exact ⟨"and",by rw [show (f:Int) % 2 = ((0:Nat):Int) by omega]; rfl,.inl rfl⟩
     ·exact ⟨"or",by rw [show (f:Int) % 2 = ((1:Nat):Int) by omega]; rfl,.inr rfl⟩
    obtain ⟨hh,ehh⟩:∃ hh:Nat,hh = most / 2:=⟨most / 2,rfl⟩
    obtain ⟨hg,ehg⟩:∃ hg:Nat,hg = most / 8:=⟨most / 8,rfl⟩
    have m2:(most:Int) / 2 = (hh:Int):=by omega
    have m8:(most:Int) / 8 = (hg:Int):=by omega
    let Γ2:En:=[some (.l [iT a1,iT b1]),some (.v (iT (q:Int))),some (.v (iT (most:Int))),some (.v (iT (down:Int))),some (.v (iT (f:Int))),some (.v (sT w0)),some (.v (iT (hh:Int))),some (.v (.t [])),none,none,none]
    have par:∀ {r:Option O} (X:DS),X Γ2 = r → dSeq (dIf (dTest (dOp eqS (dVar 4) (dC (.int 1)))) (dRet (dTup (dCons (dC (.str "not")) (dCons (dCall (some 0) (F_l_weighed n) [] (dCons (dVar 0) (dCons (dVar 1) (dCons (dVar 2) (dCons (dOp subS (dVar 3) (dC (.int 1))) dNil))))) dNil)))) dNext)
      (dSeq (dPar3 5 6 7 (dCons (dOp ixS (dLst (dCons (dC (.str "and")) (dCons (dC (.str "or")) dNil))) (dOp modS (dVar 4) (dC (.int 2)))) (dCons (dOp fdivS (dVar 2) (dC (.int 2))) (dCons (dTup dNil) dNil)))) X) Γ1 = r:=fun X h=>by
     refine seq_nx' (Γ':=Γ1) (if_f (Γ':=Γ1) (by simp [o1,Γ1]) rfl) ?_
     refine seq_nx' (Γ':=Γ2) ?_ h
     simp only [Γ1,Γ2]
     simp [gd,g2,ew,d2,m2]
    by_cases mst:f < 4 ∧ most > 27
    ·obtain ⟨z4,ez4⟩:∃ z4:Nat,z4 = (most - 24) / 4:=⟨(most - 24) / 4,rfl⟩
     obtain ⟨k,a2,b2,hk,e2⟩:=take_nat a1 b1 z4 (by omega) (by omega)
     obtain ⟨x,hx⟩:∃ x:Nat,x = 1 + k:=⟨1 + k,rfl⟩
     have c1:(1:Int) + (k:Int) = (x:Int):=by omega
     have d4:∀ z:Int,CDiv z 4:=fun z=>⟨by decide,by decide⟩
     have d12:∀ z:Int,CDiv z 12:=fun z=>⟨by decide,by decide⟩
     have cm4:CMul 4 (x:Int):=.inl ⟨by decide,by decide⟩
     have m24:((most:Int) - 24) / 4 = (z4:Int):=by omega
     obtain ⟨y,hy⟩:∃ y:Nat,y = (most - 4 * x) / 12:=⟨_,rfl⟩
     have m12:((most:Int) - 4 * (x:Int)) / 12 = (y:Int):=by omega
     obtain ⟨s0,a3,b3,h01,h02,e3⟩:=ih' a2 b2 x (by omega) (by omega)
     have c4:(down:Int) - 1 = ((down - 1:Nat):Int):=by omega
     obtain ⟨s1,s2,a4,b4,o9,o10,u1,u2,v1,v2,e4⟩:=w_tail q n down (by omega) ih' a3 b3 most f "most" y [s0.t] (some (.v (iT (x:Int)))) (by omega) (by omega) (by simp)
     refine ⟨.mo s1 s2 s0,a4,b4,by simp only [Sy.down]; omega,⟨u2,v2,h02⟩,?_⟩
     simp only [iT] at e2 e3
     refine fnD_rt (nN:=11) (g:=d_l_weighed (F_l_weighed n)) (s:=.v (Sy.t (.mo s1 s2 s0))) (rest:=[some (.v (iT (q:Int))),some (.v (iT (most:Int))),some (.v (iT (down:Int))),some (.v (iT (f:Int))),some (.v (sT "most")),some (.v (iT (y:Int))),some (.v (.t [s0.t])),some (.v (iT (x:Int))),o9,o10]) rfl ?_ rfl
     unfold d_l_weighed
     refine seq_nx' (Γ':=Γ1) (by simp [e1',Γ1]) (head _ (par _ ?_))
     have f4:(f:Int) < 4:=by omega
     have f4':¬ (f:Int) = 4:=by omega
     have b27:(27:Int) < (most:Int):=by omega
     refine seq_nx' (Γ':=Γ2) (if_f (Γ':=Γ2) (by simp [f4',Γ2]) rfl) ?_
     refine seq_nx' (Γ':=[some (.l [iT a3,iT b3]),some (.v (iT (q:Int))),some (.v (iT (most:Int))),some (.v (iT (down:Int))),some (.v (iT (f:Int))),some (.v (sT "most")),some (.v (iT (y:Int))),some (.v (.t [s0.t])),some (.v (iT (x:Int))),none,none]) (if_t (Γ':=Γ2) (by simp [f4,b27,Γ2]) ?_) e4
     refine seq_nx' (Γ':=[some (.l [iT a2,iT b2]),some (.v (iT (q:Int))),some (.v (iT (most:Int))),some (.v (iT (down:Int))),some (.v (iT (f:Int))),some (.v (sT w0)),some (.v (iT (hh:Int))),some (.v (.t [])),some (.v (iT (x:Int))),none,none]) (by simp only [Γ2,iT]; simp [d4,m24,e2,c1]) ?_
     refine seq_nx' (Γ':=[some (.l [iT a2,iT b2]),some (.v (iT (q:Int))),some (.v (iT (most:Int))),some (.v (iT (down:Int))),some (.v (iT (f:Int))),some (.v (sT "most")),some (.v (iT (y:Int))),some (.v (.t [])),some (.v (iT (x:Int))),none,none]) (by simp only [iT]; simp [d12,cm4,m12]) ?_
     simp only [iT]
     simp [c4,e3,gd,g1]
    ·by_cases ei:f = 4 ∧ most > 15
     ·obtain ⟨s1,s2,a4,b4,o9,o10,u1,u2,v1,v2,e4⟩:=w_tail q n down (by omega) ih' a1 b1 most f "either" hg [] none (by omega) (by omega) (by simp)
      refine ⟨.ei s1 s2,a4,b4,by simp only [Sy.down]; omega,⟨u2,v2⟩,?_⟩
      refine fnD_rt (nN:=11) (g:=d_l_weighed (F_l_weighed n)) (s:=.v (Sy.t (.ei s1 s2))) (rest:=[some (.v (iT (q:Int))),some (.v (iT (most:Int))),some (.v (iT (down:Int))),some (.v (iT (f:Int))),some (.v (sT "either")),some (.v (iT (hg:Int))),some (.v (.t [])),none,o9,o10]) rfl ?_ rfl
      unfold d_l_weighed
      refine seq_nx' (Γ':=Γ1) (by simp [e1',Γ1]) (head _ (par _ ?_))
      have f4:(f:Int) = 4:=by omega
      have b15:(15:Int) < (most:Int):=by omega
      let Γ3:En:=[some (.l [iT a1,iT b1]),some (.v (iT (q:Int))),some (.v (iT (most:Int))),some (.v (iT (down:Int))),some (.v (iT (f:Int))),some (.v (sT "either")),some (.v (iT (hg:Int))),some (.v (.t [])),none,none,none]
      refine seq_nx' (Γ':=Γ3) (if_t (Γ':=Γ2) (by simp [f4,b15,Γ2]) (by simp only [Γ2,Γ3,iT]; simp [d8,m8])) ?_
      refine seq_nx' (Γ':=Γ3) (if_f (Γ':=Γ3) (by simp [f4,Γ3]) rfl) e4
     ·obtain ⟨s1,s2,a4,b4,o9,o10,u1,u2,v1,v2,e4⟩:=w_tail q n down (by omega) ih' a1 b1 most f w0 hh [] none (by omega) (by omega) (by simp)
      have go:F_l_weighed (n + 1) [.l [iT a,iT b],.v (iT (q:Int)),.v (iT (most:Int)),.v (iT (down:Int))] = some (.v (.t [sT w0,s1.t,s2.t]),[iT a4,iT b4]):=by
       refine fnD_rt (nN:=11) (g:=d_l_weighed (F_l_weighed n)) (s:=.v (.t [sT w0,s1.t,s2.t])) (rest:=[some (.v (iT (q:Int))),some (.v (iT (most:Int))),some (.v (iT (down:Int))),some (.v (iT (f:Int))),some (.v (sT w0)),some (.v (iT (hh:Int))),some (.v (.t [])),none,o9,o10]) rfl ?_ rfl
       unfold d_l_weighed
       refine seq_nx' (Γ':=Γ1) (by simp [e1',Γ1]) (head _ (par _ ?_))
       refine seq_nx' (Γ':=Γ2) (if_f (Γ':=Γ2) ?_ rfl) ?_
       ·by_cases f4:(f:Int) = 4
        ·have:¬ (15:Int) < (most:Int):=by omega
         simp [f4,this,Γ2]
        ·simp [f4,Γ2]
       ·refine seq_nx' (Γ':=Γ2) (if_f (Γ':=Γ2) ?_ rfl) e4
        by_cases f4:(f:Int) < 4
        ·have:¬ (27:Int) < (most:Int):=by omega
         simp [f4,this,Γ2]
        ·simp [f4,Γ2]
      rcases hw0 with rfl | rfl
      ·exact ⟨.an s1 s2,a4,b4,by simp only [Sy.down]; omega,⟨u2,v2⟩,go⟩
      ·exact ⟨.or s1 s2,a4,b4,by simp only [Sy.down]; omega,⟨u2,v2⟩,go⟩
theorem Sy.head (s:Sy) (h:s.kids ≠ []):∃ w:Str,s.t = .t (sT w :: s.kids.map Sy.t):=by
 cases s with
 | yes=>exact absurd rfl h
 | no=>exact absurd rfl h
 | ask q=>exact absurd rfl h
 | nt a=>exact ⟨_,rfl⟩
 | an a b=>exact ⟨_,rfl⟩
 | or a b=>exact ⟨_,rfl⟩
 | ei a b=>exact ⟨_,rfl⟩
 | mo a b c=>exact ⟨_,rfl⟩
theorem Sy.leaf (s:Sy) (h:s.kids = []):s.wt = 1 ∧ s.parts = 1:=by
 cases s with
 | yes=>exact ⟨rfl,rfl⟩
 | no=>exact ⟨rfl,rfl⟩
 | ask q=>exact ⟨rfl,rfl⟩
 | nt a=>cases h
 | an a b=>cases h
 | or a b=>cases h
 | ei a b=>cases h
 | mo a b c=>cases h
theorem Sy.kid {q:Nat} {s k:Sy} (h:k ∈ s.kids):k.down < s.down ∧ (s.qs q → k.qs q):=by
 cases s with
 | yes=>cases h
 | no=>cases h
 | ask q=>cases h
 | nt a =>
  simp only [Sy.kids,List.mem_cons,List.not_mem_nil,or_false] at h
  subst h
  exact ⟨by simp only [Sy.down]; omega,fun z=>z⟩
 | an a b =>
  simp only [Sy.kids,List.mem_cons,List.not_mem_nil,or_false] at h
  rcases h with rfl | rfl
  ·exact ⟨by simp only [Sy.down]; omega,fun z=>z.1⟩
  ·exact ⟨by simp only [Sy.down]; omega,fun z=>z.2⟩
 | or a b =>
  simp only [Sy.kids,List.mem_cons,List.not_mem_nil,or_false] at h
  rcases h with rfl | rfl
  ·exact ⟨by simp only [Sy.down]; omega,fun z=>z.1⟩
  ·exact ⟨by simp only [Sy.down]; omega,fun z=>z.2⟩
 | ei a b =>
  simp only [Sy.kids,List.mem_cons,List.not_mem_nil,or_false] at h
  rcases h with rfl | rfl
  ·exact ⟨by simp only [Sy.down]; omega,fun z=>z.1⟩
  ·exact ⟨by simp only [Sy.down]; omega,fun z=>z.2⟩
 | mo a b c =>
  simp only [Sy.kids,List.mem_cons,List.not_mem_nil,or_false] at h
  rcases h with rfl | rfl | rfl
  ·exact ⟨by simp only [Sy.down]; omega,fun z=>z.1⟩
  ·exact ⟨by simp only [Sy.down]; omega,fun z=>z.2.1⟩
  ·exact ⟨by simp only [Sy.down]; omega,fun z=>z.2.2⟩
theorem Sy.kids3 (s:Sy):s.kids.length ≤ 3:=by cases s <;> simp [Sy.kids]
theorem light_loop (q room most:Nat) (h1:1 ≤ room) (h2:1 ≤ most):∀ (m:Nat) (s:Sy) (a b:Int) (fuel:Nat),s.down ≤ m → s.down ≤ 12 → m < fuel → s.qs q → ∃ (s':Sy) (a' b':Int),s'.down ≤ s.down ∧ s'.qs q ∧ s'.wt ≤ most ∧ s'.parts ≤ room ∧
  dWhile d_l_light_c1 d_l_light_b1 fuel [some (.l [iT a,iT b]),some (.v (iT (q:Int))),some (.v (iT (room:Int))),some (.v (iT (most:Int))),some (.v s.t)] = some (.nx [some (.l [iT a',iT b']),some (.v (iT (q:Int))),some (.v (iT (room:Int))),some (.v (iT (most:Int))),some (.v s'.t)]):=by
 intro m
 induction m with
 | zero=>intro s a b fuel h; have:=s.down_pos; omega
 | succ m ih =>
  intro s a b fuel hd h12 hf hq
  obtain ⟨f,rfl⟩:∃ f,fuel = f + 1:=⟨fuel - 1,by omega⟩
  have ew:=l_weight_ok fuel_l_weight s h12
  have ep:=l_parts_ok fuel_l_many_parts s h12
  by_cases c:s.wt > most ∨ s.parts > room
  ·have hk:s.kids ≠ []:=fun z=>by have:=s.leaf z; omega
   obtain ⟨w,et⟩:=s.head hk
   obtain ⟨j,a1,b1,hj,e1⟩:=take_nat a b s.kids.length (List.length_pos_iff.mpr hk) (by have:=s.kids3; omega)
   obtain ⟨k,ek⟩:∃ k,s.kids[j]? = some k:=⟨s.kids[j],by simp [hj]⟩
   have hm:k ∈ s.kids:=List.mem_of_getElem? ek
   obtain ⟨kd,kq⟩:=Sy.kid (q:=q) hm
   obtain ⟨s',a',b',u1,u2,u3,u4,e2⟩:=ih k a1 b1 f (by omega) (by omega) (by omega) (kq hq)
   refine ⟨s',a',b',by omega,u2,u3,u4,?_⟩
   rw [← e2,dWhile_succ]
   have test:d_l_light_c1 [some (.l [iT a,iT b]),some (.v (iT (q:Int))),some (.v (iT (room:Int))),some (.v (iT (most:Int))),some (.v s.t)] = some (true,[some (.l [iT a,iT b]),some (.v (iT (q:Int))),some (.v (iT (room:Int))),some (.v (iT (most:Int))),some (.v s.t)]):=by
    simp only [iT] at ew ep ⊢
    by_cases c1:s.wt > most
    ·have:(most:Int) < (s.wt:Int):=by omega
     simp [d_l_light_c1,ew,this]
    ·have c1':¬ (most:Int) < (s.wt:Int):=by omega
     have:(room:Int) < (s.parts:Int):=by omega
     simp [d_l_light_c1,ew,ep,c1',this]
   have body:d_l_light_b1 [some (.l [iT a,iT b]),some (.v (iT (q:Int))),some (.v (iT (room:Int))),some (.v (iT (most:Int))),some (.v s.t)] = some (.nx [some (.l [iT a1,iT b1]),some (.v (iT (q:Int))),some (.v (iT (room:Int))),some (.v (iT (most:Int))),some (.v k.t)]):=by
    simp only [iT] at e1 ⊢
    have el:((s.kids.map Sy.t).length + 1:Nat) = s.kids.length + 1:=by simp
    have ei:atI (sT w :: s.kids.map Sy.t) (1 + (j:Int)) = some k.t:=by
     rw [show (1:Int) + (j:Int) = ((j + 1:Nat):Int) by omega,atI_nat']
     simp [ek]
    rw [et]
    simp only [sT] at ei ⊢
    simp [d_l_light_b1,e1,ei]
   rw [test,Option.bind_some,if_pos rfl,body,Option.bind_some]
  ·have c1:¬ (most:Int) < (s.wt:Int):=by omega
   have c2:¬ (room:Int) < (s.parts:Int):=by omega
   refine ⟨s,a,b,Nat.le_refl _,hq,by omega,by omega,?_⟩
   rw [dWhile_succ]
   simp only [iT] at ew ep ⊢
   simp [d_l_light_c1,ew,ep,c1,c2]
theorem light_ok (q room most:Nat) (hq0:0 < q) (hq:q ≤ 100) (h1:1 ≤ room) (h1':room ≤ 1000) (h2:1 ≤ most) (h2':most ≤ 1000) (a b:Int):∃ (s:Sy) (a' b':Int),s.down ≤ 6 ∧ s.qs q ∧ s.wt ≤ most ∧ s.parts ≤ room ∧
  F_l_light [.l [iT a,iT b],.v (iT (q:Int)),.v (iT (room:Int)),.v (iT (most:Int))] = some (.v s.t,[iT a',iT b']):=by
 obtain ⟨s,a1,b1,u1,u2,u3,e1⟩:=saying_ok q hq0 hq fuel_l_saying a b room 6 (by decide) (by decide) h1 h1'
 obtain ⟨c,a2,b2,hc,e2⟩:=take_nat a1 b1 2 (by decide) (by decide)
 have e1':F_l_saying fuel_l_saying [.l [.a (.int a),.a (.int b)],.v (.a (.int (q:Int))),.v (.a (.int (room:Int))),.v (.a (.int 6))] = some (.v s.t,[.a (.int a1),.a (.int b1)]):=e1
 have e2':F_l_take [.l [.a (.int a1),.a (.int b1)],.v (.a (.int 2))] = some (.v (.a (.int (c:Int))),[.a (.int a2),.a (.int b2)]):=e2
 by_cases c0:c = 0
 ·obtain ⟨s2,a3,b3,v1,v2,e3⟩:=weighed_ok q hq0 hq fuel_l_weighed a2 b2 most 6 (by decide) (by decide) h2 h2'
  have e3':F_l_weighed fuel_l_weighed [.l [.a (.int a2),.a (.int b2)],.v (.a (.int (q:Int))),.v (.a (.int (most:Int))),.v (.a (.int 6))] = some (.v s2.t,[.a (.int a3),.a (.int b3)]):=e3
  obtain ⟨s',a',b',w1,w2,w3,w4,e4⟩:=light_loop q room most h1 h2 12 s2 a3 b3 fuelX (by omega) (by omega) (by rw [fuelX_eq]; omega) v2
  refine ⟨s',a',b',by omega,w2,w3,w4,?_⟩
  simp only [iT] at e4
  simp [F_l_light,fnD,d_l_light,e1',e2',c0,e3',e4]
 ·obtain ⟨s',a',b',w1,w2,w3,w4,e4⟩:=light_loop q room most h1 h2 12 s a2 b2 fuelX (by omega) (by omega) (by rw [fuelX_eq]; omega) u3
  refine ⟨s',a',b',by omega,w2,w3,w4,?_⟩
  simp only [iT] at e4
  simp [F_l_light,fnD,d_l_light,e1',e2',c0,e4]
noncomputable def cB:Nat → Nat
 | 0=>1
 | k + 1=>2 * cB k + 10
theorem spell_parts:∀ (k:Nat) (s:Sy),s.down ≤ k → s.spell.parts ≤ cB k * s.parts:=by
 intro k
 induction k with
 | zero=>intro s h; have:=s.down_pos; omega
 | succ k ih =>
  intro s h
  have e:∀ p:Nat,cB (k + 1) * p = 2 * (cB k * p) + 10 * p:=fun p=>by
   show (2 * cB k + 10) * p = _
   rw [Nat.add_mul,Nat.mul_assoc]
  rw [e]
  cases s with
  | yes=>simp only [Sy.spell,Sy.parts]; omega
  | no=>simp only [Sy.spell,Sy.parts]; omega
  | ask q=>simp only [Sy.spell,Sy.parts]; omega
  | nt a =>
   have h1:=ih a (by simp only [Sy.down] at h; omega)
   simp only [Sy.spell,Sy.parts,Nat.mul_add]
   omega
  | an a b =>
   have h1:=ih a (by simp only [Sy.down] at h; omega)
   have h2:=ih b (by simp only [Sy.down] at h; omega)
   simp only [Sy.spell,Sy.parts,Nat.mul_add]
   omega
  | or a b =>
   have h1:=ih a (by simp only [Sy.down] at h; omega)
   have h2:=ih b (by simp only [Sy.down] at h; omega)
   simp only [Sy.spell,orS,Sy.parts,Nat.mul_add]
   omega
  | ei a b =>
   have h1:=ih a (by simp only [Sy.down] at h; omega)
   have h2:=ih b (by simp only [Sy.down] at h; omega)
   simp only [Sy.spell,orS,Sy.parts,Nat.mul_add]
   omega
  | mo a b c =>
   have h1:=ih a (by simp only [Sy.down] at h; omega)
   have h2:=ih b (by simp only [Sy.down] at h; omega)
   have h3:=ih c (by simp only [Sy.down] at h; omega)
   simp only [Sy.spell,orS,Sy.parts,Nat.mul_add]
   omega
theorem spell_down:∀ s:Sy,s.spell.down ≤ 7 * s.down
 | .yes=>by simp [Sy.spell,Sy.down]
 | .no=>by simp [Sy.spell,Sy.down]
 | .ask _=>by simp [Sy.spell,Sy.down]
 | .nt a=>by have:=spell_down a; simp only [Sy.spell,Sy.down]; omega
 | .an a b=>by have:=spell_down a; have:=spell_down b; simp only [Sy.spell,Sy.down]; omega
 | .or a b=>by have:=spell_down a; have:=spell_down b; simp only [Sy.spell,orS,Sy.down]; omega
 | .ei a b=>by have:=spell_down a; have:=spell_down b; simp only [Sy.spell,orS,Sy.down]; omega
 | .mo a b c=>by have:=spell_down a; have:=spell_down b; have:=spell_down c; simp only [Sy.spell,orS,Sy.down]; omega
end Lw
set_option Elab.async false
set_option linter.all false
set_option maxRecDepth 100000
set_option maxHeartbeats 4000000
namespace Lw
open PySem L2 D
noncomputable def Sy.so (as:List Nat):Sy → Bool
 | .yes=>true
 | .no=>false
 | .ask q=>as.getD q 0 == 1
 | .nt a=>!a.so as
 | .an a b=>a.so as && b.so as
 | .or a b=>a.so as || b.so as
 | .ei a b=>a.so as != b.so as
 | .mo a b c=>(a.so as && b.so as) || (c.so as && (a.so as || b.so as))
theorem cnt_f (bs:List Bool):toDs (bs.map fun b=>T.a (.bl b)) = some (bs.map PyData.bool) ∧ PyData.canLayAll0 (bs.map PyData.bool) = true ∧ gCount (bs.map PyData.bool) (.bool true) = some ((bs.count true:Nat):Int):=by
 refine ⟨?_,?_,?_⟩
 ·induction bs with
  | nil=>rfl
  | cons b r ih=>simp only [List.map_cons,toDs,ih]; rfl
 ·induction bs with
  | nil=>rfl
  | cons b r ih=>simp only [List.map_cons,PyData.canLayAll0,ih]; rfl
 ·unfold gCount
  congr 2
  induction bs with
  | nil=>rfl
  | cons b r ih =>
   rw [List.map_cons,List.countP_cons,ih,List.count_cons]
   cases b <;> rfl
theorem so_by_ok {m:Nat} {as:List Nat} (ha:AnsOk m as) (s:Sy) (hq:s.qs m):F_p_so_by [.v (tuT as),.v s.t,.r (s.kids.map fun k=>T.a (.bl (k.so as)))] = some (.v (.a (.bl (s.so as))),[]):=by
 cases s with
 | ask k =>
  have h0:=ans_get ha (show k < m from hq)
  have h2:=atI_tv h0
  have e1:(decide (((as.getD k 0:Nat):Int) = 1)) = (as.getD k 0 == 1):=by
   by_cases c:as.getD k 0 = 1
   ·rw [c]; rfl
   ·rw [decide_eq_false (by omega),show (as.getD k 0 == 1) = false by simpa using c]
  simp only [Sy.so,Sy.kids,List.map_nil]
  generalize as.getD k 0 = x at *
  unfold tuT
  generalize tvT as = AS at *
  simp only [iT] at h2
  simp [F_p_so_by,fnD,d_p_so_by,Sy.t,h2,e1]
 | yes=>generalize tuT as = AS; simp [F_p_so_by,fnD,d_p_so_by,Sy.t,Sy.so,Sy.kids]
 | no=>generalize tuT as = AS; simp [F_p_so_by,fnD,d_p_so_by,Sy.t,Sy.so,Sy.kids]
 | nt a=>generalize tuT as = AS; simp [F_p_so_by,fnD,d_p_so_by,Sy.t,Sy.so,Sy.kids]
 | an a b=>generalize tuT as = AS; cases ea:a.so as <;> cases eb:b.so as <;> simp [F_p_so_by,fnD,d_p_so_by,Sy.t,Sy.so,Sy.kids,ea,eb]
 | or a b=>generalize tuT as = AS; cases ea:a.so as <;> cases eb:b.so as <;> simp [F_p_so_by,fnD,d_p_so_by,Sy.t,Sy.so,Sy.kids,ea,eb]
 | ei a b=>generalize tuT as = AS; cases ea:a.so as <;> cases eb:b.so as <;> simp [F_p_so_by,fnD,d_p_so_by,Sy.t,Sy.so,Sy.kids,ea,eb]
 | mo a b c =>
  obtain ⟨h1,h2,h3⟩:=cnt_f [a.so as,b.so as,c.so as]
  have e1:toD (T.a (V.bl true)) = some (.bool true):=rfl
  have e2:PyData.canLay0 (.bool true) = true ∧ PyData.depth (.bool true) ≤ 100:=⟨rfl,by decide⟩
  have hb:decide ((2:Int) ≤ (([a.so as,b.so as,c.so as].count true:Nat):Int)) = (Sy.mo a b c).so as:=by
   simp only [Sy.so]
   cases a.so as <;> cases b.so as <;> cases c.so as <;> rfl
  generalize ([a.so as,b.so as,c.so as].count true:Nat) = C at *
  generalize (Sy.mo a b c).so as = B at *
  generalize tuT as = AS at *
  simp only [List.map_cons,List.map_nil] at h1 h2 h3
  simp [F_p_so_by,fnD,d_p_so_by,Sy.t,Sy.kids,h1,h2,h3,e1,e2,hb]
theorem Sy.plT:∀ s:Sy,s.t.pl = true
 | .yes=>by simp [Sy.t,pl_t,pls_cons,pls_nil,pl_a]
 | .no=>by simp [Sy.t,pl_t,pls_cons,pls_nil,pl_a]
 | .ask _=>by simp [Sy.t,pl_t,pls_cons,pls_nil,pl_a]
 | .nt a=>by simp [Sy.t,pl_t,pls_cons,pls_nil,pl_a,a.plT]
 | .an a b=>by simp [Sy.t,pl_t,pls_cons,pls_nil,pl_a,a.plT,b.plT]
 | .or a b=>by simp [Sy.t,pl_t,pls_cons,pls_nil,pl_a,a.plT,b.plT]
 | .ei a b=>by simp [Sy.t,pl_t,pls_cons,pls_nil,pl_a,a.plT,b.plT]
 | .mo a b c=>by simp [Sy.t,pl_t,pls_cons,pls_nil,pl_a,a.plT,b.plT,c.plT]
theorem tu_pl (as:List Nat):(tuT as).pl = true:=by
 rw [pl_t]
 exact pls_all fun t h=>by obtain ⟨k,_,rfl⟩:=List.mem_map.mp h; exact pl_a
theorem lam_ok {m:Nat} {as:List Nat} (ha:AnsOk m as) (s:Sy) (hq:s.qs m):lamF d_lam (tuT as) [.v s.t,.r (s.kids.map fun k=>T.a (.bl (k.so as)))] = some (.bl (s.so as)):=by
 have e:=so_by_ok ha s hq
 have p2:T.pls (s.kids.map fun k=>T.a (.bl (k.so as))) = true:=pls_all fun t h=>by obtain ⟨k,_,rfl⟩:=List.mem_map.mp h; exact pl_a
 have d:d_lam [some (.v s.t),some (.r (s.kids.map fun k=>T.a (.bl (k.so as)))),some (.v (tuT as))] = some (.v (.a (.bl (s.so as))),[some (.v s.t),some (.r (s.kids.map fun k=>T.a (.bl (k.so as)))),some (.v (tuT as))]):=by
  generalize (s.kids.map fun k=>T.a (.bl (k.so as))) = KS at *
  generalize s.so as = B at *
  generalize tuT as = AS at *
  generalize s.t = ST at *
  simp [d_lam,e]
 unfold lamF
 simp only [G.pl,s.plT,p2,tu_pl,Bool.and_self,if_true]
 rw [d]
theorem Sy.rs_putP (f:Sy → T) {PP:T → List T → T → Prop} {m:Nat} (h:∀ s:Sy,s.qs m → PP s.t (s.kids.map f) (f s)):∀ s:Sy,s.qs m → (s.rs f).PutP PP
 | .yes,z=>putP_mk.mpr ⟨h .yes z,putsP_nil⟩
 | .no,z=>putP_mk.mpr ⟨h .no z,putsP_nil⟩
 | .ask q,z=>putP_mk.mpr ⟨h (.ask q) z,putsP_nil⟩
 | .nt a,z=>putP_mk.mpr ⟨by simpa [Sy.kids,Sy.rs_v] using h (.nt a) z,putsP_cons.mpr ⟨a.rs_putP f h z,putsP_nil⟩⟩
 | .an a b,z=>putP_mk.mpr ⟨by simpa [Sy.kids,Sy.rs_v] using h (.an a b) z,putsP_cons.mpr ⟨a.rs_putP f h z.1,putsP_cons.mpr ⟨b.rs_putP f h z.2,putsP_nil⟩⟩⟩
 | .or a b,z=>putP_mk.mpr ⟨by simpa [Sy.kids,Sy.rs_v] using h (.or a b) z,putsP_cons.mpr ⟨a.rs_putP f h z.1,putsP_cons.mpr ⟨b.rs_putP f h z.2,putsP_nil⟩⟩⟩
 | .ei a b,z=>putP_mk.mpr ⟨by simpa [Sy.kids,Sy.rs_v] using h (.ei a b) z,putsP_cons.mpr ⟨a.rs_putP f h z.1,putsP_cons.mpr ⟨b.rs_putP f h z.2,putsP_nil⟩⟩⟩
 | .mo a b c,z=>putP_mk.mpr ⟨by simpa [Sy.kids,Sy.rs_v] using h (.mo a b c) z,putsP_cons.mpr ⟨a.rs_putP f h z.1,putsP_cons.mpr ⟨b.rs_putP f h z.2.1,putsP_cons.mpr ⟨c.rs_putP f h z.2.2,putsP_nil⟩⟩⟩⟩
theorem fwM_eq:F_p_fold_within = fnD none 3 6 (fwDM (fnD none 2 5 (awD tb_1)) tb_1 (dCallM 2 tb_2 L_so d_lam (dCons (dVar 4) (dCons (dVar 5) dNil)))):=rfl
theorem find_inner:tb_1.find? (fun q=>decide (q.1 = ("inner":Str))) = some (("inner":Str),1,F_p_inner):=by rfl
theorem is_so_ok {m:Nat} {as:List Nat} (ha:AnsOk m as) (s:Sy) (hq:s.qs m) (hp:s.parts ≤ 80000):F_p_is_so [.v s.t,.v (tuT as)] = some (.v (.a (.bl (s.so as))),[]):=by
 have:=fold_withinM_ok find_inner (put_lam (tb2:=tb_2) (L:=L_so) (dl:=d_lam) (ta:=tuT as)) (s.rs fun k=>T.a (.bl (k.so as))) (s.rs_in _) (s.rs_putP _ (fun k hk=>⟨_,rfl,lam_ok ha k hk⟩) hq) (by rw [Sy.rs_pre]; exact hp)
 rw [← fwM_eq,Sy.rs_e,Sy.rs_v] at this
 have e:F_p_folded [.v s.t,.v (.m L_so [tuT as])] = some (.v (.a (.bl (s.so as))),[]):=by
  generalize tuT as = AS at *
  generalize s.so as = B at *
  simp [F_p_folded,fnD,d_p_folded,this]
 have d:dHand F_p_folded L_so [some (.v s.t),some (.v (tuT as))] = some (.v (.a (.bl (s.so as))),[some (.v s.t),some (.v (tuT as))]):=by
  unfold dHand
  dsimp only
  rw [e]
 unfold F_p_is_so fnD
 rw [if_pos (show ([.v s.t,.v (tuT as)]:List G).length = 2 from rfl)]
 show (dRet (dHand F_p_folded L_so) [some (.v s.t),some (.v (tuT as))]).bind _ = _
 unfold dRet
 rw [d]
 rfl
theorem weight_of_ok (s:Sy):F_p_weight_of [.v s.t,.r (s.kids.map fun k=>iT (k.wt:Int))] = some (.v (iT (s.wt:Int)),[]):=by
 have g2:(2:Nat) ≤ sizeLine:=by decide
 have c2:∀ x:Int,CMul 2 x:=fun x=>.inl ⟨by decide,by decide⟩
 have c8:∀ x:Int,CMul 8 x:=fun x=>.inl ⟨by decide,by decide⟩
 have c12:∀ x:Int,CMul 12 x:=fun x=>.inl ⟨by decide,by decide⟩
 have c4:∀ x:Int,CMul 4 x:=fun x=>.inl ⟨by decide,by decide⟩
 cases s <;> simp [F_p_weight_of,fnD,d_p_weight_of,Sy.t,Sy.kids,Sy.wt,gd,g2,inS,atomsOf,flatV,inV,eqV,c2,c4,c8,c12]
noncomputable def Sy.lyW:Sy → Nat
 | .an _ _=>1
 | .or _ _=>1
 | .ei _ _=>2
 | .mo _ _ _=>3
 | _=>0
noncomputable def Sy.lyr:Sy → Nat
 | .yes=>0
 | .no=>0
 | .ask _=>0
 | .nt a=>a.lyr
 | .an a b=>1 + max a.lyr b.lyr
 | .or a b=>1 + max a.lyr b.lyr
 | .ei a b=>2 + max a.lyr b.lyr
 | .mo a b c=>3 + max (max a.lyr b.lyr) c.lyr
theorem kt_get (s:Sy) (o:Option G):dKt c_LAYERS_MORE (dOp ixS (dVar 0) (dC (.int 0))) [some (.v s.t),o] = some (.v (iT (s.lyW:Int)),[some (.v s.t),o]):=by
 cases s <;> kernel_rfl
theorem mx2 (a b:Nat):(if (a:Int) < (b:Int) then (b:Int) else (a:Int)) = ((max a b:Nat):Int):=by split <;> omega
theorem layers_of_ok (s:Sy):F_p_layers_of [.v s.t,.r (s.kids.map fun k=>iT (k.lyr:Int))] = some (.v (iT (s.lyr:Int)),[]):=by
 have k:=fun o=>kt_get s o
 have e:∀ (L:List T) (ns:List Int) (n:Int),intsOf L = some ns → (if ns = [] then 0 else maxI ns) = n → F_p_layers_of [.v s.t,.r L] = some (.v (.a (.int ((s.lyW:Int) + n))),[]):=fun L ns n h hn=>by
  have k1:=k (some (.r L))
  simp only [iT] at k1
  generalize s.t = ST at *
  subst hn
  simp [F_p_layers_of,fnD,d_p_layers_of,k1,h,-dKt_ap]
 cases s with
 | yes=>exact e _ [] 0 rfl rfl
 | no=>exact e _ [] 0 rfl rfl
 | ask q=>exact e _ [] 0 rfl rfl
 | nt a =>
  refine (e _ [(a.lyr:Int)] (a.lyr:Int) rfl rfl).trans ?_
  simp [Sy.lyW,Sy.lyr]
 | an a b =>
  refine (e _ [(a.lyr:Int),(b.lyr:Int)] ((max a.lyr b.lyr:Nat):Int) rfl (mx2 _ _)).trans ?_
  simp only [Sy.lyW,Sy.lyr,iT]; rw [Int.natCast_add]
 | or a b =>
  refine (e _ [(a.lyr:Int),(b.lyr:Int)] ((max a.lyr b.lyr:Nat):Int) rfl (mx2 _ _)).trans ?_
  simp only [Sy.lyW,Sy.lyr,iT]; rw [Int.natCast_add]
 | ei a b =>
  refine (e _ [(a.lyr:Int),(b.lyr:Int)] ((max a.lyr b.lyr:Nat):Int) rfl (mx2 _ _)).trans ?_
  simp only [Sy.lyW,Sy.lyr,iT]; rw [Int.natCast_add]
 | mo a b c =>
  refine (e _ [(a.lyr:Int),(b.lyr:Int),(c.lyr:Int)] ((max (max a.lyr b.lyr) c.lyr:Nat):Int) rfl (by rw [← mx2,← mx2]; rfl)).trans ?_
  simp only [Sy.lyW,Sy.lyr,iT]; rw [Int.natCast_add]
theorem wt_lyr:∀ s:Sy,s.wt ≤ 4 ^ s.lyr
 | .yes=>by simp [Sy.wt,Sy.lyr]
 | .no=>by simp [Sy.wt,Sy.lyr]
 | .ask _=>by simp [Sy.wt,Sy.lyr]
 | .nt a=>wt_lyr a
 | .an a b=>by
  have h1:=Nat.le_trans (wt_lyr a) (Nat.pow_le_pow_right (by decide:0 < 4) (Nat.le_max_left a.lyr b.lyr))
  have h2:=Nat.le_trans (wt_lyr b) (Nat.pow_le_pow_right (by decide:0 < 4) (Nat.le_max_right a.lyr b.lyr))
  simp only [Sy.wt,Sy.lyr,Nat.pow_add]; omega
 | .or a b=>by
  have h1:=Nat.le_trans (wt_lyr a) (Nat.pow_le_pow_right (by decide:0 < 4) (Nat.le_max_left a.lyr b.lyr))
  have h2:=Nat.le_trans (wt_lyr b) (Nat.pow_le_pow_right (by decide:0 < 4) (Nat.le_max_right a.lyr b.lyr))
  simp only [Sy.wt,Sy.lyr,Nat.pow_add]; omega
 | .ei a b=>by
  have h1:=Nat.le_trans (wt_lyr a) (Nat.pow_le_pow_right (by decide:0 < 4) (Nat.le_max_left a.lyr b.lyr))
  have h2:=Nat.le_trans (wt_lyr b) (Nat.pow_le_pow_right (by decide:0 < 4) (Nat.le_max_right a.lyr b.lyr))
  simp only [Sy.wt,Sy.lyr,Nat.pow_add]; omega
 | .mo a b c=>by
  have h1:=Nat.le_trans (wt_lyr a) (Nat.pow_le_pow_right (by decide:0 < 4) (Nat.le_trans (Nat.le_max_left a.lyr b.lyr) (Nat.le_max_left _ c.lyr)))
  have h2:=Nat.le_trans (wt_lyr b) (Nat.pow_le_pow_right (by decide:0 < 4) (Nat.le_trans (Nat.le_max_right a.lyr b.lyr) (Nat.le_max_left _ c.lyr)))
  have h3:=Nat.le_trans (wt_lyr c) (Nat.pow_le_pow_right (by decide:0 < 4) (Nat.le_max_right (max a.lyr b.lyr) c.lyr))
  simp only [Sy.wt,Sy.lyr,Nat.pow_add]; omega
theorem lyr_down:∀ s:Sy,s.lyr + 3 ≤ 3 * s.down
 | .yes=>by simp [Sy.lyr,Sy.down]
 | .no=>by simp [Sy.lyr,Sy.down]
 | .ask _=>by simp [Sy.lyr,Sy.down]
 | .nt a=>by have:=lyr_down a; simp only [Sy.lyr,Sy.down]; omega
 | .an a b=>by have:=lyr_down a; have:=lyr_down b; simp only [Sy.lyr,Sy.down]; omega
 | .or a b=>by have:=lyr_down a; have:=lyr_down b; simp only [Sy.lyr,Sy.down]; omega
 | .ei a b=>by have:=lyr_down a; have:=lyr_down b; simp only [Sy.lyr,Sy.down]; omega
 | .mo a b c=>by have:=lyr_down a; have:=lyr_down b; have:=lyr_down c; simp only [Sy.lyr,Sy.down]; omega
end Lw
set_option Elab.async false
set_option linter.all false
set_option maxRecDepth 100000
set_option maxHeartbeats 4000000
namespace Lw
open PySem L2 D
noncomputable def Sy.plain:Sy → Prop
 | .yes=>True
 | .no=>True
 | .ask _=>True
 | .nt a=>a.plain
 | .an a b=>a.plain ∧ b.plain
 | _=>False
theorem spell_plain:∀ s:Sy,s.spell.plain
 | .yes=>trivial
 | .no=>trivial
 | .ask _=>trivial
 | .nt a=>spell_plain a
 | .an a b=>⟨spell_plain a,spell_plain b⟩
 | .or a b=>⟨spell_plain a,spell_plain b⟩
 | .ei a b=>⟨⟨spell_plain a,spell_plain b⟩,⟨spell_plain a,spell_plain b⟩⟩
 | .mo a b c=>⟨⟨spell_plain a,spell_plain b⟩,⟨spell_plain c,⟨spell_plain a,spell_plain b⟩⟩⟩
theorem spell_wt:∀ s:Sy,s.spell.wt = s.wt
 | .yes=>rfl
 | .no=>rfl
 | .ask _=>rfl
 | .nt a=>by have:=spell_wt a; simp only [Sy.spell,Sy.wt]; try omega
 | .an a b=>by have:=spell_wt a; have:=spell_wt b; simp only [Sy.spell,Sy.wt]; try omega
 | .or a b=>by have:=spell_wt a; have:=spell_wt b; simp only [Sy.spell,orS,Sy.wt]; try omega
 | .ei a b=>by have:=spell_wt a; have:=spell_wt b; simp only [Sy.spell,orS,Sy.wt]; try omega
 | .mo a b c=>by have:=spell_wt a; have:=spell_wt b; have:=spell_wt c; simp only [Sy.spell,orS,Sy.wt]; try omega
theorem spell_qs {q:Nat}:∀ s:Sy,s.qs q → s.spell.qs q
 | .yes,_=>trivial
 | .no,_=>trivial
 | .ask _,h=>h
 | .nt a,h=>spell_qs a h
 | .an a b,h=>⟨spell_qs a h.1,spell_qs b h.2⟩
 | .or a b,h=>⟨spell_qs a h.1,spell_qs b h.2⟩
 | .ei a b,h=>⟨⟨spell_qs a h.1,spell_qs b h.2⟩,⟨spell_qs a h.1,spell_qs b h.2⟩⟩
 | .mo a b c,h=>⟨⟨spell_qs a h.1,spell_qs b h.2.1⟩,⟨spell_qs c h.2.2,⟨spell_qs a h.1,spell_qs b h.2.1⟩⟩⟩
noncomputable def Sy.asks:Sy → List Nat
 | .yes=>[]
 | .no=>[]
 | .ask k=>[k]
 | .nt a=>a.asks
 | .an a b=>a.asks ++ b.asks
 | .or a b=>a.asks ++ b.asks
 | .ei a b=>a.asks ++ b.asks
 | .mo a b c=>a.asks ++ b.asks ++ c.asks
theorem Sy.asks_lt {m:Nat}:∀ s:Sy,s.qs m → ∀ k ∈ s.asks,k < m
 | .yes,_,k,h=>nomatch h
 | .no,_,k,h=>nomatch h
 | .ask j,z,k,h=>by rw [List.mem_singleton.mp h]; exact z
 | .nt a,z,k,h=>a.asks_lt z k h
 | .an a b,z,k,h=>(List.mem_append.mp h).elim (a.asks_lt z.1 k) (b.asks_lt z.2 k)
 | .or a b,z,k,h=>(List.mem_append.mp h).elim (a.asks_lt z.1 k) (b.asks_lt z.2 k)
 | .ei a b,z,k,h=>(List.mem_append.mp h).elim (a.asks_lt z.1 k) (b.asks_lt z.2 k)
 | .mo a b c,z,k,h=>(List.mem_append.mp h).elim (fun h=>(List.mem_append.mp h).elim (a.asks_lt z.1 k) (b.asks_lt z.2.1 k)) (c.asks_lt z.2.2 k)
noncomputable def Sy.all:Sy → List Sy
 | .yes=>[.yes]
 | .no=>[.no]
 | .ask k=>[.ask k]
 | .nt a=>.nt a :: a.all
 | .an a b=>.an a b :: (a.all ++ b.all)
 | .or a b=>.or a b :: (a.all ++ b.all)
 | .ei a b=>.ei a b :: (a.all ++ b.all)
 | .mo a b c=>.mo a b c :: (a.all ++ (b.all ++ c.all))
noncomputable def Sy.askOf:Sy → List Nat
 | .ask k=>[k]
 | _=>[]
theorem Sy.all_asks:∀ s:Sy,s.all.flatMap Sy.askOf = s.asks
 | .yes=>rfl
 | .no=>rfl
 | .ask _=>rfl
 | .nt a=>by simp [Sy.all,Sy.asks,Sy.askOf,a.all_asks]
 | .an a b=>by simp [Sy.all,Sy.asks,Sy.askOf,a.all_asks,b.all_asks]
 | .or a b=>by simp [Sy.all,Sy.asks,Sy.askOf,a.all_asks,b.all_asks]
 | .ei a b=>by simp [Sy.all,Sy.asks,Sy.askOf,a.all_asks,b.all_asks]
 | .mo a b c=>by simp [Sy.all,Sy.asks,Sy.askOf,a.all_asks,b.all_asks,c.all_asks]
theorem Sy.pre_all (f:Sy → T):∀ s:Sy,(s.rs f).pre.map Rs.e = s.all.map Sy.t
 | .yes=>by simp [Sy.rs,pre_mk,pres_nil,Sy.all,Rs.e,Sy.t]
 | .no=>by simp [Sy.rs,pre_mk,pres_nil,Sy.all,Rs.e,Sy.t]
 | .ask _=>by simp [Sy.rs,pre_mk,pres_nil,Sy.all,Rs.e,Sy.t]
 | .nt a=>by simp [Sy.rs,pre_mk,pres_nil,pres_cons,Sy.all,Rs.e,Sy.t,a.pre_all f]
 | .an a b=>by simp [Sy.rs,pre_mk,pres_nil,pres_cons,Sy.all,Rs.e,Sy.t,a.pre_all f,b.pre_all f]
 | .or a b=>by simp [Sy.rs,pre_mk,pres_nil,pres_cons,Sy.all,Rs.e,Sy.t,a.pre_all f,b.pre_all f]
 | .ei a b=>by simp [Sy.rs,pre_mk,pres_nil,pres_cons,Sy.all,Rs.e,Sy.t,a.pre_all f,b.pre_all f]
 | .mo a b c=>by simp [Sy.rs,pre_mk,pres_nil,pres_cons,Sy.all,Rs.e,Sy.t,a.pre_all f,b.pre_all f,c.pre_all f]
theorem all_parts_ok (s:Sy) (hp:s.parts ≤ 80000):F_p_all_parts [.v s.t] = some (.l (s.all.map Sy.t),[]):=by
 have aw:F_p_all_within = fnD none 2 5 (awD tb_1):=rfl
 have:=all_within_ok find_inner (s.rs fun k=>T.a (.bl true)) (s.rs_in _) (by rw [Sy.rs_pre]; exact hp)
 rw [← aw,Sy.rs_e,Sy.pre_all] at this
 generalize s.all.map Sy.t = L at *
 generalize s.t = ST at *
 simp [F_p_all_parts,fnD,d_p_all_parts,this]
theorem qi_comp:∀ (L:List Sy) (o:Option G),∃ o',compD (gdName 0) d_p_questions_in_q1 d_p_questions_in_e1 (L.map Sy.t) [o] = some ((L.flatMap Sy.askOf).map fun (k:Nat)=>iT (k:Int),[o'])
 | [],o=>⟨o,rfl⟩
 | s :: r,o=>by
  obtain ⟨o',e⟩:=qi_comp r (some (.v s.t))
  refine ⟨o',?_⟩
  rw [List.map_cons,compD_cons,List.flatMap_cons]
  have hc:d_p_questions_in_q1 [some (.v s.t)] = some (decide (s.askOf ≠ []),[some (.v s.t)]):=by
   cases s <;> simp [d_p_questions_in_q1,Sy.t,Sy.askOf]
  by_cases hk:s.askOf = []
  ·have hf:decide (s.askOf ≠ []) = false:=by simp [hk]
   rw [hf] at hc
   simp only [gdName_ap]
   simp [hc,e,hk]
  ·cases s with
   | ask k =>
    have he:d_p_questions_in_e1 [some (.v (Sy.ask k).t)] = some (.v (iT (k:Int)),[some (.v (Sy.ask k).t)]):=by simp [d_p_questions_in_e1,Sy.t]
    have ht:decide ((Sy.ask k).askOf ≠ []) = true:=by simp [Sy.askOf]
    rw [ht] at hc
    generalize (Sy.ask k).t = ST at *
    simp only [iT] at he e ⊢
    simp [hc,e,he,Sy.askOf]
   | _=>exact absurd rfl hk
theorem ints_of:∀ l:List Nat,intsOf (l.map fun (k:Nat)=>iT (k:Int)) = some (l.map fun (k:Nat)=>(k:Int))
 | []=>rfl
 | k :: r=>by simp only [List.map_cons,iT,intsOf]; rw [show (r.map fun (k:Nat)=>T.a (V.int (k:Int))) = r.map fun (k:Nat)=>iT (k:Int) from rfl,ints_of r]; rfl
noncomputable def qin (s:Sy):List Int:=L2.setI (s.asks.map fun (k:Nat)=>(k:Int))
theorem questions_ok (s:Sy) (hp:s.parts ≤ 80000) (hq:s.qs 10):F_p_questions_in [.v s.t] = some (.l (((qin s).map V.int).map T.a),[]):=by
 have e1:=all_parts_ok s hp
 obtain ⟨o',e2⟩:=qi_comp s.all none
 rw [s.all_asks] at e2
 have e3:=ints_of s.asks
 have e4:(s.asks.map fun (k:Nat)=>(k:Int)).all (fun n=>decide (0 ≤ n) && decide (n < 10)) = true:=by
  rw [List.all_eq_true]
  intro n hn
  obtain ⟨k,hk,rfl⟩:=List.mem_map.mp hn
  have:=s.asks_lt hq k hk
  simp only [Bool.and_eq_true,decide_eq_true_eq]
  omega
 have hg:(s.all.map Sy.t).length ≤ sizeLine:=by
  have h1:=congrArg List.length (s.pre_all fun _=>T.a (.bl true))
  rw [List.length_map,Sy.rs_pre] at h1
  rw [← h1,sizeLine_eq]; omega
 unfold qin
 generalize (s.asks.map fun (k:Nat)=>(k:Int)) = N at *
 generalize (s.asks.map fun (k:Nat)=>iT (k:Int)) = M at *
 generalize s.all.map Sy.t = L at *
 generalize s.t = ST at *
 have e5:dSortSet (dCons (dComp none [none] (dSeqI (dCall none F_p_all_parts [] (dCons (dVar 0) dNil))) (gdName 0) (d_p_questions_in_q1) (d_p_questions_in_e1)) dNil) [some (.v ST)] = some (.l (((L2.setI N).map V.int).map T.a),[some (.v ST)]):=by
  have ec:dComp none [none] (dSeqI (dCall none F_p_all_parts [] (dCons (dVar 0) dNil))) (gdName 0) (d_p_questions_in_q1) (d_p_questions_in_e1) [some (.v ST)] = some (.l M,[some (.v ST)]):=by
   simp [e1,e2,gd,hg]
  generalize dComp none [none] (dSeqI (dCall none F_p_all_parts [] (dCons (dVar 0) dNil))) (gdName 0) (d_p_questions_in_q1) (d_p_questions_in_e1) = DC at ec ⊢
  unfold dSortSet dCons
  rw [ec]
  show ((intsOf M).bind fun ns=>_) = _
  rw [e3,Option.bind_some,if_pos e4]
 simp [F_p_questions_in,fnD,d_p_questions_in,e5]
theorem eqvAll_dec:∀ a c:List Nat,PyData.eqvAll (intsD a) (intsD c) = decide (a = c)
 | [],[]=>by simp [intsD,PyData.eqvAll]
 | [],y :: s=>by simp [intsD,PyData.eqvAll]
 | x :: r,[]=>by simp [intsD,PyData.eqvAll]
 | x :: r,y :: s=>by
  have:=eqvAll_dec r s
  simp only [intsD,List.map_cons] at this ⊢
  rw [PyData.eqvAll,this]
  have e:PyData.eqv (.int (x:Int)) (.int (y:Int)) = decide (x = y):=by
   by_cases h:x = y
   ·subst h; simp [PyData.eqv]
   ·have h':¬ (x:Int) = (y:Int):=by omega
    simp [PyData.eqv,h,h']
  rw [e]
  by_cases h:x = y <;> by_cases h2:r = s <;> simp [h,h2]
theorem find_weight_of:tb_2.find? (fun q=>decide (q.1 = ("weight_of":Str))) = some (("weight_of":Str),2,F_p_weight_of):=by rfl
theorem find_layers_of:tb_2.find? (fun q=>decide (q.1 = ("layers_of":Str))) = some (("layers_of":Str),2,F_p_layers_of):=by rfl
theorem find_spelled_of:tb_2.find? (fun q=>decide (q.1 = ("spelled_of":Str))) = some (("spelled_of":Str),2,F_p_spelled_of):=by rfl
theorem foldM {m:Str} {kb:Nat} {put:DF} (hg:tb_2.find? (fun q=>decide (q.1 = m)) = some (m,kb,put)) (f:Sy → T) (hf:∀ s:Sy,put [.v s.t,.r (s.kids.map f)] = some (.v (f s),[])) (s:Sy) (hq:s.qs 10) (hp:s.parts ≤ 80000):F_p_folded [.v s.t,.v (.f m)] = some (.v (f s),[]):=by
 have:=fold_withinM_ok find_inner (put_def (L:=L_so) (dl:=d_lam) hg) (s.rs f) (s.rs_in _) (s.rs_putP f (m:=10) (fun k _=>hf k) hq) (by rw [Sy.rs_pre]; exact hp)
 rw [← fwM_eq,Sy.rs_e,Sy.rs_v] at this
 generalize f s = V at *
 generalize s.t = ST at *
 simp [F_p_folded,fnD,d_p_folded,this]
theorem p_weight_ok (s:Sy) (hq:s.qs 10) (h:s.parts ≤ 80000):F_p_weight [.v s.t] = some (.v (iT (s.wt:Int)),[]):=by
 have:=foldM find_weight_of (fun k=>iT (k.wt:Int)) weight_of_ok s hq h
 simp only [iT] at this ⊢
 generalize s.t = ST at *
 simp [F_p_weight,fnD,d_p_weight,this]
theorem p_layers_ok (s:Sy) (hq:s.qs 10) (h:s.parts ≤ 80000):F_p_layers [.v s.t] = some (.v (iT (s.lyr:Int)),[]):=by
 have:=foldM find_layers_of (fun k=>iT (k.lyr:Int)) layers_of_ok s hq h
 simp only [iT] at this ⊢
 generalize s.t = ST at *
 simp [F_p_layers,fnD,d_p_layers,this]
theorem spelled_ok (s:Sy) (hq:s.qs 10) (h:s.parts ≤ 80000):F_p_spelled [.v s.t] = some (.v s.spell.t,[]):=by
 have:=foldM find_spelled_of (fun k=>k.spell.t) spelled_of_ok s hq h
 generalize s.spell.t = SP at *
 generalize s.t = ST at *
 simp [F_p_spelled,fnD,d_p_spelled,this]
theorem spell_asks (q:Nat):∀ s:Sy,q ∈ s.spell.asks ↔ q ∈ s.asks
 | .yes=>Iff.rfl
 | .no=>Iff.rfl
 | .ask _=>Iff.rfl
 | .nt a=>spell_asks q a
 | .an a b=>by simp only [Sy.spell,Sy.asks,List.mem_append,spell_asks q a,spell_asks q b]
 | .or a b=>by simp only [Sy.spell,orS,Sy.asks,List.mem_append,spell_asks q a,spell_asks q b]
 | .ei a b=>by simp only [Sy.spell,orS,Sy.asks,List.mem_append,spell_asks q a,spell_asks q b,or_self]
 | .mo a b c=>by
  simp only [Sy.spell,orS,Sy.asks,List.mem_append,spell_asks q a,spell_asks q b,spell_asks q c]
  by_cases h1:q ∈ a.asks <;> by_cases h2:q ∈ b.asks <;> by_cases h3:q ∈ c.asks <;> simp [h1,h2,h3]
theorem qin_spell (s:Sy):qin s.spell = qin s:=by
 unfold qin L2.setI
 refine List.filter_congr fun x _=>?_
 apply Bool.eq_iff_iff.mpr
 rw [decide_eq_true_eq,decide_eq_true_eq,List.mem_map,List.mem_map]
 exact ⟨fun ⟨k,h,e⟩=>⟨k,(spell_asks k s).mp h,e⟩,fun ⟨k,h,e⟩=>⟨k,(spell_asks k s).mpr h,e⟩⟩
theorem spell_so (as:List Nat):∀ s:Sy,s.spell.so as = s.so as
 | .yes=>rfl
 | .no=>rfl
 | .ask _=>rfl
 | .nt a=>by simp only [Sy.spell,Sy.so,spell_so as a]
 | .an a b=>by simp only [Sy.spell,Sy.so,spell_so as a,spell_so as b]
 | .or a b=>by simp only [Sy.spell,orS,Sy.so,spell_so as a,spell_so as b]; cases a.so as <;> cases b.so as <;> rfl
 | .ei a b=>by simp only [Sy.spell,orS,Sy.so,spell_so as a,spell_so as b]; cases a.so as <;> cases b.so as <;> rfl
 | .mo a b c=>by simp only [Sy.spell,orS,Sy.so,spell_so as a,spell_so as b,spell_so as c]; cases a.so as <;> cases b.so as <;> cases c.so as <;> rfl
theorem spell_lyr:∀ s:Sy,s.spell.lyr ≤ s.lyr
 | .yes=>Nat.le_refl _
 | .no=>Nat.le_refl _
 | .ask _=>Nat.le_refl _
 | .nt a=>spell_lyr a
 | .an a b=>by have:=spell_lyr a; have:=spell_lyr b; simp only [Sy.spell,Sy.lyr]; omega
 | .or a b=>by have:=spell_lyr a; have:=spell_lyr b; simp only [Sy.spell,orS,Sy.lyr]; omega
 | .ei a b=>by have:=spell_lyr a; have:=spell_lyr b; simp only [Sy.spell,orS,Sy.lyr]; omega
 | .mo a b c=>by have:=spell_lyr a; have:=spell_lyr b; have:=spell_lyr c; simp only [Sy.spell,orS,Sy.lyr]; omega
theorem l_plain_ok:∀ (n:Nat) (s:Sy),s.plain → s.down ≤ n → F_l_plain n [.v s.t] = some (.v (.a (.bl true)),[]):=by
 intro n
 induction n with
 | zero=>intro s _ h; have:=s.down_pos; omega
 | succ n ih =>
  intro s hp h
  have g1:(1:Nat) ≤ sizeLine:=by decide
  have g2:(2:Nat) ≤ sizeLine:=by decide
  have g3:(3:Nat) ≤ sizeLine:=by decide
  have ea:∀ k:Sy,k.plain → k.down ≤ n → d_l_plain_e1 (F_l_plain n) [some (.v k.t)] = some (.v (.a (.bl true)),[some (.v k.t)]):=fun k hp hk=>by
   have:=ih k hp hk
   simp [d_l_plain_e1,this]
  cases s with
  | yes=>simp [F_l_plain,fnD,d_l_plain,Sy.t,gd,g3,inS,atomsOf,flatV,inV,eqV]
  | no=>simp [F_l_plain,fnD,d_l_plain,Sy.t,gd,g3,inS,atomsOf,flatV,inV,eqV]
  | ask q=>simp [F_l_plain,fnD,d_l_plain,Sy.t,gd,g3,inS,atomsOf,flatV,inV,eqV]
  | nt a =>
   have h1:=ea a hp (by simp only [Sy.down] at h; omega)
   simp only [Sy.t]
   generalize a.t = A at *
   simp [F_l_plain,fnD,d_l_plain,cut1,compD_cons,compD_nil,gd,g1,g2,g3,inS,atomsOf,flatV,inV,eqV,h1,boolsOf]
  | an a b =>
   have h1:=ea a hp.1 (by simp only [Sy.down] at h; omega)
   have h2:=ea b hp.2 (by simp only [Sy.down] at h; omega)
   simp only [Sy.t]
   generalize a.t = A at *
   generalize b.t = B at *
   simp [F_l_plain,fnD,d_l_plain,cut1,compD_cons,compD_nil,gd,g1,g2,g3,inS,atomsOf,flatV,inV,eqV,h1,h2,boolsOf]
  | or a b=>exact hp.elim
  | ei a b=>exact hp.elim
  | mo a b c=>exact hp.elim
theorem ne_same (Γ:En) (l:List Nat):neS Γ (.l (tvT l)) (.l (tvT l)) = some (.v (.a (.bl false))):=by
 have d:datS Γ (.l (tvT l)) = some (.list (intsD l)):=by
  show ((toDs (tvT l)).map PyData.list) = _
  rw [toDs_tv]; rfl
 have e0:neS Γ (.l (tvT l)) (.l (tvT l)) = ((none:Option S).or (cmpD (fun a b=>!PyData.eqv a b) Γ (.l (tvT l)) (.l (tvT l)))):=rfl
 rw [e0,Option.none_or]
 unfold cmpD
 rw [d,Option.bind_some,Option.bind_some,if_pos ⟨by simp only [PyData.canLay0,canLay_ints],by simp only [PyData.canLay0,canLay_ints],by simp only [PyData.depth,depth_ints]; decide⟩]
 simp only [PyData.eqv,eqvAll_dec]
 simp [mkB]
theorem qin_nat (s:Sy):∃ l:List Nat,((qin s).map V.int).map T.a = tvT l:=by
 refine ⟨(qin s).map Int.toNat,?_⟩
 simp only [tvT,iT,List.map_map]
 refine List.map_congr_left fun x hx=>?_
 have:x ∈ ([0,1,2,3,4,5,6,7,8,9]:List Int):=(List.mem_filter.mp hx).1
 simp only [List.mem_cons,List.not_mem_nil,or_false] at this
 simp only [Function.comp]
 congr 2
 omega
end Lw
set_option Elab.async false
set_option linter.all false
set_option maxRecDepth 100000
set_option maxHeartbeats 4000000
namespace Lw
open PySem L2 D
noncomputable def allA:Nat → List (List Nat)
 | 0=>[[]]
 | q + 1=>(allA q).map (0 :: ·) ++ (allA q).map (1 :: ·)
noncomputable def twoA (a:List Nat):List (List Nat):=[a ++ [0],a ++ [1]]
theorem twoA_cons (x:Nat) (l:List (List Nat)):(l.map (x :: ·)).flatMap twoA = (l.flatMap twoA).map (x :: ·):=by
 induction l with
 | nil=>rfl
 | cons a r ih=>simp only [List.map_cons,List.flatMap_cons,ih,List.map_append]; rfl
theorem allA_two:∀ q,(allA q).flatMap twoA = allA (q + 1)
 | 0=>rfl
 | q + 1=>by
  rw [allA,List.flatMap_append,twoA_cons,twoA_cons,allA_two q]
  rfl
theorem allA_len:∀ q,(allA q).length = 2 ^ q
 | 0=>rfl
 | q + 1=>by rw [allA]; simp [allA_len q]; omega
theorem allA_le {q:Nat} (h:q ≤ 10):(allA q).length ≤ 1024:=by
 rw [allA_len]
 exact Nat.le_trans (Nat.pow_le_pow_right (by decide) h) (by decide)
theorem allA_ok:∀ (q:Nat) (a:List Nat),a ∈ allA q → AnsOk q a
 | 0,a,h=>by
  simp [allA] at h
  subst h
  exact ⟨rfl,fun x hx=>nomatch hx⟩
 | q + 1,a,h=>by
  simp only [allA,List.mem_append,List.mem_map] at h
  rcases h with ⟨b,hb,rfl⟩ | ⟨b,hb,rfl⟩
  ·have:=allA_ok q b hb
   exact ⟨by simp [this.len],fun x hx=>(List.mem_cons.mp hx).elim (fun z=>by omega) (this.lt x)⟩
  ·have:=allA_ok q b hb
   exact ⟨by simp [this.len],fun x hx=>(List.mem_cons.mp hx).elim (fun z=>by omega) (this.lt x)⟩
theorem all_inner (q x1 x2:Option G):∀ (L:List (List Nat)) (acc:List T) (o4:Option G),acc.length + 2 * L.length ≤ 5000 → (∀ a ∈ L,a.length ≤ 1000) → ∃ o4',forD (gdName 4) d_l_all_answers_b1 (L.map tuT) [q,x1,x2,some (.l acc),o4] = some (.nx [q,x1,x2,some (.l (acc ++ (L.flatMap twoA).map tuT)),o4'])
 | [],acc,o4,_,_=>⟨o4,by rw [List.map_nil,forD_nil]; simp⟩
 | a :: r,acc,o4,hl,ha=>by
  obtain ⟨o4',e⟩:=all_inner q x1 x2 r (acc ++ [tuT (a ++ [0]),tuT (a ++ [1])]) (some (.v (tuT a))) (by simp at hl ⊢; omega) fun z hz=>ha z (List.mem_cons_of_mem _ hz)
  refine ⟨o4',?_⟩
  have g1:(1:Nat) ≤ sizeLine:=by decide
  have g2:(2:Nat) ≤ sizeLine:=by decide
  have g3:a.length + 1 ≤ sizeLine:=line_big (by have:=ha a List.mem_cons_self; omega)
  have g4:acc.length + 2 ≤ sizeLine:=line_big (by simp at hl; omega)
  have g5:acc.length ≤ sizeLine:=line_big (by simp at hl; omega)
  have turn:d_l_all_answers_b1 [q,x1,x2,some (.l acc),some (.v (tuT a))] = some (.nx [q,x1,x2,some (.l (acc ++ [tuT (a ++ [0]),tuT (a ++ [1])])),some (.v (tuT a))]):=by
   simp [d_l_all_answers_b1,gd,g1,g2,g3,g4,g5,hExtend]
  rw [List.map_cons,forD_step (by simp) turn,e]
  congr 6
  rw [List.flatMap_cons,List.map_append,List.append_assoc]; rfl
theorem all_outer (q:Option G):∀ (its:List T) (k:Nat) (o2 o3 o4:Option G),its.length + k ≤ 10 → ∃ o2' o3' o4',forD (gdName 2) d_l_all_answers_b2 its [q,some (.l ((allA k).map tuT)),o2,o3,o4] = some (.nx [q,some (.l ((allA (its.length + k)).map tuT)),o2',o3',o4'])
 | [],k,o2,o3,o4,_=>⟨o2,o3,o4,by rw [forD_nil,List.length_nil,Nat.zero_add]⟩
 | t :: r,k,o2,o3,o4,h=>by
  have hk:=allA_le (q:=k) (by simp at h; omega)
  obtain ⟨p4,e1⟩:=all_inner q (some (.r ((allA k).map tuT))) (some (.v t)) (allA k) [] o4 (by simp; omega) fun a ha=>by have:=(allA_ok k a ha).len; simp at h; omega
  rw [List.nil_append,allA_two] at e1
  obtain ⟨o2',o3',o4',e⟩:=all_outer q r (k + 1) (some (.v t)) none p4 (by simp at h ⊢; omega)
  refine ⟨o2',o3',o4',?_⟩
  have g0:(0:Nat) ≤ sizeLine:=by decide
  have g1:(allA k).length ≤ sizeLine:=line_big (by omega)
  have hl:((allA k).map tuT).length = (allA k).length:=by simp
  have turn:d_l_all_answers_b2 [q,some (.l ((allA k).map tuT)),some (.v t),o3,o4] = some (.nx [q,some (.l ((allA (k + 1)).map tuT)),some (.v t),none,p4]):=by
   generalize (allA (k + 1)).map tuT = A1 at *
   generalize (allA k).map tuT = A0 at *
   simp [d_l_all_answers_b2,gd,g0,g1,hl,frz1,e1,dMv,setM]
  rw [forD_step (by simp) turn,e]
  have:r.length + (k + 1) = (t :: r).length + k:=by simp; omega
  rw [this]
theorem all_answers_ok (q:Nat) (hq:q ≤ 10):F_l_all_answers [.v (iT (q:Int))] = some (.l ((allA q).map tuT),[]):=by
 have hr:(rngT 0 q).length = q:=by simp [rngT]
 obtain ⟨o2,o3,o4,e⟩:=all_outer (some (.v (iT (q:Int)))) (rngT 0 q) 0 none none none (by omega)
 rw [hr,Nat.add_zero] at e
 have e':forD (gdName 2) d_l_all_answers_b2 (rngT 0 q) [some (.v (iT (q:Int))),some (.l [.t []]),none,none,none] = some (.nx [some (.v (iT (q:Int))),some (.l ((allA q).map tuT)),o2,o3,o4]):=e
 have r1:=rngS_nat q (by omega)
 have g0:(0:Nat) ≤ sizeLine:=by decide
 have g1:(1:Nat) ≤ sizeLine:=by decide
 generalize (allA q).map tuT = AA at *
 simp only [iT] at e' r1 ⊢
 simp [F_l_all_answers,fnD,d_l_all_answers,gd,g0,g1,r1,e']
end Lw
set_option Elab.async false
set_option linter.all false
set_option maxRecDepth 100000
set_option maxHeartbeats 4000000
namespace Lw
open PySem L2 D
theorem Sy.qs_mono:∀ {s:Sy} {q q':Nat},q ≤ q' → s.qs q → s.qs q'
 | .yes,_,_,_,_=>trivial
 | .no,_,_,_,_=>trivial
 | .ask _,_,_,h,z=>Nat.lt_of_lt_of_le z h
 | .nt a,_,_,h,z=>a.qs_mono h z
 | .an a b,_,_,h,z=>⟨a.qs_mono h z.1,b.qs_mono h z.2⟩
 | .or a b,_,_,h,z=>⟨a.qs_mono h z.1,b.qs_mono h z.2⟩
 | .ei a b,_,_,h,z=>⟨a.qs_mono h z.1,b.qs_mono h z.2⟩
 | .mo a b c,_,_,h,z=>⟨a.qs_mono h z.1,b.qs_mono h z.2.1,c.qs_mono h z.2.2⟩
noncomputable def tl10:DS:=(dSeq (dSet 4 (dCall (some 0) F_l_light [] (dCons (dVar 2) (dCons (dVar 3) (dCons (dC (.int 24)) (dCons (dC (.int 128)) dNil)))))) (dSeq (dIf (dTest (dOp ltS (dVar 3) (dC (.int 4)))) (dSet 5 (dCall none F_l_all_answers [] (dCons (dVar 3) dNil))) (dSet 5 (dComp (some (1,2)) [none,some 2,some 3] (dRng1 (dCons (dC (.int 10)) dNil)) (gdName 0) dYes (d_law_e1)))) (dIf (dNot (dTru (dCall none F_l_right [] (dCons (dVar 4) (dCons (dVar 5) dNil))))) (dRet (dC (.bl false))) dNext)))
theorem b1_cut:d_law_b1 = dSeq (dSet 2 (dCall none F_l_box [] (dCons (dVar 0) (dCons (dVar 1) dNil)))) (dSeq (dSet 3 (dOp addS (dC (.int 1)) (dCall (some 0) F_l_take [] (dCons (dVar 2) (dCons (dC (.int 10)) dNil))))) (dSeq (dIf (dTest (dOp eqS (dCall (some 0) F_l_take [] (dCons (dVar 2) (dCons (dC (.int 2)) dNil))) (dC (.int 0)))) (dSet 3 (dOp addS (dC (.int 1)) (dCall (some 0) F_l_take [] (dCons (dVar 2) (dCons (dC (.int 3)) dNil))))) dNext) tl10)):=rfl
structure Ok10 (m:Nat) (s:Sy):Prop where
 q:s.qs m
 m:m ≤ 10
 p:s.parts ≤ 24
 d:s.down ≤ 6
theorem row_turn {m:Nat} {as:List Nat} (ha:AnsOk m as) (s:Sy) (hs:Ok10 m s) (hp:s.spell.parts ≤ 80000):d_l_right_e1 [some (.v (tuT as)),some (.v s.spell.t),some (.v s.t)] = some (.v (.a (.bl true)),[some (.v (tuT as)),some (.v s.spell.t),some (.v s.t)]):=by
 have e1:=is_so_ok ha s hs.q (by have:=hs.p; omega)
 have e2:=is_so_ok ha s.spell (spell_qs s hs.q) hp
 rw [spell_so] at e2
 generalize s.so as = B at *
 generalize tuT as = AS at *
 generalize s.spell.t = SP at *
 generalize s.t = ST at *
 simp [d_l_right_e1,e1,e2]
theorem row_comp {m:Nat} (s:Sy) (hs:Ok10 m s) (hp:s.spell.parts ≤ 80000):∀ (rows:List (List Nat)),(∀ as ∈ rows,AnsOk m as) → ∀ o,∃ o',compD (gdName 0) dYes d_l_right_e1 (rows.map tuT) [o,some (.v s.spell.t),some (.v s.t)] = some (rows.map fun _=>T.a (.bl true),[o',some (.v s.spell.t),some (.v s.t)])
 | [],_,o=>⟨o,rfl⟩
 | as :: r,h,o=>by
  have e1:=row_turn (h as List.mem_cons_self) s hs hp
  obtain ⟨o',e2⟩:=row_comp s hs hp r (fun x hx=>h x (List.mem_cons_of_mem _ hx)) (some (.v (tuT as)))
  refine ⟨o',?_⟩
  rw [List.map_cons,compD_cons]
  generalize r.map tuT = RR at *
  generalize tuT as = AS at *
  generalize s.spell.t = SP at *
  generalize s.t = ST at *
  simp [e1,e2]
theorem right10_ok {m:Nat} (s:Sy) (hs:Ok10 m s) (rows:List (List Nat)) (hr:∀ as ∈ rows,AnsOk m as) (hl:rows.length ≤ 1000):F_l_right [.v s.t,.r (rows.map tuT)] = some (.v (.a (.bl true)),[]):=by
 have hp':=hs.p
 have hd':=hs.d
 have hp:s.spell.parts ≤ 80000:=by
  have:=spell_parts 6 s hd'
  have e:cB 6 = 694:=by decide
  rw [e] at this
  omega
 have hd:s.spell.down ≤ 42:=by have:=spell_down s; omega
 have q10:s.qs 10:=Sy.qs_mono hs.m hs.q
 have q10':=spell_qs s q10
 have e1:=spelled_ok s q10 (by omega)
 have e2:=l_plain_ok fuel_l_plain s.spell (spell_plain s) (by show _ ≤ 50; omega)
 have e3:=p_weight_ok s q10 (by omega)
 have e4:=p_weight_ok s.spell q10' hp
 have e5:=questions_ok s (by omega) q10
 have e6:=questions_ok s.spell hp q10'
 have e7:=p_layers_ok s.spell q10' hp
 obtain ⟨o',e8⟩:=row_comp s hs hp rows hr none
 have w1:=wt_lyr s.spell
 have l1:=lyr_down s
 have l2:=spell_lyr s
 have sw:=spell_wt s
 rw [qin_spell] at e6
 obtain ⟨l,hl'⟩:=qin_nat s
 rw [hl'] at e5 e6
 have e9:=fun Γ=>ne_same Γ l
 have cm:CMul 2 (s.spell.lyr:Int):=.inl ⟨by decide,by decide⟩
 have cp:∀ n:Nat,n ≤ 18 → CPow 1 (2 * (n:Int)) ∧ ((4 ^ n:Nat):Int) = 2 ^ (2 * (n:Int)).toNat:=by
  intro n hn
  rcases (show n = 0 ∨ n = 1 ∨ n = 2 ∨ n = 3 ∨ n = 4 ∨ n = 5 ∨ n = 6 ∨ n = 7 ∨ n = 8 ∨ n = 9 ∨ n = 10 ∨ n = 11 ∨ n = 12 ∨ n = 13 ∨ n = 14 ∨ n = 15 ∨ n = 16 ∨ n = 17 ∨ n = 18 by omega) with h | h | h | h | h | h | h | h | h | h | h | h | h | h | h | h | h | h | h <;> subst h <;> exact ⟨⟨by decide,by decide,by decide⟩,by decide⟩
 obtain ⟨cp1,cp2⟩:=cp s.spell.lyr (by omega)
 rw [sw] at e4 w1
 have nw:¬ ((2:Int) ^ (2 * (s.spell.lyr:Int)).toNat < (s.wt:Int)):=by
  rw [← cp2]; omega
 have bo:boolsOf (rows.map fun _=>T.a (V.bl true)) = some (rows.map fun _=>true):=by
  clear hr hl e8
  induction rows with
  | nil=>rfl
  | cons x r ih=>simp [boolsOf,ih]
 have ba:(rows.map fun _=>true).all id = true:=by simp
 have gl:(rows.map tuT).length ≤ sizeLine:=by rw [List.length_map,sizeLine_eq]; omega
 generalize (rows.map fun _=>T.a (V.bl true)) = BL at *
 generalize (rows.map fun _=>true) = BM at *
 generalize rows.map tuT = RR at *
 generalize tvT l = TL at *
 generalize s.spell.lyr = LY at *
 generalize s.wt = WT at *
 generalize s.spell.t = SP at *
 generalize s.t = ST at *
 simp only [iT] at e3 e4 e7
 simp [F_l_right,fnD,d_l_right,e1,e2,e3,e4,e5,e6,e7,e8,e9,cm,cp1,nw,gd,gl,allS,bo,ba]
theorem rows_comp (m:Nat) (hm:m ≤ 10):∀ (its:List T) (a b:Int) (o:Option G),∃ (rows:List (List Nat)) (a' b':Int) (o':Option G),rows.length = its.length ∧ (∀ as ∈ rows,AnsOk m as) ∧
  compD (gdName 0) dYes d_law_e1 its [o,some (.l [iT a,iT b]),some (.v (iT (m:Int)))] = some (rows.map tuT,[o',some (.l [iT a',iT b']),some (.v (iT (m:Int)))])
 | [],a,b,o=>⟨[],a,b,o,rfl,(fun _ z=>nomatch z),rfl⟩
 | t :: r,a,b,o=>by
  obtain ⟨as,a1,b1,ha,e1⟩:=answers_ok a b m hm
  obtain ⟨rows,a2,b2,o',hl,hr,e2⟩:=rows_comp m hm r a1 b1 (some (.v t))
  refine ⟨as :: rows,a2,b2,o',by simp [hl],fun x hx=>(List.mem_cons.mp hx).elim (fun z=>z ▸ ha) (hr x),?_⟩
  have el:d_law_e1 [some (.v t),some (.l [iT a,iT b]),some (.v (iT (m:Int)))] = some (.v (tuT as),[some (.v t),some (.l [iT a1,iT b1]),some (.v (iT (m:Int)))]):=by
   generalize tuT as = AS at *
   simp only [iT] at e1 ⊢
   simp [d_law_e1,e1]
  rw [compD_cons,List.map_cons]
  generalize rows.map tuT = RR at *
  generalize tuT as = AS at *
  simp only [iT] at el e2 ⊢
  simp [el,e2]
theorem tail10 (ns:List Int) (k:Nat) (m:Nat) (h0:0 < m) (hm:m ≤ 10) (a b:Int) (o4 o5:Option G):∃ (p2 p4 p5:Option G),
  tl10 [some (.k (intsT ns)),some (.v (iT (k:Int))),some (.l [iT a,iT b]),some (.v (iT (m:Int))),o4,o5] = some (.nx [some (.k (intsT ns)),some (.v (iT (k:Int))),p2,some (.v (iT (m:Int))),p4,p5]):=by
 obtain ⟨s,a1,b1,u1,u2,u3,u4,e1⟩:=light_ok m 24 128 h0 (by omega) (by decide) (by decide) (by decide) (by decide) a b
 have hs:Ok10 m s:=⟨u2,hm,u4,u1⟩
 have e1':F_l_light [.l [iT a,iT b],.v (iT (m:Int)),.v (iT 24),.v (iT 128)] = some (.v s.t,[iT a1,iT b1]):=e1
 by_cases c:m < 4
 ·have c':(m:Int) < 4:=by omega
  have e2:=all_answers_ok m hm
  have e3:=right10_ok s hs (allA m) (fun as ha=>allA_ok m as ha) (by have:=allA_len m; rw [this]; exact Nat.le_trans (Nat.pow_le_pow_right (by decide) (show m ≤ 3 by omega)) (by decide))
  refine ⟨some (.l [iT a1,iT b1]),some (.v s.t),some (.l ((allA m).map tuT)),?_⟩
  generalize (allA m).map tuT = RR at *
  generalize intsT ns = NS at *
  generalize s.t = ST at *
  simp only [iT] at e1' e2 ⊢
  simp [tl10,e1',c',e2,e3]
 ·have c':¬ (m:Int) < 4:=by omega
  obtain ⟨rows,a2,b2,o',hl,hr,e2⟩:=rows_comp m hm (rngT 0 10) a1 b1 none
  have e3:=right10_ok s hs rows hr (by rw [hl]; simp [rngT])
  have r10:=rngS_nat 10 (by decide)
  have n10:((10:Nat):Int) = 10:=rfl
  rw [n10] at r10
  have g10:(rngT 0 10).length ≤ sizeLine:=by rw [sizeLine_eq]; simp [rngT]
  refine ⟨some (.l [iT a2,iT b2]),some (.v s.t),some (.l (rows.map tuT)),?_⟩
  generalize rows.map tuT = RR at *
  generalize rngT 0 10 = R10 at *
  generalize intsT ns = NS at *
  generalize s.t = ST at *
  simp only [iT] at e1' e2 ⊢
  simp [tl10,e1',c',r10,e2,e3,gd,g10]
theorem out10 (ns:List Int) (k:Nat) (hk:k < 1000) (o2 o3 o4 o5:Option G):∃ (p2 p3 p4 p5:Option G),
  d_law_b1 [some (.k (intsT ns)),some (.v (iT (k:Int))),o2,o3,o4,o5] = some (.nx [some (.k (intsT ns)),some (.v (iT (k:Int))),p2,p3,p4,p5]):=by
 obtain ⟨a,b,e1⟩:=box_ok ns k (by omega) (by omega)
 obtain ⟨q0,a1,b1,hq0,e2⟩:=take_nat a b 10 (by decide) (by decide)
 obtain ⟨m,hm⟩:∃ m:Nat,m = 1 + q0:=⟨1 + q0,rfl⟩
 obtain ⟨c,a2,b2,hc,e3⟩:=take_nat a1 b1 2 (by decide) (by decide)
 obtain ⟨q1,a3,b3,hq1,e4⟩:=take_nat a2 b2 3 (by decide) (by decide)
 obtain ⟨m2,hm2⟩:∃ m:Nat,m = 1 + q1:=⟨1 + q1,rfl⟩
 have e2':F_l_take [.l [iT a,iT b],.v (iT 10)] = some (.v (iT (q0:Int)),[iT a1,iT b1]):=e2
 have e3':F_l_take [.l [iT a1,iT b1],.v (iT 2)] = some (.v (iT (c:Int)),[iT a2,iT b2]):=e3
 have e4':F_l_take [.l [iT a2,iT b2],.v (iT 3)] = some (.v (iT (q1:Int)),[iT a3,iT b3]):=e4
 have c1:(1:Int) + (q0:Int) = (m:Int):=by omega
 have c2:(1:Int) + (q1:Int) = (m2:Int):=by omega
 rw [b1_cut]
 by_cases c0:c = 0
 ·obtain ⟨p2,p4,p5,e5⟩:=tail10 ns k m2 (by omega) (by omega) a3 b3 o4 o5
  refine ⟨p2,some (.v (iT (m2:Int))),p4,p5,?_⟩
  generalize tl10 = TT at *
  simp only [iT] at e1 e2' e3' e4' e5 ⊢
  simp [e1,e2',c1,e3',c0,e4',c2,e5]
 ·obtain ⟨p2,p4,p5,e5⟩:=tail10 ns k m (by omega) (by omega) a2 b2 o4 o5
  refine ⟨p2,some (.v (iT (m:Int))),p4,p5,?_⟩
  generalize tl10 = TT at *
  simp only [iT] at e1 e2' e3' e5 ⊢
  simp [e1,e2',c1,e3',c0,e5]
theorem out_loop10 (ns:List Int):∀ (is:List Nat),(∀ k ∈ is,k < 1000) → ∀ (o1 o2 o3 o4 o5:Option G),∃ (p1 p2 p3 p4 p5:Option G),
  forD (gdName 1) d_law_b1 (is.map fun (k:Nat)=>iT (k:Int)) [some (.k (intsT ns)),o1,o2,o3,o4,o5] = some (.nx [some (.k (intsT ns)),p1,p2,p3,p4,p5])
 | [],_,o1,o2,o3,o4,o5=>⟨o1,o2,o3,o4,o5,rfl⟩
 | k :: r,h,o1,o2,o3,o4,o5=>by
  obtain ⟨p2,p3,p4,p5,e1⟩:=out10 ns k (h k List.mem_cons_self) o2 o3 o4 o5
  obtain ⟨q1,q2,q3,q4,q5,e2⟩:=out_loop10 ns r (fun j hj=>h j (List.mem_cons_of_mem _ hj)) (some (.v (iT (k:Int)))) p2 p3 p4 p5
  exact ⟨q1,q2,q3,q4,q5,(by rw [List.map_cons]; exact (forD_step rfl e1).trans e2)⟩
theorem law_true (ns:List Int) (hn:ns.length ≤ 63):F_law [.k (intsT ns)] = some (.v (.a (.bl true)),[]):=by
 have hl:(cutT (intsT ns) none (some 3)).length = min 3 ns.length:=by
  have:=cut_take (intsT ns) 3
  rw [show ((3:Nat):Int) = 3 from rfl] at this
  rw [this]
  simp [intsT]
 obtain ⟨m,hm⟩:∃ m:Nat,m = 1 + min 3 ns.length:=⟨_,rfl⟩
 obtain ⟨p1,p2,p3,p4,p5,e⟩:=out_loop10 ns (List.range m) (fun k hk=>by have:=List.mem_range.mp hk; omega) none none none none none
 have er:=rngS_nat m (by omega)
 have et:rngT 0 m = (List.range m).map fun (k:Nat)=>iT (k:Int):=by simp [rngT]
 rw [et] at er
 have ec':(1:Int) + ((cutT (intsT ns) none (some 3)).length:Int) = (m:Int):=by rw [hl]; omega
 simp only [iT] at e er
 generalize (List.range m).map (fun (k:Nat)=>T.a (V.int (k:Int))) = RR at e er
 simp [F_law,fnD,d_law,ec',er,e]
end Lw
set_option Elab.async false
set_option linter.all false
set_option maxRecDepth 100000
set_option maxHeartbeats 4000000
namespace Lw
open PySem L2 D
structure Wr (K:PySem.W.Frag) (x:Str) (st:Stmt) (f:Addr):Prop where
 a:PySem.W.nsIn K mainGlobals x = some (some (.ref f))
 F:∃ fd,Fun K x x st f fd
theorem wr_mk {K:PySem.W.Frag} {x:Str} {st:Stmt} {f:Addr} {oc:Value} {od an:Option Addr} {osl:Array (Option Value)} {kV doc pm cdv ct:Value} (a:PySem.W.nsIn K mainGlobals x = some (some (.ref f))) (l:K.lookup f = some ⟨oc,od,.func (PySem.W.fnOf x x (defArgs st) (defBody st) (defScope st) .none kV doc pm an cdv ct),osl⟩)
  (c:PySem.W.codeIn K cdv x = true) (k:PySem.W.keepIn K (.ref f) = true):Wr K x st f:=⟨a,_,fun_mk l c k⟩
theorem tab_mk {K:PySem.W.Frag} {x:Str} {f c0 P0:Addr} {oc oc2 kV doc pm ct:Value} {od od2 an:Option Addr} {osl osl2:Array (Option Value)} {ps:Arguments} {b:List Stmt} {sc:Scope} {vs:Array Value} (a:PySem.W.nsIn K mainGlobals x = some (some (.ref f))) (l:K.lookup f = some ⟨oc,od,.func (PySem.W.fnOf x x ps b sc .none kV doc pm an (.ref c0) ct),osl⟩) (c:K.lookup c0 = some ⟨oc2,od2,.fields vs,osl2⟩) (v:vs[11]? = some (.ref P0)):PySem.W.tabIn K x = some (c0,P0):=by
 unfold PySem.W.tabIn
 simp only [a,l,c,v,PySem.W.fnOf]
theorem all_mk {l:PySem.W.OpenLaw} {w:World} {K:PySem.W.Frag} {h:Heap} {mg:Str → Option Value} {fa:Addr} (X:K.In h) (G:h.Ns mainGlobals mg) (hfa:mg "law" = some (.ref fa))
  {f1:Addr} (w1:Wr K "_law_box" st_l_box f1)
  {f2:Addr} (w2:Wr K "_law_take" st_l_take f2)
  {f3:Addr} (w3:Wr K "_law_saying" st_l_saying f3)
  {f4:Addr} (w4:Wr K "_law_weighed" st_l_weighed f4)
  {f5:Addr} (w5:Wr K "_law_weight" st_l_weight f5)
  {f6:Addr} (w6:Wr K "_law_many_parts" st_l_many_parts f6)
  {f7:Addr} (w7:Wr K "_law_light" st_l_light f7)
  {f8:Addr} (w8:Wr K "_law_all_answers" st_l_all_answers f8)
  {f9:Addr} (w9:Wr K "inner" st_p_inner f9)
  {f10:Addr} (w10:Wr K "all_within" st_p_all_within f10)
  {f11:Addr} (w11:Wr K "layers_of" st_p_layers_of f11)
  {f12:Addr} (w12:Wr K "weight_of" st_p_weight_of f12)
  {f13:Addr} (w13:Wr K "either_or_both" st_p_either_or_both f13)
  {f14:Addr} (w14:Wr K "spelled_of" st_p_spelled_of f14)
  {f15:Addr} (w15:Wr K "so_by" st_p_so_by f15)
  {f16:Addr} (w16:Wr K "fold_within" st_p_fold_within f16)
  {f17:Addr} (w17:Wr K "folded" st_p_folded f17)
  {f18:Addr} (w18:Wr K "spelled" st_p_spelled f18)
  {f19:Addr} (w19:Wr K "weight" st_p_weight f19)
  {f20:Addr} (w20:Wr K "_law_plain" st_l_plain f20)
  {f21:Addr} (w21:Wr K "all_parts" st_p_all_parts f21)
  {f22:Addr} (w22:Wr K "questions_in" st_p_questions_in f22)
  {f23:Addr} (w23:Wr K "layers" st_p_layers f23)
  {f24:Addr} {od24 an24:Option Addr} {sl24:Array (Option Value)} {oc24 kV24 dc24 pm24 cd24 ct24:Value}
  (a24:PySem.W.nsIn K mainGlobals "is_so" = some (some (.ref f24))) (l24:K.lookup f24 = some ⟨oc24,od24,.func (PySem.W.fnOf "is_so" "is_so" (defArgs st_p_is_so) (defBody st_p_is_so) (defScope st_p_is_so) .none kV24 dc24 pm24 an24 cd24 ct24),sl24⟩) (c24:PySem.W.codeIn K cd24 "is_so" = true) (k24:PySem.W.keepIn K (.ref f24) = true)
  {f25:Addr} (w25:Wr K "_law_right" st_l_right f25)
  {f26:Addr} (w26:Wr K "_law_answers" st_l_answers f26)
  {f27:Addr} {od27 an27:Option Addr} {sl27:Array (Option Value)} {oc27 kV27 dc27 pm27 cd27 ct27:Value}
  (a27:PySem.W.nsIn K mainGlobals "law" = some (some (.ref f27))) (l27:K.lookup f27 = some ⟨oc27,od27,.func (PySem.W.fnOf "law" "law" (defArgs st_law) (defBody st_law) (defScope st_law) .none kV27 dc27 pm27 an27 cd27 ct27),sl27⟩) (c27:PySem.W.codeIn K cd27 "law" = true) (k27:PySem.W.keepIn K (.ref f27) = true)
  (z1:PySem.W.nsIn K mainGlobals "all" = some none)
  (z2:PySem.W.nsIn K mainGlobals "int" = some none)
  (z3:PySem.W.nsIn K mainGlobals "isinstance" = some none)
  (z4:PySem.W.nsIn K mainGlobals "len" = some none)
  (z5:PySem.W.nsIn K mainGlobals "list" = some none)
  (z6:PySem.W.nsIn K mainGlobals "max" = some none)
  (z7:PySem.W.nsIn K mainGlobals "range" = some none)
  (z8:PySem.W.nsIn K mainGlobals "reversed" = some none)
  (z9:PySem.W.nsIn K mainGlobals "set" = some none)
  (z10:PySem.W.nsIn K mainGlobals "sorted" = some none)
  (z11:PySem.W.nsIn K mainGlobals "sum" = some none)
  (z12:PySem.W.nsIn K mainGlobals "tuple" = some none)
  {pt1:Addr} {et1:Nat} {q1_0 r1_0 q1_1 r1_1 q1_2 r1_2 q1_3 r1_3 q1_4 r1_4 q1_5 r1_5 q1_6 r1_6 q1_7 r1_7:Tok} (ta1:PySem.W.nsIn K mainGlobals "LAYERS_MORE" = some (some (.ref pt1))) (tl1:K.lookup pt1 = some ⟨.type "dict",none,.dict [⟨hashStr w "yes",.str "yes" q1_0,.int 0 r1_0⟩,⟨hashStr w "no",.str "no" q1_1,.int 0 r1_1⟩,⟨hashStr w "ask",.str "ask" q1_2,.int 0 r1_2⟩,⟨hashStr w "not",.str "not" q1_3,.int 0 r1_3⟩,⟨hashStr w "and",.str "and" q1_4,.int 1 r1_4⟩,⟨hashStr w "or",.str "or" q1_5,.int 1 r1_5⟩,⟨hashStr w "either",.str "either" q1_6,.int 2 r1_6⟩,⟨hashStr w "most",.str "most" q1_7,.int 3 r1_7⟩].toArray et1,#[]⟩)
  {c0 P0:Addr} (tt:PySem.W.tabIn K "is_so" = some (c0,P0)) (th:PySem.W.codeHdIn K c0 P0 = true) (tc:cd24 = .ref c0) :
  ∃ fd:FuncData,(∀ (s:Shared) (v:Value),BindsTo s fd ⟨[v],[]⟩ [("_law_script",v)]) ∧ ∀ base:Heap,K.In base → base.Ns mainGlobals mg → FnOk l.prog w K mg base CX0 52 fa fd ["_law_script"] (spD K none 1 F_law):=by
 have e:=hfa.symm.trans (PySem.W.mg_of X G a27)
 cases e
 have z_all:=PySem.W.mg_none_of X G z1
 have z_int:=PySem.W.mg_none_of X G z2
 have z_isinstance:=PySem.W.mg_none_of X G z3
 have z_len:=PySem.W.mg_none_of X G z4
 have z_list:=PySem.W.mg_none_of X G z5
 have z_max:=PySem.W.mg_none_of X G z6
 have z_range:=PySem.W.mg_none_of X G z7
 have z_reversed:=PySem.W.mg_none_of X G z8
 have z_set:=PySem.W.mg_none_of X G z9
 have z_sorted:=PySem.W.mg_none_of X G z10
 have z_sum:=PySem.W.mg_none_of X G z11
 have z_tuple:=PySem.W.mg_none_of X G z12
 have k_LAYERS_MORE:KTV w K mg "LAYERS_MORE" c_LAYERS_MORE:=kt_ints _ (PySem.W.mg_of X G ta1) tl1 (.cons ⟨⟨_,rfl⟩,⟨_,rfl⟩,rfl⟩ (.cons ⟨⟨_,rfl⟩,⟨_,rfl⟩,rfl⟩ (.cons ⟨⟨_,rfl⟩,⟨_,rfl⟩,rfl⟩ (.cons ⟨⟨_,rfl⟩,⟨_,rfl⟩,rfl⟩ (.cons ⟨⟨_,rfl⟩,⟨_,rfl⟩,rfl⟩ (.cons ⟨⟨_,rfl⟩,⟨_,rfl⟩,rfl⟩ (.cons ⟨⟨_,rfl⟩,⟨_,rfl⟩,rfl⟩ (.cons ⟨⟨_,rfl⟩,⟨_,rfl⟩,rfl⟩ (.nil))))))))) (by decide)
 obtain ⟨a1,_,F1⟩:=w1
 have b1:=F1.binds (ps:=["_law_script","_law_k"]) fun _ _ _ _ _ _ us hl=>by obtain ⟨_,_,rfl⟩:=len2 hl; exact rfl
 have m1:=PySem.W.mg_of X G a1
 obtain ⟨a2,_,F2⟩:=w2
 have b2:=F2.binds (ps:=["_law_box_here","_law_wide"]) fun _ _ _ _ _ _ us hl=>by obtain ⟨_,_,rfl⟩:=len2 hl; exact rfl
 have m2:=PySem.W.mg_of X G a2
 obtain ⟨a3,_,F3⟩:=w3
 have b3:=F3.binds (ps:=["_law_box_here","_law_questions","_law_room","_law_down"]) fun _ _ _ _ _ _ us hl=>by obtain ⟨_,_,_,_,rfl⟩:=len4 hl; exact rfl
 have m3:=PySem.W.mg_of X G a3
 obtain ⟨a4,_,F4⟩:=w4
 have b4:=F4.binds (ps:=["_law_box_here","_law_questions","_law_most","_law_down"]) fun _ _ _ _ _ _ us hl=>by obtain ⟨_,_,_,_,rfl⟩:=len4 hl; exact rfl
 have m4:=PySem.W.mg_of X G a4
 obtain ⟨a5,_,F5⟩:=w5
 have b5:=F5.binds (ps:=["_law_saying_here"]) fun _ _ _ _ _ _ us hl=>by obtain ⟨_,rfl⟩:=len1 hl; exact rfl
 have m5:=PySem.W.mg_of X G a5
 obtain ⟨a6,_,F6⟩:=w6
 have b6:=F6.binds (ps:=["_law_saying_here"]) fun _ _ _ _ _ _ us hl=>by obtain ⟨_,rfl⟩:=len1 hl; exact rfl
 have m6:=PySem.W.mg_of X G a6
 obtain ⟨a7,_,F7⟩:=w7
 have b7:=F7.binds (ps:=["_law_box_here","_law_questions","_law_room","_law_most"]) fun _ _ _ _ _ _ us hl=>by obtain ⟨_,_,_,_,rfl⟩:=len4 hl; exact rfl
 have m7:=PySem.W.mg_of X G a7
 obtain ⟨a8,_,F8⟩:=w8
 have b8:=F8.binds (ps:=["_law_questions"]) fun _ _ _ _ _ _ us hl=>by obtain ⟨_,rfl⟩:=len1 hl; exact rfl
 have m8:=PySem.W.mg_of X G a8
 obtain ⟨a9,_,F9⟩:=w9
 have b9:=F9.binds (ps:=["saying"]) fun _ _ _ _ _ _ us hl=>by obtain ⟨_,rfl⟩:=len1 hl; exact rfl
 have m9:=PySem.W.mg_of X G a9
 have n_inner:NK K mg "inner":=⟨_,a9,m9⟩
 obtain ⟨a10,_,F10⟩:=w10
 have b10:=F10.binds (ps:=["whole","inside_of"]) fun _ _ _ _ _ _ us hl=>by obtain ⟨_,_,rfl⟩:=len2 hl; exact rfl
 have m10:=PySem.W.mg_of X G a10
 obtain ⟨a11,_,F11⟩:=w11
 have b11:=F11.binds (ps:=["part","inside"]) fun _ _ _ _ _ _ us hl=>by obtain ⟨_,_,rfl⟩:=len2 hl; exact rfl
 have m11:=PySem.W.mg_of X G a11
 have n_layers_of:NK K mg "layers_of":=⟨_,a11,m11⟩
 obtain ⟨a12,_,F12⟩:=w12
 have b12:=F12.binds (ps:=["part","inside"]) fun _ _ _ _ _ _ us hl=>by obtain ⟨_,_,rfl⟩:=len2 hl; exact rfl
 have m12:=PySem.W.mg_of X G a12
 have n_weight_of:NK K mg "weight_of":=⟨_,a12,m12⟩
 obtain ⟨a13,_,F13⟩:=w13
 have b13:=F13.binds (ps:=["s","t"]) fun _ _ _ _ _ _ us hl=>by obtain ⟨_,_,rfl⟩:=len2 hl; exact rfl
 have m13:=PySem.W.mg_of X G a13
 obtain ⟨a14,_,F14⟩:=w14
 have b14:=F14.binds (ps:=["part","inside"]) fun _ _ _ _ _ _ us hl=>by obtain ⟨_,_,rfl⟩:=len2 hl; exact rfl
 have m14:=PySem.W.mg_of X G a14
 have n_spelled_of:NK K mg "spelled_of":=⟨_,a14,m14⟩
 obtain ⟨a15,_,F15⟩:=w15
 have b15:=F15.binds (ps:=["answers","part","inside"]) fun _ _ _ _ _ _ us hl=>by obtain ⟨_,_,_,rfl⟩:=len3 hl; exact rfl
 have m15:=PySem.W.mg_of X G a15
 obtain ⟨a16,_,F16⟩:=w16
 have b16:=F16.binds (ps:=["whole","inside_of","put"]) fun _ _ _ _ _ _ us hl=>by obtain ⟨_,_,_,rfl⟩:=len3 hl; exact rfl
 have m16:=PySem.W.mg_of X G a16
 obtain ⟨a17,_,F17⟩:=w17
 have b17:=F17.binds (ps:=["saying","put"]) fun _ _ _ _ _ _ us hl=>by obtain ⟨_,_,rfl⟩:=len2 hl; exact rfl
 have m17:=PySem.W.mg_of X G a17
 obtain ⟨a18,_,F18⟩:=w18
 have b18:=F18.binds (ps:=["saying"]) fun _ _ _ _ _ _ us hl=>by obtain ⟨_,rfl⟩:=len1 hl; exact rfl
 have m18:=PySem.W.mg_of X G a18
 obtain ⟨a19,_,F19⟩:=w19
 have b19:=F19.binds (ps:=["saying"]) fun _ _ _ _ _ _ us hl=>by obtain ⟨_,rfl⟩:=len1 hl; exact rfl
 have m19:=PySem.W.mg_of X G a19
 obtain ⟨a20,_,F20⟩:=w20
 have b20:=F20.binds (ps:=["_law_saying_here"]) fun _ _ _ _ _ _ us hl=>by obtain ⟨_,rfl⟩:=len1 hl; exact rfl
 have m20:=PySem.W.mg_of X G a20
 obtain ⟨a21,_,F21⟩:=w21
 have b21:=F21.binds (ps:=["saying"]) fun _ _ _ _ _ _ us hl=>by obtain ⟨_,rfl⟩:=len1 hl; exact rfl
 have m21:=PySem.W.mg_of X G a21
 obtain ⟨a22,_,F22⟩:=w22
 have b22:=F22.binds (ps:=["saying"]) fun _ _ _ _ _ _ us hl=>by obtain ⟨_,rfl⟩:=len1 hl; exact rfl
 have m22:=PySem.W.mg_of X G a22
 obtain ⟨a23,_,F23⟩:=w23
 have b23:=F23.binds (ps:=["saying"]) fun _ _ _ _ _ _ us hl=>by obtain ⟨_,rfl⟩:=len1 hl; exact rfl
 have m23:=PySem.W.mg_of X G a23
 have F24:=fun_mk (st:=st_p_is_so) l24 c24 k24
 have b24:=F24.binds (ps:=["saying","answers"]) fun _ _ _ _ _ _ us hl=>by obtain ⟨_,_,rfl⟩:=len2 hl; exact rfl
 have m24:=PySem.W.mg_of X G a24
 obtain ⟨a25,_,F25⟩:=w25
 have b25:=F25.binds (ps:=["_law_saying_here","_law_rows"]) fun _ _ _ _ _ _ us hl=>by obtain ⟨_,_,rfl⟩:=len2 hl; exact rfl
 have m25:=PySem.W.mg_of X G a25
 obtain ⟨a26,_,F26⟩:=w26
 have b26:=F26.binds (ps:=["_law_box_here","_law_questions"]) fun _ _ _ _ _ _ us hl=>by obtain ⟨_,_,rfl⟩:=len2 hl; exact rfl
 have m26:=PySem.W.mg_of X G a26
 have F27:=fun_mk (st:=st_law) l27 c27 k27
 have b27:=F27.binds (ps:=["_law_script"]) fun _ _ _ _ _ _ us hl=>by obtain ⟨_,rfl⟩:=len1 hl; exact rfl
 have m27:=PySem.W.mg_of X G a27
 refine ⟨PySem.W.fnOf "law" "law" (defArgs st_law) (defBody st_law) (defScope st_law) .none kV27 dc27 pm27 an27 cd27 ct27,fun s v=>.of_eq rfl,fun base _ _=>?_⟩
 have D_l_box:=ok_l_box (P:=l.prog) (wd:=w) (base:=base) F1 m1 b1 z_int z_len
 have D_l_take:=ok_l_take (P:=l.prog) (wd:=w) (base:=base) F2 m2 b2
 have D_l_saying:=ok_l_saying F3 m3 b3 z_max D_l_take fuel_l_saying
 have D_l_weighed:=ok_l_weighed F4 m4 b4 D_l_take D_l_saying fuel_l_weighed
 have D_l_weight:=ok_l_weight (P:=l.prog) (wd:=w) (base:=base) F5 m5 b5 z_int z_isinstance z_tuple fuel_l_weight
 have D_l_many_parts:=ok_l_many_parts (P:=l.prog) (wd:=w) (base:=base) F6 m6 b6 z_isinstance z_sum z_tuple fuel_l_many_parts
 have D_l_light:=ok_l_light F7 m7 b7 z_len D_l_take D_l_saying D_l_weighed D_l_weight D_l_many_parts
 have D_l_all_answers:=ok_l_all_answers (P:=l.prog) (wd:=w) (base:=base) F8 m8 b8 z_range
 have D_p_inner:=ok_p_inner (P:=l.prog) (wd:=w) (base:=base) F9 m9 b9
 have D_p_all_within:=ok_p_all_within F10 m10 b10 z_list z_reversed D_p_inner
 have D_p_layers_of:=ok_p_layers_of (P:=l.prog) (wd:=w) (base:=base) F11 m11 b11 z_max k_LAYERS_MORE
 have D_p_weight_of:=ok_p_weight_of (P:=l.prog) (wd:=w) (base:=base) F12 m12 b12
 have D_p_either_or_both:=ok_p_either_or_both (P:=l.prog) (wd:=w) (base:=base) F13 m13 b13
 have D_p_spelled_of:=ok_p_spelled_of F14 m14 b14 z_tuple D_p_either_or_both
 have D_p_so_by:=ok_p_so_by (P:=l.prog) (wd:=w) (base:=base) F15 m15 b15
 have D_p_fold_within:=ok_p_fold_within F16 m16 b16 z_reversed D_p_inner D_p_all_within D_p_layers_of D_p_weight_of D_p_spelled_of D_p_so_by
 have D_p_folded:=ok_p_folded F17 m17 b17 n_inner D_p_fold_within
 have D_p_spelled:=ok_p_spelled F18 m18 b18 n_spelled_of D_p_folded
 have D_p_weight:=ok_p_weight F19 m19 b19 n_weight_of D_p_folded
 have D_l_plain:=ok_l_plain (P:=l.prog) (wd:=w) (base:=base) F20 m20 b20 z_all fuel_l_plain
 have D_p_all_parts:=ok_p_all_parts F21 m21 b21 n_inner D_p_all_within
 have D_p_questions_in:=ok_p_questions_in F22 m22 b22 z_set z_sorted D_p_all_parts
 have D_p_layers:=ok_p_layers F23 m23 b23 n_layers_of D_p_folded
 have D_p_is_so:=ok_p_is_so F24 m24 b24 ⟨_,_,tc,tt,th⟩ D_p_folded
 have D_l_right:=ok_l_right F25 m25 b25 z_all D_p_spelled D_p_weight D_l_plain D_p_questions_in D_p_layers D_p_is_so
 have D_l_answers:=ok_l_answers F26 m26 b26 z_range z_tuple D_l_take
 exact ok_law F27 z_len z_range D_l_box D_l_take D_l_light D_l_all_answers D_l_right D_l_answers
theorem walk {l:PySem.W.OpenLaw} {q:Program} {loose:List Str} {XP:(Str → Option Value) → Heap → Prop} {YP:World → Heap → Prop} {d:DefRec} {K:Params → PySem.W.Frag} (pure:∀ ns:List Int,ns.length ≤ 63 → F_law [.k (intsT ns)] = some (.v (.a (.bl true)),[])) (hn:l.most = some 63) (hdf:d.params.defaults = [])
  (hY:∀ (w:World) (h:Heap),YP w h → (K w.params).In h) {c0 P0:Addr} (hYP:∀ (w:World) (h:Heap),YP w h → h.get? P0 = some { cls:=.none,data:=.fields #[] }) (hT:∀ w:World,PySem.W.tabIn (K w.params) "is_so" = some (c0,P0)) (hH:∀ w:World,PySem.W.codeHdIn (K w.params) c0 P0 = true) (hNT:∀ w:World,PySem.W.noTabs (K w.params) = true)
  (F:∀ (w:World) (mg:Str → Option Value) (fa:Addr) (h:Heap),(K w.params).In h → h.Ns mainGlobals mg → mg d.name = some (.ref fa) →
   ∃ fd:FuncData,(∀ (s:Shared) (u:Value),BindsTo s fd ⟨[u],[]⟩ [("_law_script",u)]) ∧ ∀ base:Heap,(K w.params).In base → base.Ns mainGlobals mg → FnOk l.prog w (K w.params) mg base CX0 52 fa fd ["_law_script"] (spD (K w.params) none 1 F_law)) :
  PySem.W.WalkO q loose XP YP l.row.toRowW d [] (fun f vs=>PySem.call f vs) :=
 D.walk_ofL (n:=63) (k:=52) (x:="_law_script") (sp:=fun K=>spD K none 1 F_law) hn (by decide) hdf ⟨rfl,by decide,by decide,rfl⟩ hY hYP hT hH hNT F (fun K H a ns hl h1 h2 h3=>spD_lawL h1 h2 h3 (pure ns hl))
end Lw
open PySem PySem.W PyProof.Rows
theorem PySem.W.Fast.tw9473691387384154083:True:=trivial
theorem PySem.W.Fast.tw8749800196630608266:True:=trivial
theorem PySem.W.Fast.tw475954957038276907:True:=trivial
theorem PySem.W.Fast.tw1513269003529281548:True:=trivial
theorem PySem.W.Fast.tw12645216704178849407:True:=trivial
theorem PySem.W.Fast.tw2228547737386541907:True:=trivial
theorem PySem.W.Fast.tw16525032063273384723:True:=trivial
theorem PySem.W.Fast.tw15742044126379626370:True:=trivial
theorem PySem.W.Fast.tw13630145378230177902:True:=trivial
theorem PySem.W.Fast.tw10103737432310922786:True:=trivial
theorem PySem.W.Fast.tw4812051437368460823:True:=trivial
theorem PySem.W.Fast.tw15603924791493788335:True:=trivial
set_option maxRecDepth 100000 in
set_option maxHeartbeats 0 in
theorem PySem.Challenge.cw_fivecups_k10_whole_spelled_says_the_same_holds : PySem.Challenge.rw_fivecups_k10_whole_spelled_says_the_same.Holds := by
 w_on; o_law; k_head; (case hw=>w_witness2)
 k_fill
 refine' Lw.walk (l:=PySem.Challenge.rw_fivecups_k10_whole_spelled_says_the_same) Lw.law_true rfl rfl (fun w h Y=>PySem.W.km_in_of Y) (fun w h Y=>PySem.W.km_tabs_of Y _ (List.Mem.head _)) ?hT ?hH ?hNT ?F
 case hT=>(intro w; refine' Lw.tab_mk ?a ?l ?c ?v; (case a=>k_is); (case l=>k_is); (case c=>k_is); (case v=>rfl))
 case hH=>(intro w; kernel_rfl)
 case hNT=>(intro w; kernel_rfl)
 case F =>
  intro w mg fa h KX G hmg
  refine' Lw.all_mk KX G hmg ?w1 ?w2 ?w3 ?w4 ?w5 ?w6 ?w7 ?w8 ?w9 ?w10 ?w11 ?w12 ?w13 ?w14 ?w15 ?w16 ?w17 ?w18 ?w19 ?w20 ?w21 ?w22 ?w23 ?a24 ?l24 ?c24 ?k24 ?w25 ?w26 ?a27 ?l27 ?c27 ?k27 ?z1 ?z2 ?z3 ?z4 ?z5 ?z6 ?z7 ?z8 ?z9 ?z10 ?z11 ?z12 ?ta1 ?tl1 ?tt ?th ?tc
  (case w1=>refine' Lw.wr_mk ?a ?l ?c ?k; (case a=>k_is); (case l=>k_is); (case c=>k_is); (case k=>k_is))
  (case w2=>refine' Lw.wr_mk ?a ?l ?c ?k; (case a=>k_is); (case l=>k_is); (case c=>k_is); (case k=>k_is))
  (case w3=>refine' Lw.wr_mk ?a ?l ?c ?k; (case a=>k_is); (case l=>k_is); (case c=>k_is); (case k=>k_is))
  (case w4=>refine' Lw.wr_mk ?a ?l ?c ?k; (case a=>k_is); (case l=>k_is); (case c=>k_is); (case k=>k_is))
  (case w5=>refine' Lw.wr_mk ?a ?l ?c ?k; (case a=>k_is); (case l=>k_is); (case c=>k_is); (case k=>k_is))
  (case w6=>refine' Lw.wr_mk ?a ?l ?c ?k; (case a=>k_is); (case l=>k_is); (case c=>k_is); (case k=>k_is))
  (case w7=>refine' Lw.wr_mk ?a ?l ?c ?k; (case a=>k_is); (case l=>k_is); (case c=>k_is); (case k=>k_is))
  (case w8=>refine' Lw.wr_mk ?a ?l ?c ?k; (case a=>k_is); (case l=>k_is); (case c=>k_is); (case k=>k_is))
  (case w9=>refine' Lw.wr_mk ?a ?l ?c ?k; (case a=>k_is); (case l=>k_is); (case c=>k_is); (case k=>k_is))
  (case w10=>refine' Lw.wr_mk ?a ?l ?c ?k; (case a=>k_is); (case l=>k_is); (case c=>k_is); (case k=>k_is))
  (case w11=>refine' Lw.wr_mk ?a ?l ?c ?k; (case a=>k_is); (case l=>k_is); (case c=>k_is); (case k=>k_is))
  (case w12=>refine' Lw.wr_mk ?a ?l ?c ?k; (case a=>k_is); (case l=>k_is); (case c=>k_is); (case k=>k_is))
  (case w13=>refine' Lw.wr_mk ?a ?l ?c ?k; (case a=>k_is); (case l=>k_is); (case c=>k_is); (case k=>k_is))
  (case w14=>refine' Lw.wr_mk ?a ?l ?c ?k; (case a=>k_is); (case l=>k_is); (case c=>k_is); (case k=>k_is))
  (case w15=>refine' Lw.wr_mk ?a ?l ?c ?k; (case a=>k_is); (case l=>k_is); (case c=>k_is); (case k=>k_is))
  (case w16=>refine' Lw.wr_mk ?a ?l ?c ?k; (case a=>k_is); (case l=>k_is); (case c=>k_is); (case k=>k_is))
  (case w17=>refine' Lw.wr_mk ?a ?l ?c ?k; (case a=>k_is); (case l=>k_is); (case c=>k_is); (case k=>k_is))
  (case w18=>refine' Lw.wr_mk ?a ?l ?c ?k; (case a=>k_is); (case l=>k_is); (case c=>k_is); (case k=>k_is))
  (case w19=>refine' Lw.wr_mk ?a ?l ?c ?k; (case a=>k_is); (case l=>k_is); (case c=>k_is); (case k=>k_is))
  (case w20=>refine' Lw.wr_mk ?a ?l ?c ?k; (case a=>k_is); (case l=>k_is); (case c=>k_is); (case k=>k_is))
  (case w21=>refine' Lw.wr_mk ?a ?l ?c ?k; (case a=>k_is); (case l=>k_is); (case c=>k_is); (case k=>k_is))
  (case w22=>refine' Lw.wr_mk ?a ?l ?c ?k; (case a=>k_is); (case l=>k_is); (case c=>k_is); (case k=>k_is))
  (case w23=>refine' Lw.wr_mk ?a ?l ?c ?k; (case a=>k_is); (case l=>k_is); (case c=>k_is); (case k=>k_is))
  (case a24=>k_is); (case l24=>k_is); (case c24=>k_is); (case k24=>k_is)
  (case w25=>refine' Lw.wr_mk ?a ?l ?c ?k; (case a=>k_is); (case l=>k_is); (case c=>k_is); (case k=>k_is))
  (case w26=>refine' Lw.wr_mk ?a ?l ?c ?k; (case a=>k_is); (case l=>k_is); (case c=>k_is); (case k=>k_is))
  (case a27=>k_is); (case l27=>k_is); (case c27=>k_is); (case k27=>k_is)
  (case z1=>k_is); (case z2=>k_is); (case z3=>k_is); (case z4=>k_is); (case z5=>k_is); (case z6=>k_is); (case z7=>k_is); (case z8=>k_is); (case z9=>k_is); (case z10=>k_is); (case z11=>k_is); (case z12=>k_is)
  (case ta1=>k_is); (case tl1=>k_is)
  (case tt=>refine' Lw.tab_mk ?a ?l ?c ?v; (case a=>k_is); (case l=>k_is); (case c=>k_is); (case v=>rfl)); (case th=>kernel_rfl); (case tc=>rfl)
