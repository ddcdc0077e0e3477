import PyProof.Rows.All
import Wide.All
import OpenK.AllK
import Wide.FinOn
import Lean
import PyProof.EqAt
import PyProof.EqKinds
import PyProof.TupleCall
import PySem.Challenge.RW_paidspan_k71_late_is_in_time
set_option Elab.async false
set_option linter.all false
set_option maxRecDepth 100000
namespace L2
open PySem PySem.Spec PyProof.Rows
abbrev Key:=Sum Int Str
def zfr:Key→Value→Bool
 | .inl k,v=>Value.isInt k v
 | .inr x,v=>Value.isStrOf x v
def zmh (w:World):Key→Int
 | .inl k=>hashInt k
 | .inr x=>hashStr w x
theorem zbz: ∀{k:Key} {v:Value},zfr k v=true→(∃i t,k=Sum.inl i∧v=Value.int i t)∨(∃x t,k=Sum.inr x∧v=Value.str x t)
 | .inl i,v,h=>by
  obtain ⟨t,e⟩:=Value.isInt_shape (k:=i) (v:=v) h
  exact .inl ⟨i,t,rfl,e⟩
 | .inr x,v,h=>by
  obtain ⟨t,e⟩:=Value.isStrOf_shape (x:=x) (v:=v) h
  exact .inr ⟨x,t,rfl,e⟩
theorem zin (i:Int) (t:Tok):zfr (.inl i) (.int i t)=true:=by simp [zfr,Value.isInt]
theorem zio (x:Str) (t:Tok):zfr (.inr x) (.str x t)=true:=by simp [zfr,Value.isStrOf]
theorem zk2 (a b:Int):decide ((Sum.inl a:Key)=Sum.inl b)=(a==b):=by
 by_cases e:a=b
 ·subst e;simp
 ·have h: ¬(Sum.inl a:Key)=Sum.inl b:=fun q=>e (Sum.inl.inj q)
  rw [decide_eq_false h]
  exact (beq_eq_false_iff_ne.mpr e).symm
theorem zk3 (a b:Str):decide ((Sum.inr a:Key)=Sum.inr b)=decide (a=b):=by
 by_cases e:a=b
 ·subst e;simp
 ·have h: ¬(Sum.inr a:Key)=Sum.inr b:=fun q=>e (Sum.inr.inj q)
  rw [decide_eq_false h,decide_eq_false e]
theorem zk4 (a:Int) (b:Str):decide ((Sum.inl a:Key)=Sum.inr b)=false:=decide_eq_false (fun q=>nomatch q)
theorem zk5 (a:Str) (b:Int):decide ((Sum.inr a:Key)=Sum.inl b)=false:=decide_eq_false (fun q=>nomatch q)
def zbf (prog:Program) (w:World):PySem.KeyKind prog w Key where
 is:=zfr
 hash:=zmh w
 inj:=fun v a b ha hb=>by
  rcases zbz ha with ⟨i,t,rfl,rfl⟩|⟨x,t,rfl,rfl⟩
  ·rcases zbz hb with ⟨j,u,rfl,e⟩|⟨y,u,rfl,e⟩
   ·injection e with e1 _;rw [e1]
   ·exact nomatch e
  ·rcases zbz hb with ⟨j,u,rfl,e⟩|⟨y,u,rfl,e⟩
   ·exact nomatch e
   ·injection e with e1 _;rw [e1]
 byValue:=fun k v h=>by
  rcases zbz h with ⟨i,t,rfl,rfl⟩|⟨x,t,rfl,rfl⟩<;>rfl
 pyHash:=fun hv h=>by
  rcases zbz hv with ⟨i,t,rfl,rfl⟩|⟨x,t,rfl,rfl⟩
  ·exact wpAny_pyHash_int h
  ·exact wpAny_pyHash_str h
 eqBool:=fun hu hv h=>by
  rcases zbz hu with ⟨i,t,rfl,rfl⟩|⟨x,t,rfl,rfl⟩
  ·rcases zbz hv with ⟨j,u,rfl,rfl⟩|⟨y,u,rfl,rfl⟩
   ·rw [zk2] at h;exact wpAny_eqBool_int h
   ·rw [zk4] at h;exact SeqAt.EqAt.int_str i t y u _ _ _ _ h
  ·rcases zbz hv with ⟨j,u,rfl,rfl⟩|⟨y,u,rfl,rfl⟩
   ·rw [zk5] at h;exact SeqAt.EqAt.str_int x t j u _ _ _ _ h
   ·rw [zk3] at h;exact wpAny_eqBool_str h
 «strs» :=fun k x t v h=>by
  rcases zbz h with ⟨i,u,rfl,e⟩|⟨y,u,rfl,e⟩
  ·exact nomatch e
  ·injection e with e1 _
   subst e1
   cases v<;>rfl
theorem zgq (prog:Program) (w:World) (i:Int) (t:Tok):(zbf prog w).is (.inl i) (.int i t)=true:=zin i t
theorem zgr (prog:Program) (w:World) (x:Str) (t:Tok):(zbf prog w).is (.inr x) (.str x t)=true:=zio x t
end L2
namespace L2
open PySem PySem.Spec PyProof.Rows
inductive V where
 |non|bl (b:Bool)|int (i:Int)|str (x:Str)|byt (b:Array UInt8)|flt (b:UInt64)|ref (a:Addr)|ty (n:String)
 deriving DecidableEq
def zaL:V→Value→Prop
 | .non,u=>u=Value.none
 | .bl b,u=>u=Value.bool b
 | .int i,u=> ∃t,u=Value.int i t
 | .str x,u=> ∃t,u=Value.str x t
 | .byt b,u=> ∃t,u=Value.bytes b t
 | .flt b,u=> ∃t,u=Value.float b t
 | .ref a,u=>u=Value.ref a
 | .ty n,u=>u=Value.type n
abbrev zaP:List V→List Value→Prop:=Paired zaL
theorem zaP.length {xs:List V} {us:List Value} (r:zaP xs us):xs.length=us.length:=Paired.length r
theorem zaP.get: ∀{xs:List V} {us:List Value} {i:Nat} {x:V},zaP xs us→xs[i]? =some x→ ∃u,us[i]? =some u∧zaL x u
 |_,_,_,_, .nil,e=>by simp at e
 |_,_,0,_, .cons r _,e=>by simp at e;subst e;exact ⟨_,rfl,r⟩
 |_,_,i+1,x, .cons _ t,e=>by
  obtain ⟨u,h1,h2⟩:=zaP.get (i:=i) (x:=x) t (by simpa using e)
  exact ⟨u,by simpa using h1,h2⟩
theorem zaP.set {x:V} {u:Value} (r:zaL x u): ∀{xs:List V} {us:List Value} (i:Nat),zaP xs us→zaP (xs.set i x) (us.set i u)
 |_,_,_, .nil=> .nil
 |_,_,0, .cons _ t=> .cons r t
 |_,_,i+1, .cons q t=> .cons q (zaP.set r i t)
theorem zaP.append: ∀{xs ys:List V} {us ws:List Value},zaP xs us→zaP ys ws→zaP (xs++ys) (us++ws)
 |_,_,_,_, .nil,s=>s
 |_,_,_,_, .cons r t,s=> .cons r (zaP.append t s)
theorem zaP.take: ∀{xs:List V} {us:List Value} (n:Nat),zaP xs us→zaP (xs.take n) (us.take n)
 |_,_,0,_=> .nil
 |_,_,_+1, .nil=> .nil
 |_,_,n+1, .cons r t=> .cons r (zaP.take n t)
theorem zaP.drop: ∀{xs:List V} {us:List Value} (n:Nat),zaP xs us→zaP (xs.drop n) (us.drop n)
 |_,_,0,r=>r
 |_,_,_+1, .nil=> .nil
 |_,_,n+1, .cons _ t=>zaP.drop n t
def zeF:Option V→Option Value→Prop
 |some v,some u=>zaL v u
 |none,none=>True
 |_,_=>False
def KV {κ:Type}:List (κ×V)→List (κ×Value)→Prop:=Paired fun (p:κ×V) (q:κ×Value)=>p.1=q.1∧zaL p.2 q.2
def kV:Key→V
 | .inl i=> .int i
 | .inr x=> .str x
inductive HO where
 |lst (xs:List V)
 |tup (xs:List V)
 |dK (kvs:List (Key×V))|dT (kvs:List (List Key×V))
 |set (S:Int→Bool) (n:Nat)
 |ins (C dx:Addr) (fs:List (Str×V))
 |own (x:Addr)
 |xd (fs:List (Str×V))
 |met (f x:Addr)
 |rng (lo hi:Int)
 |frz (o:Obj) (u:HO)
 |tbl (ps:Array Value)
 |ext (φ:Heap→Prop)
abbrev Hp:=Addr→Option HO
def upd (H:Hp) (a:Addr) (o:HO):Hp:=fun b=>if b=a then some o else H b
theorem zay {H:Hp} {a:Addr} {o:HO}:upd H a o a=some o:=by unfold upd;rw [if_pos rfl]
theorem zau {H:Hp} {a b:Addr} {o:HO} (h:b≠a):upd H a o b=H b:=by unfold upd;rw [if_neg h]
theorem zlK {H:Hp} {a b:Addr} {o u:HO} (h:H a=some o) (h':H b=some u) (d:o≠u):a≠b:=by
 intro e;subst e;rw [h] at h';exact d (Option.some.inj h')
theorem zbh {H:Hp} {a b:Addr} {o:HO} (h:H a=some o) (h':H b=none):a≠b:=by
 intro e;subst e;rw [h] at h';cases h'
section
variable (P:Program) (w:World)
def zbp (H:Hp) (h:Heap) (a:Addr):HO→Prop
 | .lst xs=>xs.length≤sizeLine∧ ∃(its:List Value) (n:Nat),zaP xs its∧h.get? a=some {cls:= .type "list",data:= .seq its.toArray n}
 | .tup xs=>xs.length≤sizeLine∧ ∃its:List Value,zaP xs its∧IsTup h a its.toArray
 | .dK kvs=>kvs.length≤sizeLine∧(a==sysModules)=false∧ ∃vs,KV kvs vs∧h.DictOf (zbf P w) a vs
 | .dT kvs=>kvs.length≤sizeLine∧(a==sysModules)=false∧ ∃xs:List (List Key×Addr×Value),
   Paired (fun (p:List Key×V) (q:List Key×Addr×Value)=>p.1=q.1∧H q.2.1=some (.tup (p.1.map kV))∧zaL p.2 q.2.2) kvs xs∧
   ∃o es ep,h.get? a=some o∧o.ExactDict∧o.data= .dict es ep∧es.toList=xs.map (entryOfKey (tupleKind (zbf P w)))∧(xs.map (·.1)).Nodup
 | .set S n=>h.SetOf (intKind P w) a S n
 | .ins C dx fs=>H dx=some (.own a)∧fs.length≤1000∧dx≠a∧h.get? a=some (PySem.W.instObj C dx)∧
   ∃mA,h.Ns1 dx mA∧(∀f,zeF (fs.lookup f) (mA f))∧PySem.Within mA (fs.map (·.1))
 | .own _=> ∃o,h.get? a=some o
 | .xd fs=> ∃mA,h.Ns1 a mA∧ ∀f,zeF (fs.lookup f) (mA f)
 | .rng lo hi=> ∃t u v,h.get? a=some {cls:= .type "range",data:= .fields #[.int lo t, .int hi u, .int 1 v]}
 | .frz o u=>h.get? a=some o∧zbp H h a u
 | .tbl ps=>h.get? a=some {cls:= .none,data:= .fields ps}
 | .met f x=>h.get? a=some (PySem.W.methodObj (.ref f) (.ref x))
 | .ext φ=>φ h∧(∃o,h.get? a=some o)∧ ∀h1 h2:Heap,φ h1→(∀o,h1.get? a=some o→h2.get? a=some o)→φ h2
def HOk (H:Hp) (h:Heap):Prop:= ∀a o,H a=some o→zbp P w H h a o
end
section
variable {P:Program} {w:World} {H H':Hp} {h h':Heap} {a:Addr} {o:HO}
theorem zbp.lt (x:zbp P w H h a o):a<h.objs.size:=by
 cases o with
 |lst xs=>obtain ⟨_,_,_,_,e⟩:=x;exact Heap.lt_size e
 |tup xs=>obtain ⟨_,_,_,p⟩:=x;exact p.lt
 |dK kvs=>obtain ⟨_,_,_,_,o,_,_,e,_⟩:=x;exact Heap.lt_size e
 |dT kvs=>obtain ⟨_,_,_,_,o,_,_,e,_⟩:=x;exact Heap.lt_size e
 |set S n=>obtain ⟨o,_,_,_,e,_⟩:=x;exact Heap.lt_size e
 |ins C dx fs=>obtain ⟨_,_,_,e,_⟩:=x;exact Heap.lt_size e
 |own y=>obtain ⟨_,e⟩:=x;exact Heap.lt_size e
 |xd fs=>obtain ⟨_,⟨_,_,_,e,_⟩,_⟩:=x;exact Heap.lt_size e
 |rng lo hi=>obtain ⟨_,_,_,e⟩:=x;exact Heap.lt_size e
 |frz ob u=>obtain ⟨e,_⟩:=x;exact Heap.lt_size e
 |tbl ps=>exact Heap.lt_size (show h.get? a=some _ from x)
 |met f y=>exact Heap.lt_size (show h.get? a=some _ from x)
 |ext φ=>obtain ⟨_,⟨_,e⟩,_⟩:=x;exact Heap.lt_size e
theorem Paired.mapP {α β:Type} {F G:α→β→Prop}: ∀{l₁:List α} {l₂:List β},Paired F l₁ l₂→(∀a b,F a b→G a b)→Paired G l₁ l₂
 |_,_, .nil,_=> .nil
 |_,_, .cons r t,f=> .cons (f _ _ r) (Paired.mapP t f)
theorem zbp.stay (x:zbp P w H h a o) (k: ∀b u,(b=a∨H b=some (.own a))→h.get? b=some u→h'.get? b=some u)
  (ho: ∀b,H b=some (.own a)→H' b=some (.own a)) (ht: ∀b xs,H b=some (.tup xs)→H' b=some (.tup xs)):zbp P w H' h' a o:=by
 induction o with
 |lst xs=>obtain ⟨z,its,n,r,e⟩:=x;exact ⟨z,its,n,r,k _ _ (.inl rfl) e⟩
 |tup xs=>obtain ⟨z,its,r,ob,e,c⟩:=x;exact ⟨z,its,r,ob,k _ _ (.inl rfl) e,c⟩
 |dK kvs=>obtain ⟨z,y,vs,r,ob,es,ep,e,c⟩:=x;exact ⟨z,y,vs,r,ob,es,ep,k _ _ (.inl rfl) e,c⟩
 |dT kvs=>
  obtain ⟨z,y,xs,r,ob,es,ep,e,c⟩:=x
  exact ⟨z,y,xs,Paired.mapP r fun p q z=>⟨z.1,ht _ _ z.2.1,z.2.2⟩,ob,es,ep,k _ _ (.inl rfl) e,c⟩
 |set S n=>obtain ⟨ob,es,ep,t,e,c⟩:=x;exact ⟨ob,es,ep,t,k _ _ (.inl rfl) e,c⟩
 |ins C dx fs=>
  obtain ⟨d,z,ne,e,mA,⟨od,es,ep,e2,c⟩,r⟩:=x
  exact ⟨ho _ d,z,ne,k _ _ (.inl rfl) e,mA,⟨od,es,ep,k _ _ (.inr d) e2,c⟩,r⟩
 |own y=>obtain ⟨ob,e⟩:=x;exact ⟨ob,k _ _ (.inl rfl) e⟩
 |xd fs=>obtain ⟨mA,⟨od,es,ep,e,c⟩,r⟩:=x;exact ⟨mA,⟨od,es,ep,k _ _ (.inl rfl) e,c⟩,r⟩
 |rng lo hi=>obtain ⟨t,u,v,e⟩:=x;exact ⟨t,u,v,k _ _ (.inl rfl) e⟩
 |frz ob u ih=>obtain ⟨e,q⟩:=x;exact ⟨k _ _ (.inl rfl) e,ih q⟩
 |tbl ps=>
  have e:h.get? a=some {cls:= .none,data:= .fields ps}:=x
  show h'.get? a=some {cls:= .none,data:= .fields ps}
  exact k a _ (.inl rfl) e
 |met f y=>
  have e:h.get? a=some (PySem.W.methodObj (.ref f) (.ref y)):=x
  show h'.get? a=some (PySem.W.methodObj (.ref f) (.ref y))
  exact k a _ (.inl rfl) e
 |ext φ=>obtain ⟨p,⟨o,e⟩,st⟩:=x;exact ⟨st _ _ p fun o q=>k _ _ (.inl rfl) q,⟨o,k _ _ (.inl rfl) e⟩,st⟩
theorem HOk.lt (x:HOk P w H h) (e:H a=some o):a<h.objs.size:=(x a o e).lt
theorem HOk.fresh (x:HOk P w H h) (e:h.objs.size≤a):H a=none:=by
 cases q:H a with
 |none=>rfl
 |some u=>exact absurd (Nat.lt_of_lt_of_le (x.lt q) e) (Nat.lt_irrefl _)
theorem HOk.kept (x:HOk P w H h) (k: ∀b u,h.get? b=some u→h'.get? b=some u):HOk P w H h':=fun a o e=>
 (x a o e).stay (fun b u _ q=>k b u q) (fun _ q=>q) fun _ _ q=>q
theorem HOk.laid (x:HOk P w H h) (k: ∀b u,h.get? b=some u→h'.get? b=some u) (hp:h.objs.size≤a) (new:zbp P w (upd H a o) h' a o):HOk P w (upd H a o) h':=fun b u e=>by
 have hn:=x.fresh hp
 by_cases hb:b=a
 ·subst hb;rw [zay] at e;cases e;exact new
 ·rw [zau hb] at e
  exact (x b u e).stay (fun c v _ q=>k c v q) (fun c q=>by rw [zau (zbh q hn)];exact q) fun c xs q=>by rw [zau (zbh q hn)];exact q
end
def Rd (H:Hp) (a:Addr) (u:HO):Prop:=H a=some u∨ ∃o,H a=some (.frz o u)
theorem Rd.of {H:Hp} {a:Addr} {u:HO} (h:H a=some u):Rd H a u:= .inl h
theorem Rd.ok {P:Program} {w:World} {H:Hp} {h:Heap} {a:Addr} {u:HO} (r:Rd H a u) (x:HOk P w H h):zbp P w H h a u:=by
 rcases r with r|⟨o,r⟩
 ·exact x a u r
 ·obtain ⟨_,q⟩:=x a _ r
  exact q
def Mut:Option HO→Prop
 |some (.lst _)=>True
 |some (.dK _)=>True
 |some (.dT _)=>True
 |some (.set _ _)=>True
 |some (.ins _ _ _)=>True
 |some (.ext _)=>True
 |_=>False
section
variable {P:Program} {w:World} {H:Hp} {h h':Heap} {x e:Addr} {o':HO}
theorem HOk.write (ok:HOk P w H h) (mu:Mut (H x)) (he:e=x∨H e=some (.own x)) (k: ∀b u,b≠e→h.get? b=some u→h'.get? b=some u) (heo: ∃u,h'.get? e=some u)
  (new:zbp P w (upd H x o') h' x o'):HOk P w (upd H x o') h':=fun b u q=>by
 have nown: ∀c y,H c=some (.own y)→c≠x:=fun c y r z=>by subst z;rw [r] at mu;exact mu
 have ntup: ∀c xs,H c=some (.tup xs)→c≠x:=fun c xs r z=>by subst z;rw [r] at mu;exact mu
 by_cases hb:b=x
 ·subst hb;rw [zay] at q;cases q;exact new
 ·rw [zau hb] at q
  by_cases hbe:b=e
  ·have q':H b=some (.own x):=by
    rcases he with z|z
    ·exact absurd (hbe.trans z) hb
    ·rw [hbe];exact z
   rw [q] at q';cases q'
   obtain ⟨v,hv⟩:=heo
   exact ⟨v,by rw [hbe];exact hv⟩
  ·refine (ok b u q).stay (fun c v hc r=>k c v ?_ r) (fun c r=>by rw [zau (nown c b r)];exact r) fun c xs r=>by rw [zau (ntup c xs r)];exact r
   rcases hc with rfl|hc
   ·exact hbe
   ·rintro rfl
    rcases he with z|z
    ·exact nown c b hc z
    ·rw [hc] at z;cases z;exact hb rfl
end
structure Un (fs ex:List Addr) (H H':Hp) (h h':Heap):Prop where
 keep: ∀b o,h.get? b=some o→H b=none→b∉fs→b∉ex→h'.get? b=some o
 slot: ∀b o,h.get? b=some o→H b=none→b∈fs→b∉ex→ ∃sl,h'.get? b=some {o with slots:=sl}
 free: ∀b o,h.get? b=some o→H b=none→b∉ex→H' b=none
 there: ∀b o,h.get? b=some o→b∉ex→ ∃o',h'.get? b=some o'
 tups: ∀b xs,H b=some (.tup xs)→H' b=some (.tup xs)
 frzs: ∀b o u,H b=some (.frz o u)→H' b=some (.frz o u)
 tbls: ∀b ps,H b=some (.tbl ps)→ ∃more,H' b=some (.tbl (ps++more))
section
variable {fs fs' ex ex':List Addr} {H H1 H2:Hp} {h h1 h2 h':Heap} {a x e:Addr} {o:HO}
theorem Un.any (u:Un fs ex H H1 h h1) {b:Addr} {ob:Obj} (q:h.get? b=some ob) (n:H b=none) (hx:b∉ex): ∃sl,h1.get? b=some {ob with slots:=sl}:=by
 by_cases hb:b∈fs
 ·exact u.slot b ob q n hb hx
 ·exact ⟨ob.slots,u.keep b ob q n hb hx⟩
theorem Un.kept (k: ∀b u,h.get? b=some u→h'.get? b=some u):Un fs ex H H h h':=
 ⟨fun b ob q _ _ _=>k b ob q,fun b ob q _ _ _=>⟨ob.slots,k b ob q⟩,fun _ _ _ n _=>n,fun b ob q _=>⟨ob,k b ob q⟩,fun _ _ q=>q,fun _ _ _ q=>q,fun _ ps q=>⟨#[],by rw [q];simp⟩⟩
theorem Un.refl:Un fs ex H H h h:=Un.kept fun _ _ q=>q
theorem Un.laid (k: ∀b u,h.get? b=some u→h'.get? b=some u) (hp:h.objs.size≤a) (hn:H a=none):Un fs ex H (upd H a o) h h' where
 keep:=fun b u q _ _ _=>k b u q
 slot:=fun b u q _ _ _=>⟨u.slots,k b u q⟩
 free:=fun b u q n _=>by rw [zau (Nat.ne_of_lt (Nat.lt_of_lt_of_le (Heap.lt_size q) hp))];exact n
 there:=fun b u q _=>⟨u,k b u q⟩
 tups:=fun b xs q=>by rw [zau (zbh q hn)];exact q
 frzs:=fun b u xs q=>by rw [zau (zbh q hn)];exact q
 tbls:=fun b ps q=>⟨#[],by rw [zau (zbh q hn),q];simp⟩
theorem Un.write (mu:Mut (H x)) (he:e=x∨H e=some (.own x)) (k: ∀b u,b≠e→h.get? b=some u→h'.get? b=some u) (heo: ∃u,h'.get? e=some u):Un fs ex H (upd H x o) h h':=by
 have hx: ∀b,H b=none→b≠x:=fun b n z=>by subst z;rw [n] at mu;exact mu
 have hb: ∀b,H b=none→b≠e:=fun b n z=>by
  subst z
  rcases he with r|r
  ·exact hx b n r
  ·rw [n] at r;cases r
 have hm: ∀b u,H b=some u→ ¬Mut (some u)→b≠x:=fun b u q nm z=>by subst z;rw [q] at mu;exact nm mu
 refine ⟨fun b u q n _ _=>k b u (hb b n) q,fun b u q n _ _=>⟨u.slots,k b u (hb b n) q⟩,fun b u q n _=>by rw [zau (hx b n)];exact n,fun b u q _=> ?_,
  fun b xs q=>by rw [zau (hm b _ q fun z=>z)];exact q,fun b u xs q=>by rw [zau (hm b _ q fun z=>z)];exact q,fun b ps q=>⟨#[],by rw [zau (hm b _ q fun z=>z),q];simp⟩⟩
 by_cases hbe:b=e
 ·subst hbe;exact heo
 ·exact ⟨u,k b u hbe q⟩
end
def trk (h:Heap) (H:Hp):List Addr:=(List.range h.objs.size).filter fun a=>(H a).isSome
def zfk (h:Heap) (H:Hp):Heap:=PySem.W.hideAll h (trk h H)
theorem ziq (h:Heap) (H:Hp):(zfk h H).objs.size=h.objs.size:=PySem.W.hideAll_size _ _
theorem zi0 {h:Heap} {H:Hp} {b:Addr} {o:Obj} (e:h.get? b=some o) (n:H b=none):(zfk h H).get? b=some o:=
 PySem.W.hideAll_get _ e fun hm=>by
  have q:(H b).isSome=true:=(List.mem_filter.mp hm).2
  rw [n] at q;simp at q
theorem zj3 {h:Heap} {H:Hp} {b:Addr} {o:Obj} (e:(zfk h H).get? b=some o):h.get? b=some o∧H b=none:=by
 have e':h.get? b=some o:=PySem.W.of_hideAll (trk h H) e
 refine ⟨e',?_⟩
 cases q:H b with
 |none=>rfl
 |some x=>
  have hm:b∈trk h H:=List.mem_filter.mpr ⟨List.mem_range.mpr (Heap.lt_size e'),by simp [q]⟩
  have z:(zfk h H).get? b=none:=PySem.W.hideAll_none (trk h H) hm
  rw [z] at e;cases e
def zj4 (g h:Heap) (L:Addr):List (Addr×Obj):=(List.range h.objs.size).filterMap fun a=>if a=L∨(g.get? a).isSome=true then none else (h.get? a).map fun o=>(a,o)
def rest (g h:Heap) (L d:Addr):List (Addr×Obj):=(zj4 g h L).filter fun p=>decide (p.1≠d)
end L2
namespace L2
open PySem PySem.Spec PyProof.Rows
structure Mod (K:PySem.W.Frag) (mg:Str→Option Value) (base:Heap):Prop where
 kin:K.In base
 glob:base.Ns mainGlobals mg
 blt: ∃mb,base.Ns builtinsNs mb∧ ∀x:Str,x≠"__name__"→mb x=bootBuiltins x
 nolimit:base.NoLimit
set_option genInjectivity false in
set_option genSizeOf false in
structure Cx where
 prog:Program
 w:World
 K:PySem.W.Frag
 mg:Str→Option Value
 base:Heap
 A:Around
 N:List Str
 s₀:Shared
 H₀:Hp
 env:Env
 outer:List Env
 stack:List Env
 ex:List Addr
 fn:Str→Bool
 calm:Bool
 pn:List (Addr×Obj)
 xe:Value→Shared→Prop
def frs (l:List Env):List Addr:=l.filterMap (·.frame)
abbrev Cx.fs (X:Cx):List Addr:=frs X.outer
def Vis (sc:Scope) (x:Str):Prop:=sc.names.lookup x=some .local∨sc.names.lookup x=some .cell∨sc.names.lookup x=some .free
def Loc (sc:Scope) (x:Str):Prop:=sc.names.lookup x=some .local∨sc.names.lookup x=some .cell
def zmi (env:Env) (h:Heap) (m:Str→Option Value) (x:Str) (u:Value):Prop:=
 (env.kindOf x=some .local∧m x=some u)∨((env.kindOf x=some .cell∨env.kindOf x=some .free)∧ ∃c,env.cells.lookup x=some c∧h.IsCell c (some u))
structure Cx.Ok (X:Cx):Prop where
 mod:Mod X.K X.mg X.base
 kind:X.env.scope.kind= .function
 glob:X.env.globals=mainGlobals
 blt:X.env.builtins=builtinsNs
 above:X.s₀.heap.objs.size≤X.env.locals
 inj: ∀x y c,X.env.cells.lookup x=some c→X.env.cells.lookup y=some c→x=y
 has: ∀x,(X.env.kindOf x=some .cell∨X.env.kindOf x=some .free)→ ∃c,X.env.cells.lookup x=some c
 cab: ∀x c,X.fn x=true→X.env.cells.lookup x=some c→X.s₀.heap.objs.size≤c
 hd:X.calm=true→X.A.handled=none
 frames:X.A.frames=some X.stack
 stk:X.stack=X.outer∨(X.stack=X.env::X.outer∧X.env.frame=some X.env.locals)
 exf: ∀b∈X.ex,b≠X.env.locals∧ ∀x c,X.env.cells.lookup x=some c→c≠b
 bs: ∀b o,X.base.get? b=some o→X.s₀.heap.get? b=some o∧X.H₀ b=none
 bsz:X.base.objs.size≤X.s₀.heap.objs.size
 noex: ∀b o,X.base.get? b=some o→b∉X.ex
 exfs: ∀b∈X.ex,b∉X.fs
 funs:X.s₀.heap.FunFrames X.base X.outer
 frf: ∀b∈X.fs,X.H₀ b=none
structure Inv (X:Cx) (pins:List (Addr×Obj)) (σ:List (Option V)) (H:Hp) (s:Shared):Prop where
 ok:X.Ok
 os:s.os=X.s₀.os
 bare:AllBare s.gens
 base:Un X.fs X.ex X.H₀ H X.s₀.heap s.heap
 loc: ∃m,s.heap.Ns X.env.locals m∧ ∀(i:Nat) (x:Str) (v:V),X.N[i]? =some x→σ[i]? =some (some v)→Vis X.env.scope x→ ∃u,zaL v u∧zmi X.env s.heap m x u
 cell: ∀x c,X.env.cells.lookup x=some c→ ∃v,s.heap.IsCell c v
 free:H X.env.locals=none
 freeC: ∀x c,X.env.cells.lookup x=some c→H c=none
 pin: ∀p∈X.pn++pins,s.heap.get? p.1=some p.2∧H p.1=none∧p.1≠X.env.locals∧p.1∉X.fs∧ ∀v,p.2.data≠ .cell v
 hok:HOk X.prog X.w H s.heap
 len:σ.length=X.N.length
section
variable {X:Cx} {pins:List (Addr×Obj)} {σ:List (Option V)} {H H':Hp} {s:Shared} {h':Heap}
theorem Cx.Ok.nofr (ok:X.Ok) {b:Addr} {o:Obj} (e:X.base.get? b=some o):b∉X.fs:=fun hb=>by
 have:=(ok.funs.mem hb).1
 rw [e] at this;cases this
theorem Inv.bs (I:Inv X pins σ H s): ∀b o,X.base.get? b=some o→s.heap.get? b=some o∧H b=none:=fun b o e=>
 ⟨I.base.keep b o (I.ok.bs b o e).1 (I.ok.bs b o e).2 (I.ok.nofr e) (I.ok.noex b o e),I.base.free b o (I.ok.bs b o e).1 (I.ok.bs b o e).2 (I.ok.noex b o e)⟩
theorem Inv.bk (I:Inv X pins σ H s): ∀b o,X.base.get? b=some o→s.heap.get? b=some o:=fun b o e=>(I.bs b o e).1
theorem Inv.mod (I:Inv X pins σ H s):Mod X.K X.mg X.base:=I.ok.mod
theorem Inv.kIn (I:Inv X pins σ H s):X.K.In s.heap:=I.ok.mod.kin.keeps I.bk
theorem Inv.lt (I:Inv X pins σ H s):X.env.locals<s.heap.objs.size:=let ⟨_,hn,_⟩:=I.loc;hn.lt
theorem Inv.sz (I:Inv X pins σ H s):X.s₀.heap.objs.size≤s.heap.objs.size:=Nat.le_trans I.ok.above (Nat.le_of_lt I.lt)
theorem Inv.nofs (I:Inv X pins σ H s) {a:Addr} (h:s.heap.objs.size≤a):a∉X.fs:=fun hb=>by
 obtain ⟨_,o,ho,_⟩:=I.ok.funs.mem hb
 exact absurd (Nat.lt_of_lt_of_le (Heap.lt_size ho) (Nat.le_trans I.sz h)) (Nat.lt_irrefl _)
theorem Inv.cne (I:Inv X pins σ H s): ∀x c,X.env.cells.lookup x=some c→c≠X.env.locals:=fun x c e z=>by
 obtain ⟨v,o,ho,hd⟩:=I.cell x c e
 obtain ⟨m,⟨o',es,ep,ho',hd',_⟩,_⟩:=I.loc
 rw [z,ho'] at ho;cases ho;rw [hd'] at hd;cases hd
theorem Inv.funs (I:Inv X pins σ H s):s.heap.FunFrames X.base X.outer:=by
 have all: ∀(l:List Env),(∀b∈frs l,b∈X.fs)→X.s₀.heap.FunFrames X.base l→s.heap.FunFrames X.base l:=by
  intro l
  induction l with
  |nil=>intro _ _;trivial
  |cons env r ih=>
   intro hs hl
   obtain ⟨hk,⟨L,o,hf,hn,ho,hd⟩,hr⟩:=hl
   have hL:L∈X.fs:=hs L (by unfold frs;rw [List.filterMap_cons,hf];exact List.mem_cons_self)
   obtain ⟨sl,e⟩:=I.base.slot L o ho (I.ok.frf L hL) hL fun z=>I.ok.exfs L z hL
   exact ⟨hk,⟨L,_,hf,hn,e,hd⟩,ih (fun b hb=>hs b (by unfold frs;rw [List.filterMap_cons,hf];exact List.mem_cons_of_mem _ hb)) hr⟩
 exact all X.outer (fun _ hb=>hb) I.ok.funs
theorem Inv.stack (I:Inv X pins σ H s):s.heap.FunFrames X.base X.stack:=by
 rcases I.ok.stk with e|⟨e,hf⟩
 ·rw [e];exact I.funs
 ·rw [e]
  obtain ⟨m,hn,_⟩:=I.loc
  refine .cons (by rw [I.ok.kind];decide) hf hn ?_ I.funs
  exact Heap.get?_none_of_le (Nat.le_trans I.ok.bsz I.ok.above)
theorem Inv.stkSub (I:Inv X pins σ H s): ∀b∈frs X.stack,b∈X.env.locals::X.fs:=fun b hb=>by
 rcases I.ok.stk with e|⟨e,hf⟩
 ·rw [e] at hb;exact List.mem_cons_of_mem _ hb
 ·rw [e] at hb
  unfold frs at hb
  rw [List.filterMap_cons,hf] at hb
  exact hb
theorem Inv.stkFree (I:Inv X pins σ H s): ∀b∈frs X.stack,H b=none:=fun b hb=>by
 rcases List.mem_cons.mp (I.stkSub b hb) with e|hb
 ·rw [e];exact I.free
 ·obtain ⟨_,o,ho,_⟩:=I.ok.funs.mem hb
  exact I.base.free b o ho (I.ok.frf b hb) fun z=>I.ok.exfs b z hb
theorem Inv.step {g':Array GenState} {t':Nat} {d':Drawn} {ch:List Addr} (I:Inv X pins σ H s)
  (hch: ∀b∈ch,(b∈X.ex∨X.s₀.heap.objs.size≤b)∧b≠X.env.locals∧(∀x c,X.env.cells.lookup x=some c→c≠b)∧ ∀p∈X.pn++pins,p.1≠b)
  (keep: ∀b o,b≠X.env.locals→b∉X.fs→b∉ch→s.heap.get? b=some o→H b=none→h'.get? b=some o)
  (slot: ∀b o,b≠X.env.locals→b∈X.fs→b∉ch→s.heap.get? b=some o→H b=none→ ∃sl,h'.get? b=some {o with slots:=sl}) (free: ∀b o,b∉ch→s.heap.get? b=some o→H b=none→H' b=none)
  (there: ∀b o,b∉ch→s.heap.get? b=some o→ ∃o',h'.get? b=some o')
  (tups: ∀b xs,H b=some (.tup xs)→H' b=some (.tup xs)) (frzs: ∀b o u,H b=some (.frz o u)→H' b=some (.frz o u)) (tbls: ∀b ps,H b=some (.tbl ps)→ ∃more,H' b=some (.tbl (ps++more)))
  (ns: ∀m,s.heap.Ns X.env.locals m→h'.Ns X.env.locals m) (hok:HOk X.prog X.w H' h') (hg:AllBare g'):
  Inv X pins σ H' {s with heap:=h',gens:=g',drawn:=d',toks:=t'}:=by
 have neL: ∀b o,X.s₀.heap.get? b=some o→b≠X.env.locals:=fun b o e=>Nat.ne_of_lt (Nat.lt_of_lt_of_le (Heap.lt_size e) I.ok.above)
 have neC: ∀b o,X.s₀.heap.get? b=some o→b∉X.ex→b∉ch:=fun b o e hx hb=>by
  rcases (hch b hb).1 with z|z
  ·exact hx z
  ·exact absurd (Nat.lt_of_lt_of_le (Heap.lt_size e) z) (Nat.lt_irrefl _)
 have cellK: ∀x c,X.env.cells.lookup x=some c→ ∀v,s.heap.IsCell c v→h'.IsCell c v:=fun x c e v ⟨o,ho,hd⟩=>by
  have nch:c∉ch:=fun z=>(hch c z).2.2.1 x c e rfl
  by_cases hc:c∈X.fs
  ·obtain ⟨sl,q⟩:=slot c o (I.cne x c e) hc nch ho (I.freeC x c e)
   exact ⟨_,q,hd⟩
  ·exact ⟨o,keep c o (I.cne x c e) hc nch ho (I.freeC x c e),hd⟩
 refine ⟨I.ok,I.os,hg,⟨fun b o e n hb hx=> ?_,fun b o e n hb hx=> ?_,fun b o e n hx=> ?_,fun b o e hx=> ?_,fun b xs e=>tups b xs (I.base.tups b xs e),fun b o xs e=>frzs b o xs (I.base.frzs b o xs e),fun b ps e=> ?_⟩,?_,fun x c e=> ?_,?_,fun x c e=> ?_,fun p hp=> ?_,hok,I.len⟩
 ·exact keep b o (neL b o e) hb (neC b o e hx) (I.base.keep b o e n hb hx) (I.base.free b o e n hx)
 ·obtain ⟨sl,e1⟩:=I.base.slot b o e n hb hx
  obtain ⟨sl',e2⟩:=slot b _ (neL b o e) hb (neC b o e hx) e1 (I.base.free b o e n hx)
  exact ⟨sl',e2⟩
 ·obtain ⟨o',e1⟩:=I.base.there b o e hx
  exact free b o' (neC b o e hx) e1 (I.base.free b o e n hx)
 ·obtain ⟨o',e1⟩:=I.base.there b o e hx
  exact there b o' (neC b o e hx) e1
 ·obtain ⟨m1,e1⟩:=I.base.tbls b ps e
  obtain ⟨m2,e2⟩:=tbls b _ e1
  exact ⟨m1++m2,by rw [e2,Array.append_assoc]⟩
 ·obtain ⟨m,hn,hl⟩:=I.loc
  refine ⟨m,ns m hn,fun i x v e1 e2 e3=> ?_⟩
  obtain ⟨u,r,l⟩:=hl i x v e1 e2 e3
  refine ⟨u,r,?_⟩
  rcases l with l|⟨k,c,e,z⟩
  ·exact .inl l
  ·exact .inr ⟨k,c,e,cellK x c e _ z⟩
 ·obtain ⟨v,z⟩:=I.cell x c e
  exact ⟨v,cellK x c e v z⟩
 ·obtain ⟨m,⟨o,_,_,ho,_⟩,_⟩:=I.loc
  exact free _ o (fun z=>(hch _ z).2.1 rfl) ho I.free
 ·obtain ⟨v,o,ho,hd⟩:=I.cell x c e
  exact free c o (fun z=>(hch c z).2.2.1 x c e rfl) ho (I.freeC x c e)
 ·obtain ⟨e,n,ne,nf,d⟩:=I.pin p hp
  have nch:p.1∉ch:=fun z=>(hch p.1 z).2.2.2 p hp rfl
  exact ⟨keep p.1 p.2 ne nf nch e n,free p.1 p.2 nch e n,ne,nf,d⟩
theorem Inv.un {t':Nat} (I:Inv X pins σ H s) (u:Un X.fs [] H H' s.heap h') (hok:HOk X.prog X.w H' h'):Inv X pins σ H' {s with heap:=h',toks:=t'}:=by
 obtain ⟨m,⟨o,es,ep,ho,r⟩,_⟩:=id I.loc
 obtain ⟨sl,hL⟩:=u.any ho I.free (by simp)
 exact I.step (g':=s.gens) (d':=s.drawn) (ch:= []) (fun _ z=>nomatch z) (fun b o _ hb _ e n=>u.keep b o e n hb (by simp)) (fun b o _ hb _ e n=>u.slot b o e n hb (by simp)) (fun b o _ e n=>u.free b o e n (by simp)) (fun b o _ e=>u.there b o e (by simp)) u.tups u.frzs u.tbls (fun m' hm=>by
  obtain ⟨o',es',ep',ho',r'⟩:=hm
  rw [ho] at ho';cases ho'
  exact ⟨_,es',ep',hL,r'⟩) hok I.bare
theorem Inv.call {g':Array GenState} {t':Nat} {d':Drawn} {ch:List Addr} (I:Inv X pins σ H s) (u:Un (frs X.stack) ch H H' s.heap h') (hok:HOk X.prog X.w H' h') (hg:AllBare g')
  (hch: ∀b∈ch,(b∈X.ex∨X.s₀.heap.objs.size≤b)∧b≠X.env.locals∧(∀x c,X.env.cells.lookup x=some c→c≠b)∧ ∀p∈X.pn++pins,p.1≠b):
  Inv X pins σ H' {s with heap:=h',gens:=g',drawn:=d',toks:=t'}:=by
 obtain ⟨m,⟨o,es,ep,ho,r⟩,_⟩:=id I.loc
 obtain ⟨sl,hL⟩:=u.any ho I.free fun z=>(hch _ z).2.1 rfl
 exact I.step (ch:=ch) hch (fun b o hL hb hc e n=>u.keep b o e n (fun z=>(List.mem_cons.mp (I.stkSub b z)).elim hL hb) hc) (fun b o _ _ hc e n=>u.any e n hc) (fun b o hc e n=>u.free b o e n hc) (fun b o hc e=>u.there b o e hc) u.tups u.frzs u.tbls (fun m' hm=>by
  obtain ⟨o',es',ep',ho',r'⟩:=hm
  rw [ho] at ho';cases ho'
  exact ⟨_,es',ep',hL,r'⟩) hok hg
theorem Inv.turned {t':Nat} {it:Addr} (I:Inv X pins σ H s) (k: ∀b o,b≠it→s.heap.get? b=some o→h'.get? b=some o) (hn:H it=none) (hL:it≠X.env.locals)
  (h1:it∈X.ex∨X.s₀.heap.objs.size≤it) (h2: ∀x c,X.env.cells.lookup x=some c→c≠it) (h3: ∀p∈X.pn++pins,p.1≠it):Inv X pins σ H {s with heap:=h',toks:=t'}:=by
 have nit: ∀b u,H b=some u→b≠it:=fun b u e z=>by rw [z,hn] at e;cases e
 refine I.step (g':=s.gens) (d':=s.drawn) (ch:= [it]) (fun b hb=> ?_) (fun b o _ _ hc e _=>k b o (fun z=>hc (by simp [z])) e) (fun b o _ _ hc e _=>⟨o.slots,k b o (fun z=>hc (by simp [z])) e⟩) (fun _ _ _ _ n=>n)
  (fun b o hc e=>⟨o,k b o (fun z=>hc (by simp [z])) e⟩) (fun _ _ e=>e) (fun _ _ _ e=>e) (fun b ps e=>⟨#[],by rw [e];simp⟩) (fun m hm=> ?_) (fun b u e=> ?_) I.bare
 ·have e:b=it:=by simpa using hb
  subst e
  exact ⟨h1,hL,h2,h3⟩
 ·obtain ⟨o,es,ep,ho,r⟩:=hm
  exact ⟨o,es,ep,k _ o (Ne.symm hL) ho,r⟩
 ·refine (I.hok b u e).stay (fun c v hc q=>k c v ?_ q) (fun _ q=>q) fun _ _ q=>q
  rcases hc with z|z
  ·rw [z];exact nit b u e
  ·exact nit c _ z
theorem Inv.tok (I:Inv X pins σ H s) (t:Nat):Inv X pins σ H {s with toks:=t}:=I.un (h':=s.heap) (t':=t) Un.refl I.hok
theorem Inv.kept {t':Nat} (I:Inv X pins σ H s) (k: ∀b u,s.heap.get? b=some u→h'.get? b=some u):Inv X pins σ H {s with heap:=h',toks:=t'}:=I.un (Un.kept k) (I.hok.kept k)
theorem Inv.laid {a:Addr} {o:HO} {t':Nat} (I:Inv X pins σ H s) (k: ∀b u,s.heap.get? b=some u→h'.get? b=some u) (hp:s.heap.objs.size≤a) (new:zbp X.prog X.w (upd H a o) h' a o):
  Inv X pins σ (upd H a o) {s with heap:=h',toks:=t'}:=I.un (Un.laid k hp (I.hok.fresh hp)) (I.hok.laid k hp new)
theorem Inv.write {x e:Addr} {o:HO} {t':Nat} (I:Inv X pins σ H s) (mu:Mut (H x)) (he:e=x∨H e=some (.own x)) (k: ∀b u,b≠e→s.heap.get? b=some u→h'.get? b=some u) (heo: ∃u,h'.get? e=some u)
  (new:zbp X.prog X.w (upd H x o) h' x o):Inv X pins σ (upd H x o) {s with heap:=h',toks:=t'}:=I.un (Un.write mu he k heo) (I.hok.write mu he k heo new)
theorem Inv.weak {σ':List (Option V)} (I:Inv X pins σ H s) (hl:σ'.length=σ.length) (w: ∀(i:Nat) v,σ'[i]? =some (some v)→σ[i]? =some (some v)):Inv X pins σ' H s:=
 ⟨I.ok,I.os,I.bare,I.base,let ⟨m,hn,hl'⟩:=I.loc;⟨m,hn,fun i x v e1 e2 e3=>hl' i x v e1 (w i v e2) e3⟩,I.cell,I.free,I.freeC,I.pin,I.hok,hl.trans I.len⟩
theorem Inv.pins_of {pins':List (Addr×Obj)} (I:Inv X pins σ H s) (h: ∀p∈pins',s.heap.get? p.1=some p.2∧H p.1=none∧p.1≠X.env.locals∧p.1∉X.fs∧ ∀v,p.2.data≠ .cell v):Inv X pins' σ H s:=
 ⟨I.ok,I.os,I.bare,I.base,I.loc,I.cell,I.free,I.freeC,fun p hp=>(List.mem_append.mp hp).elim (fun z=>I.pin p (List.mem_append_left _ z)) (h p),I.hok,I.len⟩
theorem zgs {N:List Str} (hN:N.Nodup) {i j:Nat} {x:Str} (a:N[i]? =some x) (b:N[j]? =some x):i=j:=by
 obtain ⟨h1,e1⟩:=List.getElem?_eq_some_iff.mp a
 obtain ⟨h2,e2⟩:=List.getElem?_eq_some_iff.mp b
 exact (List.getElem_inj hN).mp (e1.trans e2.symm)
theorem zfs {M:Model} {A:Around} {E:Value→Shared→Prop} {i:Nat} {x:Str} {v:V} {u:Value} {Q:Unit→Shared→Prop} (I:Inv X pins σ H s) (hN:X.N.Nodup) (hi:X.N[i]? =some x) (hx:Loc X.env.scope x) (r:zaL v u)
  (h: ∀s',Inv X pins (σ.set i (some v)) H s'→(∃a,Heap.SameBut a s.heap s'.heap∧(a=X.env.locals∨X.env.cells.lookup x=some a))→Q () s') (hf:X.fn x=true∨X.env.scope.names.lookup x=some .local:=by first|exact .inl rfl|exact .inr rfl|assumption):wpAny M A (storeName X.env x u) Q E s:=by
 obtain ⟨m,hn,hl⟩:=id I.loc
 have hcls:(X.env.scope.kind== .class||(X.env.scope.kind== .module && X.env.locals !=X.env.globals))=false:=by rw [I.ok.kind];rfl
 have hiσ:i<σ.length:=by rw [I.len];exact (List.getElem?_eq_some_iff.mp hi).1
 have cne:=I.cne
 have tracked: ∀{a:Addr} {h':Heap},(∃o,s.heap.get? a=some o∧H a=none)→Heap.SameBut a s.heap h'→HOk X.prog X.w H h':=fun {a h'} ha hs b ob e=>by
  obtain ⟨_,_,hfree⟩:=ha
  refine (I.hok b ob e).stay (fun c w' hc q=>(hs.2 c ?_).trans q) (fun _ q=>q) fun _ _ q=>q
  rintro rfl
  rcases hc with rfl|hc
  ·rw [hfree] at e;cases e
  ·rw [hfree] at hc;cases hc
 rcases hx with hk|hk
 ·refine wpAny_storeName_local hk hn (fun h' hn' hs=> ?_) hcls
  obtain ⟨oL,_,_,hoL,_⟩:=id hn
  refine h _ ⟨I.ok,I.os,I.bare,⟨fun b o e n hb hx=> ?_,fun b o e n hb hx=> ?_,I.base.free,fun b o e hx=> ?_,I.base.tups,I.base.frzs,I.base.tbls⟩,⟨_,hn',fun j y v' e1 e2 e3=> ?_⟩,fun y c e=> ?_,I.free,I.freeC,fun p hp=> ?_,tracked ⟨oL,hoL,I.free⟩ hs,by simpa using I.len⟩ ⟨_,hs, .inl rfl⟩
  ·exact (hs.2 b (Nat.ne_of_lt (Nat.lt_of_lt_of_le (Heap.lt_size e) I.ok.above))).trans (I.base.keep b o e n hb hx)
  ·obtain ⟨sl,e1⟩:=I.base.slot b o e n hb hx
   exact ⟨sl,(hs.2 b (Nat.ne_of_lt (Nat.lt_of_lt_of_le (Heap.lt_size e) I.ok.above))).trans e1⟩
  ·obtain ⟨o',e1⟩:=I.base.there b o e hx
   exact ⟨o',(hs.2 b (Nat.ne_of_lt (Nat.lt_of_lt_of_le (Heap.lt_size e) I.ok.above))).trans e1⟩
  ·by_cases hj:j=i
   ·subst hj
    rw [hi] at e1;cases e1
    rw [List.getElem?_set_self hiσ] at e2
    cases e2
    exact ⟨u,r, .inl ⟨hk,by simp⟩⟩
   ·rw [List.getElem?_set_ne (Ne.symm hj)] at e2
    obtain ⟨u',r',q⟩:=hl j y v' e1 e2 e3
    refine ⟨u',r',?_⟩
    rcases q with ⟨k,e⟩|⟨k,c,e,z⟩
    ·refine .inl ⟨k,?_⟩
     have:y≠x:=fun e=>hj (zgs hN e1 (e ▸ hi))
     simp [this,e]
    ·exact .inr ⟨k,c,e,z.sameBut hs (cne y c e)⟩
  ·obtain ⟨w',z⟩:=I.cell y c e
   exact ⟨w',z.sameBut hs (cne y c e)⟩
  ·obtain ⟨e,n,ne,nf,d⟩:=I.pin p hp
   exact ⟨(hs.2 p.1 ne).trans e,n,ne,nf,d⟩
 ·have hfn:X.fn x=true:=by
   rcases hf with z|z
   ·exact z
   ·rw [z] at hk;cases hk
  obtain ⟨c,hc⟩:=I.ok.has x (.inl hk)
  obtain ⟨w',z⟩:=I.cell x c hc
  refine wpAny_storeName_cell I.ok.kind hk hc z (fun h' hc' hs=> ?_)
  obtain ⟨oc,hoc,hocd⟩:=id z
  refine h {s with heap:=h'} ⟨I.ok,I.os,I.bare,⟨fun b o e n hb hx=> ?_,fun b o e n hb hx=> ?_,I.base.free,fun b o e hx=> ?_,I.base.tups,I.base.frzs,I.base.tbls⟩,⟨m,hn.sameBut hs (Ne.symm (cne x c hc)),fun j y v' e1 e2 e3=> ?_⟩,fun y c' e=> ?_,I.free,I.freeC,fun p hp=> ?_,tracked ⟨oc,hoc,I.freeC x c hc⟩ hs,by simpa using I.len⟩ ⟨c,hs, .inr hc⟩
  ·exact (hs.2 b (Nat.ne_of_lt (Nat.lt_of_lt_of_le (Heap.lt_size e) (I.ok.cab x c hfn hc)))).trans (I.base.keep b o e n hb hx)
  ·obtain ⟨sl,e1⟩:=I.base.slot b o e n hb hx
   exact ⟨sl,(hs.2 b (Nat.ne_of_lt (Nat.lt_of_lt_of_le (Heap.lt_size e) (I.ok.cab x c hfn hc)))).trans e1⟩
  ·obtain ⟨o',e1⟩:=I.base.there b o e hx
   exact ⟨o',(hs.2 b (Nat.ne_of_lt (Nat.lt_of_lt_of_le (Heap.lt_size e) (I.ok.cab x c hfn hc)))).trans e1⟩
  ·by_cases hj:j=i
   ·subst hj
    rw [hi] at e1;cases e1
    rw [List.getElem?_set_self hiσ] at e2
    cases e2
    exact ⟨u,r, .inr ⟨.inl hk,c,hc,hc'⟩⟩
   ·rw [List.getElem?_set_ne (Ne.symm hj)] at e2
    obtain ⟨u',r',q⟩:=hl j y v' e1 e2 e3
    refine ⟨u',r',?_⟩
    rcases q with q|⟨k,c',e,z'⟩
    ·exact .inl q
    ·refine .inr ⟨k,c',e,z'.sameBut hs ?_⟩
     rintro rfl
     exact hj (zgs hN e1 (I.ok.inj _ _ _ e hc ▸ hi))
  ·by_cases hcc:c'=c
   ·subst hcc;exact ⟨_,hc'⟩
   ·obtain ⟨w2,z2⟩:=I.cell y c' e
    exact ⟨w2,z2.sameBut hs hcc⟩
  ·obtain ⟨e,n,ne,nf,d⟩:=I.pin p hp
   refine ⟨(hs.2 p.1 ?_).trans e,n,ne,nf,d⟩
   intro q
   rw [q,hoc] at e
   have q':oc=p.2:=Option.some.inj e
   exact d w' (by rw [←q'];exact hocd)
theorem zeM {M:Model} {A:Around} {E:Value→Shared→Prop} {i:Nat} {x:Str} {v:V} {u:Value} {Q:Unit→Shared→Prop} (I:Inv X pins σ H s) (hN:X.N.Nodup) (hi:X.N[i]? =some x) (hx:Loc X.env.scope x) (r:zaL v u)
  (h: ∀s',Inv X pins (σ.set i (some v)) H s'→Q () s') (hf:X.fn x=true∨X.env.scope.names.lookup x=some .local:=by first|exact .inl rfl|exact .inr rfl|assumption):wpAny M A (storeName X.env x u) Q E s:=
 zfs I hN hi hx r (fun s' I' _=>h s' I') hf
theorem Inv.call' {s':Shared} {ch:List Addr} (I:Inv X pins σ H s) (ho:s'.os=s.os) (u:Un (frs X.stack) ch H H' s.heap s'.heap) (hok:HOk X.prog X.w H' s'.heap) (hg:AllBare s'.gens)
  (hch: ∀b∈ch,(b∈X.ex∨X.s₀.heap.objs.size≤b)∧b≠X.env.locals∧(∀x c,X.env.cells.lookup x=some c→c≠b)∧ ∀p∈X.pn++pins,p.1≠b):Inv X pins σ H' s':=by
 obtain ⟨h',g',d',t',o'⟩:=s'
 have e:o'=s.os:=ho
 subst e
 exact I.call (g':=g') (t':=t') (d':=d') u hok hg hch
end
abbrev XK:=Value→Option Addr→Hp→Prop
abbrev St:=List (Option V)
abbrev VK:=V→Hp→Prop
abbrev TE:=St→Hp→VK→Prop
abbrev TT:=St→Hp→(Bool→Hp→Prop)→Prop
abbrev TA:=St→Hp→(List V→Hp→Prop)→Prop
structure Ends where
 nx:St→Hp→Prop
 rt:VK
 bk:St→Hp→Prop:=fun _ _=>False
 ct:St→Hp→Prop:=fun _ _=>False
abbrev TS:=Ends→St→Hp→Prop
def EP (X:Cx) (pins:List (Addr×Obj)) (σ:St) (Q:VK) (u:Value) (s':Shared):Prop:= ∃v H',Inv X pins σ H' s'∧zaL v u∧Q v H'
def TP (X:Cx) (pins:List (Addr×Obj)) (σ:St) (Q:Bool→Hp→Prop) (b:Bool) (s':Shared):Prop:= ∃H',Inv X pins σ H' s'∧Q b H'
def AP (X:Cx) (pins:List (Addr×Obj)) (σ:St) (Q:List V→Hp→Prop) (us:List Value) (s':Shared):Prop:= ∃vs H',Inv X pins σ H' s'∧zaP vs us∧Q vs H'
def SP (X:Cx) (pins:List (Addr×Obj)) (D:Ends) (f:Flow) (s':Shared):Prop:=
 match f with
 | .next=> ∃σ' H',Inv X pins σ' H' s'∧D.nx σ' H'
 | .brk=> ∃σ' H',Inv X pins σ' H' s'∧D.bk σ' H'
 | .cont=> ∃σ' H',Inv X pins σ' H' s'∧D.ct σ' H'
 | .ret u=> ∃v σ' H',Inv X pins σ' H' s'∧zaL v u∧D.rt v H'
def PE (X:Cx) (e:Expr) (t:TE):Prop:=
 ∀(pins:List (Addr×Obj)) (s:Shared) (σ:St) (H:Hp) (Q:VK),Inv X pins σ H s→t σ H Q→wpAny (model X.prog X.w) X.A (eval e X.env) (EP X pins σ Q) X.xe s
def PT (X:Cx) (e:Expr) (t:TT):Prop:=
 ∀(pins:List (Addr×Obj)) (s:Shared) (σ:St) (H:Hp) (Q:Bool→Hp→Prop),Inv X pins σ H s→t σ H Q→wpAny (model X.prog X.w) X.A (isTrue e X.env (eval e X.env)) (TP X pins σ Q) X.xe s
def PW (X:Cx) (e:Expr) (t:TT):Prop:=
 ∀(whole:Sem Value) (pins:List (Addr×Obj)) (s:Shared) (σ:St) (H:Hp) (Q:Bool→Hp→Prop),Inv X pins σ H s→t σ H Q→wpAny (model X.prog X.w) X.A (isTrue e X.env whole) (TP X pins σ Q) X.xe s
theorem PW.pt {X:Cx} {e:Expr} {t:TT} (h:PW X e t):PT X e t:=h _
def PA (X:Cx) (es:List Expr) (t:TA):Prop:=
 ∀(pos:Pos) (pins:List (Addr×Obj)) (s:Shared) (σ:St) (H:Hp) (Q:List V→Hp→Prop),Inv X pins σ H s→t σ H Q→wpAny (model X.prog X.w) X.A (spliced (backTo pos (starEach es X.env))) (AP X pins σ Q) X.xe s
def PS (X:Cx) (st:Stmt) (t:TS):Prop:=
 ∀(pins:List (Addr×Obj)) (s:Shared) (σ:St) (H:Hp) (D:Ends),Inv X pins σ H s→t D σ H→wpAny (model X.prog X.w) X.A (exec st X.env) (SP X pins D) X.xe s
def PSs (X:Cx) (st:List Stmt) (t:TS):Prop:=
 ∀(pins:List (Addr×Obj)) (s:Shared) (σ:St) (H:Hp) (D:Ends),Inv X pins σ H s→t D σ H→wpAny (model X.prog X.w) X.A (execs st X.env) (SP X pins D) X.xe s
theorem thn {α:Type} {t:Sem α} {Q Q':α→Shared→Prop} {M:Model} {A:Around} {E:Value→Shared→Prop} {s:Shared} (h:wpAny M A t Q E s) (hQ: ∀a s,Q a s→Q' a s):wpAny M A t Q' E s:=wpAny_mono h hQ fun _ _ x=>x
end L2
namespace L2
open PySem PySem.Spec PyProof.Rows
section
variable {X:Cx}
def zce (i:Nat):TE:=fun σ H Q=> ∃v,σ[i]? =some (some v)∧Q v H
def tC (v:V):TE:=fun _ H Q=>Q v H
theorem zk6 {i:Nat} {x:Str} {pos:Pos} (hN:X.N[i]? =some x) (hv:Vis X.env.scope x) (hd:(x==("__debug__":Str))=false:=by decide) (hcd:(x==("__classdict__":Str))=false:=by decide):PE X (.Name x pos) (zce i):=by
 intro pins s σ H Q I h
 obtain ⟨v,e,h⟩:=h
 obtain ⟨m,hn,hl⟩:=I.loc
 obtain ⟨u,r,l⟩:=hl i x v hN e hv
 have fin:EP X pins σ Q u s:=⟨v,H,I,r,h⟩
 rcases l with ⟨hk,hm⟩|⟨hk,c,hc,hcell⟩
 ·exact wpAny_Name (wpAny_loadName_local I.ok.kind hk hn hm fin) hd
 ·rcases hk with hk|hk
  ·exact wpAny_Name (wpAny_loadName_cell I.ok.kind hk hc hcell fin) hd
  ·exact wpAny_Name (wpAny_loadName_free I.ok.kind hk hc hcell fin hcd) hd
theorem zac {i j pos}:PE X (.Constant (.int i) j pos) (tC (.int i)):=fun _ _ _ H _ I h=>wpAny_Constant_int ⟨.int i,H,I.tok _,⟨_,rfl⟩,h⟩
theorem zgt {b j pos}:PE X (.Constant (.bool b) j pos) (tC (.bl b)):=fun _ _ _ H _ I h=>Constant_bool ⟨.bl b,H,I,rfl,h⟩
theorem zeN {j pos}:PE X (.Constant .none j pos) (tC .non):=fun _ _ _ H _ I h=>Constant_none ⟨.non,H,I,rfl,h⟩
theorem zc1 {x j pos}:PE X (.Constant (.str x) j pos) (tC (.str x)):=fun _ _ _ H _ I h=>Calls.Constant_str ⟨.str x,H,I.tok _,⟨_,rfl⟩,h⟩
def Gl (X:Cx) (x:Str):Prop:=X.env.kindOf x=some .globalImplicit
theorem zeJ {E:Value→Shared→Prop} {pins:List (Addr×Obj)} {s:Shared} {σ:St} {H:Hp} {x:Str} {u:Value} {pos:Pos} {Q:Value→Shared→Prop} (I:Inv X pins σ H s) (hg:Gl X x) (hm:X.mg x=some u) (h:Q u s)
  (hd:(x==("__debug__":Str))=false:=by decide):wpAny (model X.prog X.w) X.A (eval (.Name x pos) X.env) Q E s:=
 Calls.Name_function_global I.ok.kind hg (Calls.loadGlobal_global (by rw [I.ok.glob];exact I.mod.glob.keeps I.bk) hm h) hd
theorem zdi {E:Value→Shared→Prop} {pins:List (Addr×Obj)} {s:Shared} {σ:St} {H:Hp} {x:Str} {u:Value} {pos:Pos} {Q:Value→Shared→Prop} (I:Inv X pins σ H s) (hg:Gl X x) (hm:X.mg x=none) (hv:bootBuiltins x=some u) (h:Q u s)
  (hn:x≠"__name__":=by decide) (hd:(x==("__debug__":Str))=false:=by decide):wpAny (model X.prog X.w) X.A (eval (.Name x pos) X.env) Q E s:=by
 obtain ⟨mb,h1,h2⟩:=I.mod.blt
 exact Calls.Name_function_global I.ok.kind hg (Calls.loadGlobal_builtin (by rw [I.ok.glob];exact I.mod.glob.keeps I.bk) hm (by rw [I.ok.blt];exact h1.keeps I.bk) ((h2 x hn).trans hv) h) hd
theorem zbS {x:Str} {v:V} {u:Value} {pos:Pos} (hg:Gl X x) (hm:X.mg x=some u) (r:zaL v u) (hd:(x==("__debug__":Str))=false:=by decide):PE X (.Name x pos) (tC v):=
 fun _ _ _ H _ I h=>zeJ I hg hm ⟨v,H,I,r,h⟩ hd
theorem zj5 {x:Str} {v:V} {u:Value} {pos:Pos} (hg:Gl X x) (hm:X.mg x=none) (hv:bootBuiltins x=some u) (r:zaL v u) (hn:x≠"__name__":=by decide) (hd:(x==("__debug__":Str))=false:=by decide):PE X (.Name x pos) (tC v):=
 fun _ _ _ H _ I h=>zdi I hg hm hv ⟨v,H,I,r,h⟩ hn hd
variable {a b:Expr} {ta tb:TE} {pos:Pos}
def PC (X:Cx) (op:CmpOp) (a b:Expr) (t:TE):Prop:=
 ∀(pins:List (Addr×Obj)) (s:Shared) (σ:St) (H:Hp) (Q:VK),Inv X pins σ H s→t σ H Q→
  wpAny (model X.prog X.w) X.A (eval a X.env) (fun v s₁=>wpAny (model X.prog X.w) X.A (eval b X.env) (fun u s₂=>wpAny (model X.prog X.w) X.A (compareOp op v u) (EP X pins σ Q) X.xe s₂) X.xe s₁) X.xe s
theorem zgu (b:Expr) {op:CmpOp} (h:op≠ .In) (h2:op≠ .NotIn):behindInMarks op b=false:=by
 have e1:(op==CmpOp.In)=false:=by cases op<;>first|rfl|exact absurd rfl h
 have e2:(op==CmpOp.NotIn)=false:=by cases op<;>first|rfl|exact absurd rfl h2
 cases b<;>simp [behindInMarks,e1,e2]
def tB (t:TE):TT:=fun σ H Q=>t σ H fun x H1=> ∃c,x= .bl c∧Q c H1
theorem zk7 {op:CmpOp} {t:TE} (h:PC X op a b t) (h1:behindInMarks op b=false:=by first|exact zgu _ (by decide) (by decide)|rfl):PE X (.Compare a [op] [b] pos) t:=fun pins s σ H Q I hw=>wpAny_Compare1 (h pins s σ H Q I hw) h1
theorem zf1 {op:CmpOp} {t:TE} (h:PC X op a b t) (h1:behindInMarks op b=false:=by first|exact zgu _ (by decide) (by decide)|rfl):PT X (.Compare a [op] [b] pos) (tB t):=by
 intro pins s σ H Q I hw
 refine wpAny_isTrue_Compare1 (thn (h pins s σ H _ I hw) fun v s1 h1=>thn h1 fun u s2 h2=>thn h2 fun c s3 ⟨x,H1,I1,r1,q1⟩=> ?_) h1
 obtain ⟨d,rfl,q⟩:=q1
 cases r1
 exact wpAny_truthy_bool ⟨H1,I1,q⟩
theorem zep {e:Expr} {t:TE} (h:PE X e t) (he: ∀whole,isTrue e X.env whole=(do let v←whole;standAt e.pos;holding [v] (truthy v)):=by intro _;rfl):PT X e (tB t):=by
 intro pins s σ H Q I hw
 refine isTrue_plain (thn (h pins s σ H _ I hw) fun v s1 ⟨x,H1,I1,r1,q1⟩=> ?_) (he _)
 obtain ⟨d,rfl,q⟩:=q1
 cases r1
 exact wpAny_truthy_bool ⟨H1,I1,q⟩
variable {tA tB':TT} {rest:List Expr}
def zci (t u:TT):TT:=fun σ H Q=>t σ H fun c H1=>if c=true then u σ H1 Q else Q false H1
def tOr (t u:TT):TT:=fun σ H Q=>t σ H fun c H1=>if c=true then Q true H1 else u σ H1 Q
def zcj (t:TT):TT:=fun σ H Q=>t σ H fun c H1=>Q (!c) H1
theorem zcV (ha:PT X a tA):PW X (.BoolOp .And [a] pos) tA:=by
 intro wh pins s σ H Q I h
 refine isTrue_and (thn (ha pins s σ H Q I h) fun c s1 e=> ?_)
 cases c with
 |true=>exact isTrue_and_nil e
 |false=>exact e
theorem zc2 (ha:PT X a tA):PW X (.BoolOp .Or [a] pos) tA:=by
 intro wh pins s σ H Q I h
 refine isTrue_or (thn (ha pins s σ H Q I h) fun c s1 e=> ?_)
 cases c with
 |false=>exact isTrue_or_nil e
 |true=>exact e
theorem zdj (ha:PT X a tA) (hb:PW X (.BoolOp .And (b::rest) pos) tB'):PW X (.BoolOp .And (a::b::rest) pos) (zci tA tB'):=by
 intro wh pins s σ H Q I h
 refine isTrue_and (thn (ha pins s σ H _ I h) fun c s1 ⟨H1,I1,q1⟩=> ?_)
 cases c with
 |true=>exact hb wh pins s1 σ H1 Q I1 q1
 |false=>exact ⟨H1,I1,q1⟩
theorem zdS (ha:PT X a tA) (hb:PW X (.BoolOp .Or (b::rest) pos) tB'):PW X (.BoolOp .Or (a::b::rest) pos) (tOr tA tB'):=by
 intro wh pins s σ H Q I h
 refine isTrue_or (thn (ha pins s σ H _ I h) fun c s1 ⟨H1,I1,q1⟩=> ?_)
 cases c with
 |true=>exact ⟨H1,I1,q1⟩
 |false=>exact hb wh pins s1 σ H1 Q I1 q1
theorem zg7 (ha:PT X a tA):PT X (.UnaryOp .Not a pos) (zcj tA):=by
 intro pins s σ H Q I h
 exact isTrue_not (ha pins s σ H (fun c H1=>Q (!c) H1) I h)
def zbA (ta tb:TE):TE:=fun σ H Q=>ta σ H fun x H1=> ∃c,x= .bl c∧if c=true then tb σ H1 Q else Q (.bl false) H1
def zck (ta tb:TE):TE:=fun σ H Q=>ta σ H fun x H1=> ∃c,x= .bl c∧if c=true then Q (.bl true) H1 else tb σ H1 Q
def zbB (ta:TE):TE:=fun σ H Q=>ta σ H fun x H1=> ∃c,x= .bl c∧Q (.bl (!c)) H1
theorem zdy {op} {t:TE} (h:PE X a t):PE X (.BoolOp op [a] pos) t:=fun pins s σ H Q I hw=>BoolOp_one (h pins s σ H Q I hw)
theorem zdk (ha:PE X a ta) (hb:PE X (.BoolOp .And (b::rest) pos) tb):PE X (.BoolOp .And (a::b::rest) pos) (zbA ta tb):=by
 intro pins s σ H Q I h
 refine BoolOp_and (thn (ha pins s σ H _ I h) fun v s1 ⟨x,H1,I1,r1,q1⟩=> ?_)
 obtain ⟨c,rfl,q1⟩:=q1
 cases r1
 refine wpAny_truthy_bool ?_
 cases c with
 |true=>exact hb pins s1 σ H1 Q I1 q1
 |false=>exact ⟨.bl false,H1,I1,rfl,q1⟩
theorem zlL (ha:PE X a ta) (hb:PE X (.BoolOp .Or (b::rest) pos) tb):PE X (.BoolOp .Or (a::b::rest) pos) (zck ta tb):=by
 intro pins s σ H Q I h
 refine BoolOp_or (thn (ha pins s σ H _ I h) fun v s1 ⟨x,H1,I1,r1,q1⟩=> ?_)
 obtain ⟨c,rfl,q1⟩:=q1
 cases r1
 refine wpAny_truthy_bool ?_
 cases c with
 |false=>exact hb pins s1 σ H1 Q I1 q1
 |true=>exact ⟨.bl true,H1,I1,rfl,q1⟩
theorem zk8 (ha:PE X a ta):PE X (.UnaryOp .Not a pos) (zbB ta):=by
 intro pins s σ H Q I h
 refine UnaryOp_ (thn (ha pins s σ H _ I h) fun v s1 ⟨x,H1,I1,r1,q1⟩=> ?_)
 obtain ⟨c,rfl,q1⟩:=q1
 cases r1
 exact not_of (wpAny_truthy_bool ⟨.bl (!c),H1,I1,rfl,q1⟩)
def tIf (t:TT) (ta tb:TE):TE:=fun σ H Q=>t σ H fun c H1=>if c=true then ta σ H1 Q else tb σ H1 Q
end
end L2
namespace L2
open PySem PySem.Spec PyProof.Rows
def SqL (K:PySem.W.Frag) (H:Hp) (a:Addr) (xs:List V):Prop:=
 Rd H a (.lst xs)∨
  ∃(o:Obj) (its:Array Value) (n:Nat),K.lookup a=some o∧o.cls= .type "list"∧o.dict=none∧o.data= .seq its n∧its.size≤sizeLine∧zaP xs its.toList
def SqT (K:PySem.W.Frag) (H:Hp) (a:Addr) (xs:List V):Prop:=
 Rd H a (.tup xs)∨
  ∃(o:Obj) (its:Array Value) (n:Nat),K.lookup a=some o∧o.cls= .type "tuple"∧o.data= .seq its n∧its.size≤sizeLine∧zaP xs its.toList
def zmj:Value→Option V
 | .none=>some .non
 | .bool b=>some (.bl b)
 | .int i _=>some (.int i)
 | .str x _=>some (.str x)
 | .bytes b _=>some (.byt b)
 | .float b _=>some (.flt b)
 | .ref a=>some (.ref a)
 | .type n=>some (.ty n)
 |_=>none
theorem zaL.abs {x:V} {u:Value} (r:zaL x u):zmj u=some x:=by
 cases x with
 |non=>cases r;rfl
 |bl _=>cases r;rfl
 |int _=>obtain ⟨t,rfl⟩:=r;rfl
 |str _=>obtain ⟨t,rfl⟩:=r;rfl
 |byt _=>obtain ⟨t,rfl⟩:=r;rfl
 |flt _=>obtain ⟨t,rfl⟩:=r;rfl
 |ref _=>cases r;rfl
 |ty _=>cases r;rfl
theorem zaL.inj {x y:V} {u:Value} (r:zaL x u) (q:zaL y u):x=y:=Option.some.inj (r.abs.symm.trans q.abs)
theorem zaP.inj: ∀{xs ys:List V} {us:List Value},zaP xs us→zaP ys us→xs=ys
 |_,_,_, .nil, .nil=>rfl
 |_,_,_, .cons r t, .cons r' t'=>by rw [r.inj r',zaP.inj t t']
section
variable {X:Cx} {pins:List (Addr×Obj)} {σ:St} {H:Hp} {s:Shared} {a:Addr} {xs ys:List V}
theorem SqL.of {K:PySem.W.Frag} (h:H a=some (.lst xs)):SqL K H a xs:= .inl (.inl h)
theorem SqT.of {K:PySem.W.Frag} (h:H a=some (.tup xs)):SqT K H a xs:= .inl (.inl h)
theorem Inv.list (I:Inv X pins σ H s) (h:SqL X.K H a xs): ∃its:List Value,zaP xs its∧PlainL s.heap a its.toArray∧xs.length≤sizeLine:=by
 rcases h with h|⟨o,its,n,hk,hc,hd,hs,hz,r⟩
 ·obtain ⟨z,its,n,r,e⟩:=h.ok I.hok
  exact ⟨its,r,⟨_,n,e,rfl,rfl,rfl⟩,z⟩
 ·refine ⟨its.toList,r,⟨o,n,I.kIn a o hk,hc,hd,by simpa using hs⟩,?_⟩
  have e:=r.length
  simp only [Array.length_toList] at e
  omega
theorem Inv.tuple (I:Inv X pins σ H s) (h:SqT X.K H a xs): ∃its:List Value,zaP xs its∧IsTup s.heap a its.toArray∧xs.length≤sizeLine:=by
 rcases h with h|⟨o,its,n,hk,hc,hs,hz,r⟩
 ·obtain ⟨z,its,r,p⟩:=h.ok I.hok
  exact ⟨its,r,p,z⟩
 ·refine ⟨its.toList,r,⟨o,I.kIn a o hk,hc,n,by simpa using hs⟩,?_⟩
  have e:=r.length
  simp only [Array.length_toList] at e
  omega
theorem Inv.list_inj (I:Inv X pins σ H s) (h:SqL X.K H a xs) (h':SqL X.K H a ys):xs=ys:=by
 obtain ⟨its,r,⟨o,n,e,_,_,d⟩,_⟩:=I.list h
 obtain ⟨its',r',⟨o',n',e',_,_,d'⟩,_⟩:=I.list h'
 rw [e] at e';cases e'
 rw [d] at d'
 injection d' with d1 _
 have:its=its':=by simpa using congrArg Array.toList d1
 subst this
 exact r.inj r'
theorem Inv.tuple_inj (I:Inv X pins σ H s) (h:SqT X.K H a xs) (h':SqT X.K H a ys):xs=ys:=by
 obtain ⟨its,r,⟨o,e,_,n,d⟩,_⟩:=I.tuple h
 obtain ⟨its',r',⟨o',e',_,n',d'⟩,_⟩:=I.tuple h'
 rw [e] at e';cases e'
 rw [d] at d'
 injection d' with d1 _
 have:its=its':=by simpa using congrArg Array.toList d1
 subst this
 exact r.inj r'
end
section
variable {X:Cx} {pins:List (Addr×Obj)} {σ:St} {H:Hp} {s:Shared} {E:Value→Shared→Prop}
end
section
variable {X:Cx} {st:Stmt} {rest:List Stmt} {t u:TS} {e:Expr} {te:TE} {pos:Pos}
def zbC:TS:=fun D σ H=>D.nx σ H
def zcl (t u:TS):TS:=fun D σ H=>t {D with nx:=u D} σ H
theorem zaz:PSs X [] zbC:=fun _ _ σ H _ I h=>wpAny_execs_nil ⟨σ,H,I,h⟩
theorem zad (h1:PS X st t) (h2:PSs X rest u):PSs X (st::rest) (zcl t u):=by
 intro pins s σ H D I h
 refine wpAny_execs_cons (thn (h1 pins s σ H {D with nx:=u D} I h) fun f s1 q=> ?_)
 cases f with
 |next=>
  obtain ⟨σ',H',I',q⟩:=q
  exact h2 pins s1 σ' H' D I' q
 |ret v=>exact q
 |brk=>exact q
 |cont=>exact q
theorem zaf (h1:PS X st t):PSs X [st] t:=by
 intro pins s σ H D I h
 refine wpAny_execs_cons (thn (h1 pins s σ H D I h) fun f s1 q=> ?_)
 cases f with
 |next=>exact wpAny_execs_nil q
 |ret v=>exact q
 |brk=>exact q
 |cont=>exact q
def zg8:TS:=fun D σ H=>D.bk σ H
theorem zgv:PS X (.Break pos) zg8:=fun _ _ σ H _ I h=>wpAny_Break ⟨σ,H,I,h⟩
theorem Inv.quiet {pins:List (Addr×Obj)} {σ:St} {H:Hp} {s:Shared} (I:Inv X pins σ H s):interactive X.env=false:=by simp [interactive,I.ok.kind]
def zbD (te:TE):TS:=fun D σ H=>te σ H fun _ H1=>D.nx σ H1
theorem zb8 (he:PE X e te) (hs:swapsWith e none pos.line X.env=pure false:=by rfl):PS X (.Expr e pos) (zbD te):=by
 intro pins s σ H D I h
 exact wpAny_Expr_any (thn (he pins s σ H _ I h) fun v s1 ⟨x,H1,I1,r1,q1⟩=>⟨σ,H1,I1,q1⟩) I.quiet hs
def zcm (te:TE):TS:=fun D σ H=>te σ H D.rt
theorem zaw (he:PE X e te):PS X (.Return (some e) pos) (zcm te):=by
 intro pins s σ H D I h
 exact wpAny_Return_some (thn (he pins s σ H _ I h) fun v s1 ⟨x,H1,I1,r1,q1⟩=>⟨x,σ,H1,I1,r1,q1⟩)
def zbM:TS:=fun D _ H=>D.rt .non H
def zcn (c:TT) (t u:TS):TS:=fun D σ H=>c σ H fun b H1=>if b=true then t D σ H1 else u D σ H1
theorem zaM {c:Expr} {a b:List Stmt} {tc:TT} (hc:PT X c tc) (ha:PSs X a t) (hb:PSs X b u):PS X (.If c a b pos) (zcn tc t u):=by
 intro pins s σ H D I h
 refine wpAny_If (thn (hc pins s σ H _ I h) fun d s1 ⟨H1,I1,q1⟩=> ?_)
 cases d with
 |true=>exact ha pins s1 σ H1 D I1 q1
 |false=>exact hb pins s1 σ H1 D I1 q1
def zk9:TS:=fun _ _ _=>False
theorem zgw:PS X st zk9:=fun _ _ _ _ _ _ h=>h.elim
end
abbrev TG:=V→St→Hp→(St→Hp→Prop)→Prop
abbrev TGs:=List V→St→Hp→(St→Hp→Prop)→Prop
def PG (X:Cx) (target:Expr) (t:TG):Prop:=
 ∀(pins:List (Addr×Obj)) (s:Shared) (σ:St) (H:Hp) (v:V) (u:Value) (Q:St→Hp→Prop),Inv X pins σ H s→zaL v u→t v σ H Q→
  wpAny (model X.prog X.w) X.A (assign target X.env u) (fun _ s'=> ∃σ' H',Inv X pins σ' H' s'∧Q σ' H') X.xe s
def PGs (X:Cx) (ts:List Expr) (t:TGs):Prop:=
 ∀(pins:List (Addr×Obj)) (s:Shared) (σ:St) (H:Hp) (vs:List V) (us:List Value) (Q:St→Hp→Prop),Inv X pins σ H s→zaP vs us→t vs σ H Q→
  wpAny (model X.prog X.w) X.A (assignInOrder ((assignEach ts X.env).map (·.2)) us) (fun _ s'=> ∃σ' H',Inv X pins σ' H' s'∧Q σ' H') X.xe s
abbrev zla:=V→V→V→Hp→(Hp→Prop)→Prop
def zlM (X:Cx) (t:zla):Prop:=
 ∀(pins:List (Addr×Obj)) (s:Shared) (σ:St) (H:Hp) (o i v:V) (ov iv u:Value) (Q:Hp→Prop),Inv X pins σ H s→zaL o ov→zaL i iv→zaL v u→t o i v H Q→
  wpAny (model X.prog X.w) X.A (setItem ov iv u) (fun _ s'=> ∃H',Inv X pins σ H' s'∧Q H') X.xe s
abbrev TIp:=V→V→Hp→VK→Prop
def PIp (X:Cx) (op:Operator) (t:TIp):Prop:=
 ∀(pins:List (Addr×Obj)) (s:Shared) (σ:St) (H:Hp) (x y:V) (v u:Value) (Q:VK),Inv X pins σ H s→zaL x v→zaL y u→t x y H Q→
  wpAny (model X.prog X.w) X.A (inplaceOp op v u) (EP X pins σ Q) X.xe s
section
variable {X:Cx} {pos:Pos}
def zbq (i:Nat):TG:=fun v σ H Q=>Q (σ.set i (some v)) H
theorem zaj {i:Nat} {x:Str} (hN:X.N.Nodup) (hi:X.N[i]? =some x) (hx:Loc X.env.scope x) (hf:X.fn x=true∨X.env.scope.names.lookup x=some .local:=by first|exact .inl rfl|exact .inr rfl|assumption):PG X (.Name x pos) (zbq i):=by
 intro pins s σ H v u Q I r h
 exact wpAny_assign_Name (zeM I hN hi hx r (fun s' I'=>⟨_,H,I',h⟩) hf)
def zcf:TGs:=fun vs σ H Q=>vs= []∧Q σ H
def zbt (t:TG) (u:TGs):TGs:=fun vs σ H Q=> ∃v r,vs=v::r∧t v σ H fun σ' H'=>u r σ' H' Q
theorem zaV:PGs X [] zcf:=by
 intro pins s σ H vs us Q I r h
 obtain ⟨e,h⟩:=h
 subst e
 cases r
 exact assignInOrder_nil ⟨σ,H,I,h⟩
theorem zal {e:Expr} {es:List Expr} {t:TG} {u:TGs} (h1:PG X e t) (h2:PGs X es u)
  (hs:(assignEach (e::es) X.env).map (·.2)=assign e X.env::(assignEach es X.env).map (·.2):=by rfl):PGs X (e::es) (zbt t u):=by
 intro pins s σ H vs us Q I r h
 obtain ⟨v,vr,e1,h⟩:=h
 subst e1
 cases r with
 |cons r rr=>
  rw [hs]
  refine assignInOrder_cons (thn (h1 pins s σ H _ _ _ I r h) fun _ s1 ⟨σ1,H1,I1,q1⟩=> ?_)
  exact h2 pins s1 σ1 H1 _ _ Q I1 rr q1
def zlN (K:PySem.W.Frag) (n:Nat) (t:TGs):TG:=fun v σ H Q=> ∃a xs,v= .ref a∧SqT K H a xs∧xs.length=n∧t xs σ H Q
theorem zbi {es:List Expr} {k:Nat} {t:TGs} {n:Nat} (hc:X.calm=true) (h:PGs X es t)
  (hn:(assignEach es X.env).length=n:=by rfl) (hst:(assignEach es X.env).findIdx? (·.1)=none:=by rfl):PG X (.Tuple es k pos) (zlN X.K n t):=by
 intro pins s σ H v u Q I r hw
 obtain ⟨a,xs,e1,hq,hl,hw⟩:=hw
 subst e1
 cases r
 obtain ⟨its,rv,ht,hz⟩:=I.tuple hq
 refine assign_Tuple_tuple (I.ok.hd hc) ht (by simp [hn,←hl,rv.length]) hst fun h' hx=> ?_
 have I1:Inv X pins σ H {s with heap:=h'}:=I.kept (t':=s.toks) fun b o e=>hx b o (Nat.ne_of_lt (Heap.lt_size e)) e
 exact h pins _ σ H xs _ Q I1 (by simpa using rv) hw
def zj6 (to ti:TE) (t:zla):TG:=fun v σ H Q=>to σ H fun o H1=>ti σ H1 fun i H2=>t o i v H2 fun H3=>Q σ H3
theorem zf2 {o i:Expr} {to ti:TE} {t:zla} (ho:PE X o to) (hi:PE X i ti) (hs:zlM X t)
  (ha: ∀v,assign (.Subscript o i pos) X.env v=(do
   let ov←holding [v] (eval o X.env)
   let iv←holding [v,ov] (eval i X.env)
   standAt pos
   holding [v,ov,iv] (setItem ov iv v)
   release [v,ov,iv] []):=by intro _;rfl):PG X (.Subscript o i pos) (zj6 to ti t):=by
 intro pins s σ H v u Q I r h
 rw [ha]
 refine wpAny_bind (wpAny_holding (thn (ho pins s σ H _ I h) fun ov s1 ⟨x,H1,I1,r1,q1⟩=> ?_))
 refine wpAny_bind (wpAny_holding (thn (hi pins s1 σ H1 _ I1 q1) fun iv s2 ⟨y,H2,I2,r2,q2⟩=> ?_))
 refine wpAny_bind (wpAny_standAt (wpAny_bind (wpAny_holding (thn (hs pins s2 σ H2 x y v ov iv u _ I2 r1 r2 r q2) fun _ s3 ⟨H3,I3,q3⟩=> ?_))))
 exact wpAny_release ⟨σ,H3,I3,q3⟩
def zcc (te:TE) (g:TG):TS:=fun D σ H=>te σ H fun x H1=>g x σ H1 D.nx
theorem zby {tg e:Expr} {te:TE} {g:TG} (he:PE X e te) (hg:PG X tg g) (hs:swapsWithSole [tg] e pos.line X.env=pure false:=by rfl) (hw:swappedStores [tg] e X.env=pure none:=by rfl)
  (h1:(assignEach [tg] X.env).map (·.2)= [assign tg X.env]:=by rfl):PS X (.Assign [tg] e pos) (zcc te g):=by
 intro pins s σ H D I h
 refine wpAny_Assign_stores (thn (he pins s σ H _ I h) fun v s1 ⟨x,H1,I1,r1,q1⟩=> ?_) hs hw
 rw [h1]
 exact thn (hg pins s1 σ H1 x v _ I1 r1 q1) fun _ s2 q=>q
theorem zan {i:Nat} {x:Str} {e:Expr} {te:TE} {pos':Pos} (hN:X.N.Nodup) (hi:X.N[i]? =some x) (hx:Loc X.env.scope x) (he:PE X e te) (hs:swapsWith e (some (.Name x pos')) pos.line X.env=pure false:=by rfl) (hf:X.fn x=true∨X.env.scope.names.lookup x=some .local:=by first|exact .inl rfl|exact .inr rfl|assumption):
  PS X (.Assign [.Name x pos'] e pos) (zcc te (zbq i)):=by
 intro pins s σ H D I h
 refine wpAny_Assign_Name (thn (he pins s σ H _ I h) fun v s1 ⟨y,H1,I1,r1,q1⟩=> ?_) hs
 exact zeM I1 hN hi hx r1 (fun s2 I2=>⟨_,H1,I2,q1⟩) hf
def zco (i:Nat) (te:TE) (ti:TIp):TS:=fun D σ H=> ∃x,σ[i]? =some (some x)∧te σ H fun y H1=>ti x y H1 fun z H2=>D.nx (σ.set i (some z)) H2
theorem zeO {i:Nat} {x:Str} {e:Expr} {te:TE} {op:Operator} {ti:TIp} {pos':Pos} (hN:X.N.Nodup) (hi:X.N[i]? =some x) (hx:Loc X.env.scope x) (he:PE X e te) (ho:PIp X op ti) (hf:X.fn x=true∨X.env.scope.names.lookup x=some .local:=by first|exact .inl rfl|exact .inr rfl|assumption):
  PS X (.AugAssign (.Name x pos') op e pos) (zco i te ti):=by
 intro pins s σ H D I h
 obtain ⟨v,e1,h⟩:=h
 obtain ⟨m,hn,hl⟩:=I.loc
 have vis:Vis X.env.scope x:=by rcases hx with k|k;exact .inl k;exact .inr (.inl k)
 obtain ⟨u,r,l⟩:=hl i x v hi e1 vis
 refine wpAny_AugAssign_Name ?_
 have go:wpAny (model X.prog X.w) X.A (eval e X.env) (fun w s₂=>wpAny (model X.prog X.w) X.A (inplaceOp op u w) (fun r s₃=>wpAny (model X.prog X.w) X.A (storeName X.env x r) (fun _=>SP X pins D .next) X.xe s₃) X.xe s₂) X.xe s:=by
  refine thn (he pins s σ H _ I h) fun w s1 ⟨y,H1,I1,r1,q1⟩=> ?_
  refine thn (ho pins s1 σ H1 v y u w _ I1 r r1 q1) fun z s2 ⟨zv,H2,I2,r2,q2⟩=> ?_
  exact zeM I2 hN hi hx r2 (fun s3 I3=>⟨_,H2,I3,q2⟩) hf
 rcases l with ⟨hk,hm⟩|⟨hk,c,hc,hcell⟩
 ·exact wpAny_loadName_local I.ok.kind hk hn hm go
 ·rcases hk with hk|hk
  ·exact wpAny_loadName_cell I.ok.kind hk hc hcell go
  ·rcases hx with k|k
   ·have:X.env.scope.names.lookup x=some .free:=hk
    rw [k] at this;cases this
   ·have:X.env.scope.names.lookup x=some .free:=hk
    rw [k] at this;cases this
def ipI (f:Int→Int→Int):TIp:=fun x y H Q=> ∃i j,x= .int i∧y= .int j∧Q (.int (f i j)) H
theorem zg9:PIp X .Add (ipI fun i j=>i+j):=by
 intro pins s σ H x y v u Q I r1 r2 h
 obtain ⟨i,j,e1,e2,q⟩:=h
 subst e1;subst e2
 obtain ⟨t,rfl⟩:=r1
 obtain ⟨t',rfl⟩:=r2
 exact iadd_int ⟨.int _,H,I.tok _,⟨_,rfl⟩,q⟩
theorem zi1:PIp X .Sub (ipI fun i j=>i - j):=by
 intro pins s σ H x y v u Q I r1 r2 h
 obtain ⟨i,j,e1,e2,q⟩:=h
 subst e1;subst e2
 obtain ⟨t,rfl⟩:=r1
 obtain ⟨t',rfl⟩:=r2
 exact isub_int ⟨.int _,H,I.tok _,⟨_,rfl⟩,q⟩
end
section
variable {X:Cx} {pos:Pos}
def zi2 (c:TT) (tb:TS):TS:=fun D σ H=> ∃W:Nat→St→Hp→Prop,(∃m,W m σ H)∧ ∀m σ H,W m σ H→
 c σ H fun b H1=>if b=true then∃N:St→Hp→Prop,(∀σ' H',N σ' H'→ ∃m',m'<m∧W m' σ' H')∧tb {D with nx:=N,ct:=N,bk:=D.nx} σ H1 else D.nx σ H1
theorem zgx {c:Expr} {body:List Stmt} {tc:TT} {tb:TS} (hp:PassesOwn (model X.prog X.w) X.A X.env X.xe) (hc:PT X c tc) (hb:PSs X body tb):PS X (.While c body [] pos) (zi2 tc tb):=by
 intro pins s σ H D I h
 obtain ⟨W,⟨m0,w0⟩,turn⟩:=h
 refine wpAny_While (codeAny_whileLoop (fun n s'=> ∃σ' H',Inv X pins σ' H' s'∧W n σ' H') ?_ m0 ⟨σ,H,I,w0⟩)
 rintro n s1 ⟨σ1,H1,I1,w1⟩
 refine wpAny_passesOwn hp (thn (hc pins s1 σ1 H1 _ I1 (turn n σ1 H1 w1)) fun b s2 ⟨H2,I2,q2⟩=> ?_)
 cases b with
 |true=>
  obtain ⟨N,hN,q2⟩:=q2
  rw [if_pos rfl]
  refine wpAny_passesOwn hp (thn (hb pins s2 σ1 H2 _ I2 q2) fun f s3 q3=> ?_)
  cases f with
  |next=>
   obtain ⟨σ3,H3,I3,n3⟩:=q3
   obtain ⟨m',hm,w3⟩:=hN σ3 H3 n3
   exact ⟨m',hm,σ3,H3,I3,w3⟩
  |cont=>
   obtain ⟨σ3,H3,I3,n3⟩:=q3
   obtain ⟨m',hm,w3⟩:=hN σ3 H3 n3
   exact ⟨m',hm,σ3,H3,I3,w3⟩
  |brk=>exact q3
  |ret v=>exact q3
 |false=>
  rw [if_neg Bool.false_ne_true]
  exact wpAny_execs_nil ⟨σ1,H2,I2,q2⟩
end
structure It where
 go:Nat→Hp→Prop
 yld:Nat→Hp→V→Hp→Prop
 stop:Nat→Hp→Prop
def zeG (X:Cx) (pins:List (Addr×Obj)) (H:Hp) (b:Addr):Prop:=
 H b=none∧b≠X.env.locals∧b∉X.fs∧(b∈X.ex∨X.s₀.heap.objs.size≤b)∧(∀x c,X.env.cells.lookup x=some c→c≠b)∧ ∀p∈X.pn++pins,p.1≠b
theorem Inv.fpOk {X:Cx} {pins:List (Addr×Obj)} {σ:St} {H H':Hp} {s:Shared} {b:Addr} (I:Inv X pins σ H s) (hb:s.heap.objs.size≤b) (hn:H' b=none):zeG X pins H' b:=by
 refine ⟨hn,Nat.ne_of_gt (Nat.lt_of_lt_of_le I.lt hb),I.nofs hb, .inr (Nat.le_trans I.sz hb),fun x c e z=> ?_,fun p hp z=> ?_⟩
 ·obtain ⟨v,q⟩:=I.cell x c e
  exact absurd (Nat.lt_of_lt_of_le q.lt (by rw [z];exact hb)) (Nat.lt_irrefl _)
 ·exact absurd (Nat.lt_of_lt_of_le (Heap.lt_size (I.pin p hp).1) (by rw [z];exact hb)) (Nat.lt_irrefl _)
structure Turn (P:Program) (w:World) (K:PySem.W.Frag) (tg:Expr) (J:It) (fp:List Addr) (it:Addr) (tn:Nat→Heap→Prop):Prop where
 mem:it∈fp
 obj: ∀i h,tn i h→ ∀b∈fp,∃o,h.get? b=some o∧ ∀v,o.data≠ .cell v
 keep: ∀i h h',tn i h→(∀b∈fp,∀o,h.get? b=some o→h'.get? b=some o)→tn i h'
 item: ∀(X:Cx),X.prog=P→X.w=w→X.K=K→X.calm=true→ ∀(i:Nat) (pins:List (Addr×Obj)) (s:Shared) (σ:St) (H:Hp) (E:Value→Shared→Prop),Inv X pins σ H s→(∀b∈fp,zeG X pins H b)→tn i s.heap→J.go i H→
  wpAny (model P w) X.A (pyNext (.ref it)) (fun r s1=> ∃u,r=some u∧
   wpAny (model P w) X.A (letOwnedTupleGo tg (.ref it) u) (fun _ s2=> ∃x H',Inv X pins σ H' s2∧zaL x u∧J.yld i H x H'∧tn (i+1) s2.heap∧ ∀b∈fp,H' b=none) E s1) E s
 done: ∀(X:Cx),X.prog=P→X.w=w→X.K=K→X.calm=true→ ∀(i:Nat) (pins:List (Addr×Obj)) (s:Shared) (σ:St) (H:Hp) (E:Value→Shared→Prop),Inv X pins σ H s→(∀b∈fp,zeG X pins H b)→tn i s.heap→J.stop i H→
  wpAny (model P w) X.A (pyNext (.ref it)) (fun r s1=>r=none∧Inv X pins σ H s1) E s
 self: ∀(A:Around) (i:Nat) (s:Shared) (Q:Value→Shared→Prop) (E:Value→Shared→Prop),tn i s.heap→Q (.ref it) s→wpAny (model P w) A (pyIter (.ref it)) Q E s
abbrev TI:=St→Hp→(It→Hp→Prop)→Prop
def PIE (X:Cx) (pins:List (Addr×Obj)) (σ:St) (tg:Expr) (R:It→Hp→Prop) (itv:Value) (s2:Shared):Prop:=
 ∃(it:Addr) (fp:List Addr) (tn:Nat→Heap→Prop) (J:It) (H':Hp),itv= .ref it∧Inv X pins σ H' s2∧Turn X.prog X.w X.K tg J fp it tn∧tn 0 s2.heap∧(∀b∈fp,zeG X pins H' b)∧R J H'
def PI (X:Cx) (tg iter:Expr) (wi:TI):Prop:=
 ∀(pins:List (Addr×Obj)) (s:Shared) (σ:St) (H:Hp) (R:It→Hp→Prop),Inv X pins σ H s→wi σ H R→
  wpAny (model X.prog X.w) X.A (eval iter X.env) (fun v s1=>wpAny (model X.prog X.w) X.A (pyIter v) (PIE X pins σ tg R) X.xe s1) X.xe s
theorem zi3 {M:Model} {A:Around} {E:Value→Shared→Prop} {s:Shared} {tg:Expr} {it:Addr} {u:Value} {o:Obj} {n:String} {vs:Array Value} {Q:Unit→Shared→Prop} (ho:s.heap.get? it=some o) (hc:o.cls= .type n) (hd:o.data= .fields vs)
  (hn: ["enumerate","zip","dict_itemiterator","dict_reverseitemiterator","odict_iterator","itertools.zip_longest","itertools.pairwise"].contains n=false) (hQ:Q () s):wpAny M A (letOwnedTupleGo tg (.ref it) u) Q E s:=by
 unfold letOwnedTupleGo
 cases tg<;>first
  |exact wpAny_pure hQ
  |(cases u<;>first
    |exact wpAny_pure hQ
    |(refine wpAny_bind (wpAny_load ho ?_)
      rw [hc,hd]
      show wpAny M A (if (["enumerate","zip","dict_itemiterator","dict_reverseitemiterator","odict_iterator","itertools.zip_longest","itertools.pairwise"].contains n && vs[0]? ==some (rawInt _))=true then _ else _) Q E s
      rw [if_neg (by intro h;rw [hn,Bool.false_and] at h;cases h)]
      exact wpAny_pure hQ))
def Itl (K:PySem.W.Frag) (a:Addr):It:=
 ⟨fun i H=> ∃xs x,SqL K H a xs∧xs[i]? =some x,fun i H x H'=>H'=H∧ ∀xs,SqL K H a xs→xs[i]? =some x,fun i H=> ∃xs,SqL K H a xs∧xs.length≤i⟩
def Itt (K:PySem.W.Frag) (a:Addr):It:=
 ⟨fun i H=> ∃xs x,SqT K H a xs∧xs[i]? =some x,fun i H x H'=>H'=H∧ ∀xs,SqT K H a xs→xs[i]? =some x,fun i H=> ∃xs,SqT K H a xs∧xs.length≤i⟩
def Itr (lo:Int) (n:Nat):It:=⟨fun i _=>i<n,fun i H x H'=>H'=H∧x= .int (lo+i),fun i _=>n≤i⟩
theorem zir {P:Program} {w:World} {K:PySem.W.Frag} {tg:Expr} (a it:Addr):Turn P w K tg (Itl K a) [it] it (fun i h=>h.IsListIter it a i) where
 mem:=by simp
 obj:=fun i h st b hb=>by
  have e:b=it:=by simpa using hb
  subst e
  obtain ⟨o,e,c,d⟩:=st
  exact ⟨o,e,fun v z=>by rw [d] at z;cases z⟩
 keep:=fun i h h' st k=>st.at fun o e=>k it (by simp) o e
 item:=by
  intro X hP hw hK hc i pins s σ H E I hf st hg
  subst hP hw hK
  obtain ⟨xs,x,hq,hx⟩:=hg
  obtain ⟨its,rv,p,hz⟩:=I.list hq
  obtain ⟨u,hu,ru⟩:=rv.get hx
  obtain ⟨f0,f1,f2,f3,f4,f5⟩:=hf it (by simp)
  refine wpAny_pyNext_list_item st p.isList (x:=u) (by simpa using hu) fun h' st' sb=> ?_
  have I1:Inv X pins σ H {s with heap:=h'}:=I.turned (t':=s.toks) (fun b o hb e=>(sb.2 b hb).trans e) f0 f1 f3 f4 f5
  obtain ⟨o,e,c,d⟩:=id st'
  exact ⟨u,rfl,zi3 (s:={s with heap:=h'}) e c d (by decide) ⟨x,H,I1,ru,⟨rfl,fun ys hy=>by rw [I.list_inj hy hq];exact hx⟩,st',fun b hb=>(hf b hb).1⟩⟩
 done:=by
  intro X hP hw hK hc i pins s σ H E I hf st hg
  subst hP hw hK
  obtain ⟨xs,hq,hx⟩:=hg
  obtain ⟨its,rv,p,hz⟩:=I.list hq
  obtain ⟨f0,f1,f2,f3,f4,f5⟩:=hf it (by simp)
  have hl:=rv.length
  exact wpAny_pyNext_list_end (I.ok.hd hc) st p.isList (by simp;omega) fun h' eb=>⟨rfl,I.turned (t':=s.toks) (fun b o hb e=>eb b o hb e) f0 f1 f3 f4 f5⟩
 self:=fun _ _ _ _ _ st h=>wpAny_pyIter_listiter st h
theorem zha {P:Program} {w:World} {K:PySem.W.Frag} {tg:Expr} (it:Addr) (lo:Int) (n:Nat):Turn P w K tg (Itr lo n) [it] it (fun i h=>IsRangeIter h it (lo+(i:Nat)*1) ((n:Int) - (i:Nat)) 1) where
 mem:=by simp
 obj:=fun i h st b hb=>by
  have e:b=it:=by simpa using hb
  subst e
  exact ⟨_,st,fun v z=>by
   have z':Data.fields _=Data.cell v:=z
   cases z'⟩
 keep:=fun i h h' st k=>k it (by simp) _ st
 item:=by
  intro X hP hw hK hc i pins s σ H E I hf st hg
  subst hP hw hK
  obtain ⟨f0,f1,f2,f3,f4,f5⟩:=hf it (by simp)
  have W:=Walks.range (prog:=X.prog) (w:=X.w) (I.ok.hd hc) it lo 1 n
  refine W.item i s _ _ hg st fun v h' tk hv st' kk=> ?_
  obtain ⟨t,rfl⟩:=hv
  have I1:Inv X pins σ H {s with heap:=h',toks:=tk}:=I.turned (fun b o hb e=>kk b o (by simpa using hb) e) f0 f1 f3 f4 f5
  refine ⟨_,rfl,zi3 (s:={s with heap:=h',toks:=tk}) (n:="range_iterator") st' rfl rfl (by decide) ⟨.int (lo+i),H,I1,⟨t,?_⟩,⟨rfl,rfl⟩,st',fun b hb=>(hf b hb).1⟩⟩
  rw [Int.mul_one]
 done:=by
  intro X hP hw hK hc i pins s σ H E I hf st hg
  subst hP hw hK
  obtain ⟨f0,f1,f2,f3,f4,f5⟩:=hf it (by simp)
  exact wpAny_pyNext_range_end (I.ok.hd hc) st (by have:n≤i:=hg;omega) fun h' eb=>⟨rfl,I.turned (t':=s.toks) (fun b o hb e=>eb b o hb e) f0 f1 f3 f4 f5⟩
 self:=fun _ _ _ _ _ st h=>wpAny_pyIter_rangeiter st h
end L2
namespace L2
open PySem PySem.Spec PyProof.Rows
section
variable {X:Cx} {tg:Expr}
def zdz (K:PySem.W.Frag) (tl:TE):TI:=fun σ H R=>tl σ H fun x H1=> ∃a,x= .ref a∧(∃xs,SqL K H1 a xs)∧R (Itl K a) H1
def zlO (K:PySem.W.Frag) (tl:TE):TI:=fun σ H R=>tl σ H fun x H1=> ∃a,x= .ref a∧(∃xs,SqT K H1 a xs)∧R (Itt K a) H1
theorem zbu {l:Expr} {tl:TE} (hl:PE X l tl):PI X tg l (zdz X.K tl):=by
 intro pins s σ H R I h
 refine thn (hl pins s σ H _ I h) fun v s1 ⟨x,H1,I1,r1,q1⟩=> ?_
 obtain ⟨a,e,⟨xs,hq⟩,q⟩:=q1
 subst e
 cases r1
 obtain ⟨its,rv,p,hz⟩:=I1.list hq
 refine wpAny_pyIter_list p.isList ?_
 refine ⟨s1.heap.objs.size, [s1.heap.objs.size],_,_,H1,rfl,I1.kept (t':=s1.toks) fun b o e=>Heap.get?_push_of_some _ e,zir a _,⟨_,Heap.get?_push_size _ rfl,rfl,rfl⟩,fun b hb=> ?_,q⟩
 have e:b=s1.heap.objs.size:=by simpa using hb
 subst e
 exact I1.fpOk (Nat.le_refl _) (I1.hok.fresh (Nat.le_refl _))
theorem zgy {pins:List (Addr×Obj)} {σ:St} {H:Hp} {s:Shared} {R:It→Hp→Prop} {E:Value→Shared→Prop} {lo hi:Int} {t u v:Tok} {tk:Nat} (I:Inv X pins σ H s) (h1: -(2 ^ 62)≤lo) (h2:lo<2 ^ 62) (h3: -(2 ^ 62)≤hi) (h4:hi<2 ^ 62)
  (q:R (Itr lo (hi - lo).toNat) H):wpAny (model X.prog X.w) X.A (pyIter (.ref s.heap.objs.size)) (PIE X pins σ tg R) E {s with heap:=s.heap.push {cls:= .type "range",data:= .fields #[.int lo t, .int hi u, .int 1 v]},toks:=tk}:=by
 refine wpAny_pyIter_range (IsRange.new ..) (small_one h1 h2 h3 h4) ?_
 have I1:Inv X pins σ H {s with heap:=s.heap.push {cls:= .type "range",data:= .fields #[.int lo t, .int hi u, .int 1 v]},toks:=tk}:=I.kept fun b o e=>Heap.get?_push_of_some _ e
 refine ⟨(s.heap.push {cls:= .type "range",data:= .fields #[.int lo t, .int hi u, .int 1 v]}).objs.size, [(s.heap.push {cls:= .type "range",data:= .fields #[.int lo t, .int hi u, .int 1 v]}).objs.size],_,_,H,rfl,
  I1.kept (t':=tk) fun b o e=>Heap.get?_push_of_some _ e,zha _ lo (hi - lo).toNat,?_,fun b hb=> ?_,q⟩
 ·have e1:lo+((0:Nat):Int)*1=lo:=by simp
  have e2:(((hi - lo).toNat:Nat):Int) - ((0:Nat):Int)=Builtin.Range.rangeSize lo hi 1:=by rw [rangeSize_one];split<;>omega
  show IsRangeIter _ _ (lo+((0:Nat):Int)*1) ((((hi - lo).toNat:Nat):Int) - ((0:Nat):Int)) 1
  rw [e1,e2]
  exact Heap.get?_push_size _ rfl
 ·have e:b=(s.heap.push {cls:= .type "range",data:= .fields #[.int lo t, .int hi u, .int 1 v]}).objs.size:=by simpa using hb
  subst e
  exact I1.fpOk (Nat.le_refl _) (I1.hok.fresh (Nat.le_refl _))
def zgz (ta:TA):TI:=fun σ H R=>ta σ H fun vs H1=> ∃j:Int,vs= [.int j]∧ -(2 ^ 62)≤j∧j<2 ^ 62∧R (Itr 0 j.toNat) H1
def zhQ (ta:TA):TI:=fun σ H R=>ta σ H fun vs H1=> ∃i j:Int,vs= [.int i, .int j]∧(-(2 ^ 62)≤i∧i<2 ^ 62∧ -(2 ^ 62)≤j∧j<2 ^ 62)∧R (Itr i (j - i).toNat) H1
theorem zbL {a:Expr} {ta:TA} {p pos:Pos} (hg:Gl X "range") (hm:X.mg "range"=none) (ha:PA X [a] ta) (hs:starEach [a] X.env= [(false,eval a X.env)]:=by rfl):PI X tg (.Call (.Name "range" p) [a] [] pos) (zgz ta):=by
 intro pins s σ H R I h
 refine Call_ (zdi I hg hm boot_range (PyProof.Rows.callWith_type1 (thn (ha pos pins s σ H _ I h) fun us s1 ⟨vs,H1,I1,r1,q1⟩=> ?_) hs rfl))
 obtain ⟨j,e,q1,q2,q⟩:=q1
 subst e
 cases r1 with
 |cons r rr=>
  cases rr
  obtain ⟨t,rfl⟩:=r
  exact call_range_1 (zgy I1 (by omega) (by omega) q1 q2 (by simpa using q))
theorem zft {a b:Expr} {ta:TA} {p pos:Pos} (hg:Gl X "range") (hm:X.mg "range"=none) (ha:PA X [a,b] ta) (hs:starEach [a,b] X.env= [(false,eval a X.env),(false,eval b X.env)]:=by rfl) (hs2:starEach [b] X.env= [(false,eval b X.env)]:=by rfl):
  PI X tg (.Call (.Name "range" p) [a,b] [] pos) (zhQ ta):=by
 intro pins s σ H R I h
 refine Call_ (zdi I hg hm boot_range (PyProof.Rows.callWith_type1 (thn (ha pos pins s σ H _ I h) fun us s1 ⟨vs,H1,I1,r1,q1⟩=> ?_) (by rw [hs,hs2]) (by rw [hs2];rfl)))
 obtain ⟨i,j,e,⟨q1,q2,q3,q4⟩,q⟩:=q1
 subst e
 cases r1 with
 |cons r rr=>
  cases rr with
  |cons r' rr=>
   cases rr
   obtain ⟨t,rfl⟩:=r
   obtain ⟨t',rfl⟩:=r'
   exact call_range_2 (zgy I1 q1 q2 q3 q4 q)
def zlP (wi:TI) (g:TG) (tb:TS):TS:=fun D σ H=>wi σ H fun J H1=> ∃W:Nat→Nat→St→Hp→Prop,(∃m,W 0 m σ H1)∧ ∀i m σ H,W i m σ H→
 (J.stop i H∧D.nx σ H)∨(J.go i H∧ ∃N:St→Hp→Prop,(∀σ' H',N σ' H'→ ∃m',m'<m∧W (i+1) m' σ' H')∧ ∀x H',J.yld i H x H'→g x σ H' fun σ2 H2=>tb {D with nx:=N,ct:=N,bk:=D.nx} σ2 H2)
def zeP (fp:List Addr) (h:Heap):List (Addr×Obj):=fp.filterMap fun b=>(h.get? b).map fun o=>(b,o)
theorem zdl {fp:List Addr} {h:Heap} {b:Addr} {o:Obj} (hb:b∈fp) (e:h.get? b=some o):(b,o)∈zeP fp h:=List.mem_filterMap.mpr ⟨b,hb,by rw [e];rfl⟩
theorem zis {fp:List Addr} {h:Heap} {p:Addr×Obj} (hp:p∈zeP fp h):p.1∈fp∧h.get? p.1=some p.2:=by
 obtain ⟨b,hb,e⟩:=List.mem_filterMap.mp hp
 cases q:h.get? b with
 |none=>rw [q] at e;cases e
 |some o=>
  rw [q] at e
  have e':(b,o)=p:=Option.some.inj e
  subst e'
  exact ⟨hb,q⟩
theorem Inv.pinned {pins:List (Addr×Obj)} {σ:St} {H:Hp} {s:Shared} {fp:List Addr} (I:Inv X pins σ H s) (hf: ∀b∈fp,zeG X pins H b) (ho: ∀b∈fp,∃o,s.heap.get? b=some o∧ ∀v,o.data≠ .cell v):Inv X (pins++zeP fp s.heap) σ H s:=
 I.pins_of fun p hp=>(List.mem_append.mp hp).elim (fun z=>I.pin p (List.mem_append_right _ z)) fun z=>by
  obtain ⟨hb,e⟩:=zis z
  obtain ⟨f0,f1,f2,_⟩:=hf p.1 hb
  obtain ⟨o,e',d⟩:=ho p.1 hb
  rw [e] at e';cases e'
  exact ⟨e,f0,f1,f2,d⟩
theorem Inv.unpinned {pins pl:List (Addr×Obj)} {σ:St} {H:Hp} {s:Shared} (I:Inv X (pins++pl) σ H s):Inv X pins σ H s:=I.pins_of fun p hp=>I.pin p (List.mem_append_right _ (List.mem_append_left _ hp))
theorem zbO {iter:Expr} {body:List Stmt} {wi:TI} {g:TG} {tb:TS} {pos:Pos} (hp:PassesOwn (model X.prog X.w) X.A X.env X.xe) (hc:X.calm=true) (hi:PI X tg iter wi) (hg:PG X tg g) (hb:PSs X body tb)
  (hs: ∀x,foldedSetIterable iter X.env x=pure x:=by intro _;rfl):PS X (.For tg iter body [] pos) (zlP wi g tb):=by
 intro pins s σ H D I h
 refine wpAny_For (thn (hi pins s σ H _ I h) fun v s1 h1=>thn h1 fun itv s2 h2=> ?_) hs
 obtain ⟨it,fp,tn,J,H2,e,I2,T,st2,f2,W,⟨m0,w0⟩,turn⟩:=h2
 subst e
 have stat: ∀{H':Hp},(∀b∈fp,H' b=none)→ ∀b∈fp,zeG X pins H' b:=fun hn b hb=>⟨hn b hb,(f2 b hb).2⟩
 refine codeAny_forLoop_any (fun n s'=> ∃i σ' H',Inv X pins σ' H' s'∧tn i s'.heap∧(∀b∈fp,H' b=none)∧W i n σ' H') ?_ m0 ⟨0,σ,H2,I2,st2,fun b hb=>(f2 b hb).1,w0⟩
 rintro n s3 ⟨i,σ3,H3,I3,st3,fr3,w3⟩
 rcases turn i n σ3 H3 w3 with ⟨stop,qn⟩|⟨go,N,hN,step⟩
 ·refine wpAny_passesOwn hp (thn (T.done X rfl rfl rfl hc i pins s3 σ3 H3 X.xe I3 (stat fr3) st3 stop) fun r s4 ⟨hr,I4⟩=> ?_)
  subst hr
  exact wpAny_execs_nil ⟨σ3,H3,I4,qn⟩
 ·refine wpAny_passesOwn hp (thn (T.item X rfl rfl rfl hc i pins s3 σ3 H3 X.xe I3 (stat fr3) st3 go) fun r s4 ⟨u,hr,h4⟩=> ?_)
  subst hr
  refine wpAny_passesOwn hp (thn h4 fun _ s5 ⟨x,H5,I5,r5,y5,st5,fr5⟩=> ?_)
  have I5':=I5.pinned (stat fr5) (T.obj _ _ st5)
  refine wpAny_passesOwn hp (thn (hg _ s5 σ3 H5 x u _ I5' r5 (step x H5 y5)) fun _ s6 ⟨σ6,H6,I6,q6⟩=> ?_)
  refine wpAny_passesOwn hp (thn (hb _ s6 σ6 H6 _ I6 q6) fun f s7 q7=> ?_)
  have again: ∀{σ7:St} {H7:Hp},Inv X (pins++zeP fp s5.heap) σ7 H7 s7→N σ7 H7→ ∃m,m<n∧ ∃i σ' H',Inv X pins σ' H' s7∧tn i s7.heap∧(∀b∈fp,H' b=none)∧W i m σ' H':=fun {σ7 H7} I7 n7=>by
   obtain ⟨m',hm,w7⟩:=hN σ7 H7 n7
   refine ⟨m',hm,i+1,σ7,H7,I7.unpinned,T.keep _ _ _ st5 fun b hb o e=>(I7.pin (b,o) (List.mem_append_right _ (List.mem_append_right _ (zdl hb e)))).1,fun b hb=> ?_,w7⟩
   obtain ⟨o,e,d⟩:=T.obj _ _ st5 b hb
   exact (I7.pin (b,o) (List.mem_append_right _ (List.mem_append_right _ (zdl hb e)))).2.1
  cases f with
  |next=>obtain ⟨σ7,H7,I7,n7⟩:=q7;exact again I7 n7
  |cont=>obtain ⟨σ7,H7,I7,n7⟩:=q7;exact again I7 n7
  |brk=>obtain ⟨σ7,H7,I7,q7⟩:=q7;exact ⟨σ7,H7,I7.unpinned,q7⟩
  |ret v=>obtain ⟨x7,σ7,H7,I7,r7,q7⟩:=q7;exact ⟨x7,σ7,H7,I7.unpinned,r7,q7⟩
end
theorem zcz {K:PySem.W.Frag} {a:Addr} {xs:List V} {g:TG} {tb:TS} {D:Ends} {σ:St} {H:Hp} (Pv:Nat→St→Hp→Prop) (h0:Pv 0 σ H) (hl: ∀i σ H,i≤xs.length→Pv i σ H→SqL K H a xs)
  (hs: ∀i x σ H,xs[i]? =some x→Pv i σ H→g x σ H fun σ2 H2=>tb {D with nx:=Pv (i+1),ct:=Pv (i+1),bk:=D.nx} σ2 H2) (hd: ∀σ H,Pv xs.length σ H→D.nx σ H):
  ∃W:Nat→Nat→St→Hp→Prop,(∃m,W 0 m σ H)∧ ∀i m σ H,W i m σ H→
   ((Itl K a).stop i H∧D.nx σ H)∨((Itl K a).go i H∧ ∃N:St→Hp→Prop,(∀σ' H',N σ' H'→ ∃m',m'<m∧W (i+1) m' σ' H')∧ ∀x H',(Itl K a).yld i H x H'→g x σ H' fun σ2 H2=>tb {D with nx:=N,ct:=N,bk:=D.nx} σ2 H2):=by
 refine ⟨fun i m σ H=>m=xs.length - i∧i≤xs.length∧Pv i σ H,⟨xs.length,by simp,Nat.zero_le _,h0⟩,?_⟩
 rintro i m σ H ⟨rfl,hi,p⟩
 have q:=hl i σ H hi p
 by_cases hlt:i<xs.length
 ·refine .inr ⟨⟨xs,xs[i],q,by simp [hlt]⟩,Pv (i+1),fun σ' H' p'=>⟨xs.length - (i+1),by omega,rfl,hlt,p'⟩,fun x H' y=> ?_⟩
  obtain ⟨e,y⟩:=y
  subst e
  exact hs i x σ _ (y xs q) p
 ·have e:i=xs.length:=by omega
  subst e
  exact .inl ⟨⟨xs,q,Nat.le_refl _⟩,hd σ H p⟩
theorem zb1 {lo:Int} {n:Nat} {g:TG} {tb:TS} {D:Ends} {σ:St} {H:Hp} (Pv:Nat→St→Hp→Prop) (h0:Pv 0 σ H)
  (hs: ∀i σ H,i<n→Pv i σ H→g (.int (lo+i)) σ H fun σ2 H2=>tb {D with nx:=Pv (i+1),ct:=Pv (i+1),bk:=D.nx} σ2 H2) (hd: ∀σ H,Pv n σ H→D.nx σ H):
  ∃W:Nat→Nat→St→Hp→Prop,(∃m,W 0 m σ H)∧ ∀i m σ H,W i m σ H→
   ((Itr lo n).stop i H∧D.nx σ H)∨((Itr lo n).go i H∧ ∃N:St→Hp→Prop,(∀σ' H',N σ' H'→ ∃m',m'<m∧W (i+1) m' σ' H')∧ ∀x H',(Itr lo n).yld i H x H'→g x σ H' fun σ2 H2=>tb {D with nx:=N,ct:=N,bk:=D.nx} σ2 H2):=by
 refine ⟨fun i m σ H=>m=n - i∧i≤n∧Pv i σ H,⟨n,by simp,Nat.zero_le _,h0⟩,?_⟩
 rintro i m σ H ⟨rfl,hi,p⟩
 by_cases hlt:i<n
 ·refine .inr ⟨hlt,Pv (i+1),fun σ' H' p'=>⟨n - (i+1),by omega,rfl,hlt,p'⟩,fun x H' y=> ?_⟩
  obtain ⟨e,y⟩:=y
  subst e y
  exact hs i σ _ hlt p
 ·have e:i=n:=by omega
  subst e
  exact .inl ⟨Nat.le_refl _,hd σ H p⟩
theorem zi4 {c:TT} {tb:TS} {D:Ends} {σ:St} {H:Hp} (Pv:St→Hp→Prop) (μ:St→Hp→Nat) (h0:Pv σ H)
  (hs: ∀σ H,Pv σ H→c σ H fun b H1=>if b=true then tb {D with nx:=fun σ' H'=>Pv σ' H'∧μ σ' H'<μ σ H,ct:=fun σ' H'=>Pv σ' H'∧μ σ' H'<μ σ H,bk:=D.nx} σ H1 else D.nx σ H1)
  (mono: ∀σ H Q Q',(∀b H1,Q b H1→Q' b H1)→c σ H Q→c σ H Q'):zi2 c tb D σ H:=by
 refine ⟨fun m σ H=>m=μ σ H∧Pv σ H,⟨_,rfl,h0⟩,?_⟩
 rintro m σ H ⟨rfl,p⟩
 refine mono σ H _ _ (fun b H1 q=> ?_) (hs σ H p)
 cases b with
 |true=>exact ⟨_,fun σ' H' ⟨p',l⟩=>⟨_,l,rfl,p'⟩,q⟩
 |false=>exact q
end L2
namespace L2
open PySem PySem.Spec PyProof.Rows
abbrev R2:=V→V→Hp→VK→Prop
def OpR (X:Cx) (f:Value→Value→Sem Value) (r:R2):Prop:=
 ∀(pins:List (Addr×Obj)) (s:Shared) (σ:St) (H:Hp) (x y:V) (v u:Value) (Q:VK),Inv X pins σ H s→zaL x v→zaL y u→r x y H Q→
  wpAny (model X.prog X.w) X.A (f v u) (EP X pins σ Q) X.xe s
def zc5 (X:Cx) (f:Value) (r:List V→Hp→VK→Prop):Prop:=
 ∀(pins:List (Addr×Obj)) (s:Shared) (σ:St) (H:Hp) (xs:List V) (us:List Value) (Q:VK),Inv X pins σ H s→zaP xs us→r xs H Q→
  wpAny (model X.prog X.w) X.A (call f us) (EP X pins σ Q) X.xe s
def tOp (r:R2) (ta tb:TE):TE:=fun σ H Q=>ta σ H fun x H1=>tb σ H1 fun y H2=>r x y H2 Q
def tUn (r:V→Hp→VK→Prop) (ta:TE):TE:=fun σ H Q=>ta σ H fun x H1=>r x H1 Q
def rI (C:Int→Int→Prop) (g:Int→Int→V):R2:=fun x y H Q=> ∃i j,x= .int i∧y= .int j∧C i j∧Q (g i j) H
def rI0 (g:Int→Int→V):R2:=fun x y H Q=> ∃i j,x= .int i∧y= .int j∧Q (g i j) H
def rU (g:Int→V):V→Hp→VK→Prop:=fun x H Q=> ∃i,x= .int i∧Q (g i) H
section
variable {X:Cx} {a b c:Expr} {ta tb tc:TE} {pos:Pos}
theorem zlb (ha:PE X a ta) (hb:PE X b tb) {pins:List (Addr×Obj)} {s:Shared} {σ:St} {H:Hp} {R:V→V→Hp→Prop} (I:Inv X pins σ H s)
  (h:ta σ H fun x H1=>tb σ H1 fun y H2=>R x y H2) {Q:Value→Shared→Prop} {f:Value→Value→Sem Value}
  (hf: ∀v u s2 x y H2,Inv X pins σ H2 s2→zaL x v→zaL y u→R x y H2→wpAny (model X.prog X.w) X.A (f v u) Q X.xe s2):
  wpAny (model X.prog X.w) X.A (eval a X.env) (fun v s₁=>wpAny (model X.prog X.w) X.A (eval b X.env) (fun u s₂=>wpAny (model X.prog X.w) X.A (f v u) Q X.xe s₂) X.xe s₁) X.xe s:=by
 refine thn (ha pins s σ H _ I h) fun v s1 ⟨x,H1,I1,r1,q1⟩=> ?_
 refine thn (hb pins s1 σ H1 _ I1 q1) fun u s2 ⟨y,H2,I2,r2,q2⟩=> ?_
 exact hf v u s2 x y H2 I2 r1 r2 q2
theorem zai {op:Operator} {r:R2} (ho:OpR X (binaryOp op) r) (ha:PE X a ta) (hb:PE X b tb):PE X (.BinOp a op b pos) (tOp r ta tb):=by
 intro pins s σ H Q I h
 exact wpAny_BinOp (zlb ha hb I h fun v u s2 x y H2 I2 rx ry q=>ho pins s2 σ H2 x y v u Q I2 rx ry q)
theorem opI {f:Value→Value→Sem Value} {C:Int→Int→Prop} {g:Int→Int→Int}
  (rule: ∀(i j:Int) (t u:Tok) (s:Shared) (Q:Value→Shared→Prop) (E:Value→Shared→Prop),C i j→Q (.int (g i j) s.toks) {s with toks:=s.toks+1}→wpAny (model X.prog X.w) X.A (f (.int i t) (.int j u)) Q E s):
  OpR X f (rI C fun i j=> .int (g i j)):=by
 intro pins s σ H x y v u Q I rx ry h
 obtain ⟨i,j,rfl,rfl,hc,q⟩:=h
 obtain ⟨t,rfl⟩:=rx
 obtain ⟨t',rfl⟩:=ry
 exact rule i j t t' s _ _ hc ⟨.int (g i j),H,I.tok _,⟨_,rfl⟩,q⟩
theorem zlQ {f:Value→Value→Sem Value} {g:Int→Int→Int}
  (rule: ∀(i j:Int) (t u:Tok) (s:Shared) (Q:Value→Shared→Prop) (E:Value→Shared→Prop),Q (.int (g i j) s.toks) {s with toks:=s.toks+1}→wpAny (model X.prog X.w) X.A (f (.int i t) (.int j u)) Q E s):
  OpR X f (rI0 fun i j=> .int (g i j)):=by
 intro pins s σ H x y v u Q I rx ry h
 obtain ⟨i,j,rfl,rfl,q⟩:=h
 obtain ⟨t,rfl⟩:=rx
 obtain ⟨t',rfl⟩:=ry
 exact rule i j t t' s _ _ ⟨.int (g i j),H,I.tok _,⟨_,rfl⟩,q⟩
theorem zj7 {f:Value→Value→Sem Value} {g:Int→Int→Bool}
  (rule: ∀(i j:Int) (t u:Tok) (s:Shared) (Q:Value→Shared→Prop) (E:Value→Shared→Prop),Q (.bool (g i j)) s→wpAny (model X.prog X.w) X.A (f (.int i t) (.int j u)) Q E s):
  OpR X f (rI0 fun i j=> .bl (g i j)):=by
 intro pins s σ H x y v u Q I rx ry h
 obtain ⟨i,j,rfl,rfl,q⟩:=h
 obtain ⟨t,rfl⟩:=rx
 obtain ⟨t',rfl⟩:=ry
 exact rule i j t t' s _ _ ⟨.bl (g i j),H,I,rfl,q⟩
def zcg (i j:Int):Prop:=0<j∧j<1073741824
def zmk (i j:Int):Prop:=0≤j∧j≤1000000∧i.natAbs<2 ^ 64
def zj8 (i j:Int):Prop:=(-(2 ^ 64)<i∧i<2 ^ 64)∨(-(2 ^ 64)<j∧j<2 ^ 64)
theorem zj8.ok {i j:Int} (h:zj8 i j):IntMulOk i j:=by
 rcases h with ⟨h1,h2⟩|⟨h1,h2⟩
 ·exact .of_left (intBits_le_64 h1 h2)
 ·exact .of_right (intBits_le_64 h1 h2)
theorem zaE:OpR X (binaryOp .Add) (rI0 fun i j=> .int (i+j)):=zlQ fun _ _ _ _ _ _ _ q=>add_int q
theorem zbP:OpR X (binaryOp .Sub) (rI0 fun i j=> .int (i - j)):=zlQ fun _ _ _ _ _ _ _ q=>sub_int q
theorem zb9:OpR X (binaryOp .Mult) (rI zj8 fun i j=> .int (i*j)):=opI fun _ _ _ _ _ _ _ hc q=>mul_int q hc.ok
theorem zaK:OpR X (binaryOp .FloorDiv) (rI zcg fun i j=> .int (i / j)):=opI fun i j _ _ _ _ _ hc q=>by
 have h1:(0:Int)<j:=hc.1
 have h2:j<1073741824:=hc.2
 exact floordiv_int (by omega) (by rw [Int.fdiv_eq_ediv_of_nonneg i (by omega)];exact q) (.inl (PyProof.noPylong_small (by omega)))
theorem zaC:OpR X (binaryOp .Mod) (rI (fun _ j=>0<j) fun i j=> .int (i % j)):=opI fun i j _ _ _ _ _ hc q=>by
 have h1:(0:Int)<j:=hc
 exact mod_int' (by omega) (by rw [Int.fmod_eq_emod_of_nonneg i (by omega)];exact q)
theorem zi5:OpR X (binaryOp .Pow) (rI zmk fun i j=> .int (i ^ j.toNat)):=opI fun _ _ _ _ _ _ _ hc q=>pow_int_small hc.1 hc.2.1 hc.2.2 q
end
def zfl:V→V→Bool
 | .non, .non=>true| .non, .int _=>true| .int _, .non=>true| .non, .bl _=>true| .bl _, .non=>true| .non, .str _=>true| .str _, .non=>true
 | .int _, .int _=>true| .bl _, .bl _=>true| .str _, .str _=>true| .byt _, .byt _=>true
 | .int _, .str _=>true| .str _, .int _=>true| .bl _, .str _=>true| .str _, .bl _=>true
 |_,_=>false
def rEq:R2:=fun x y H Q=>zfl x y=true∧Q (.bl (decide (x=y))) H
def rNe:R2:=fun x y H Q=>zfl x y=true∧Q (.bl (!decide (x=y))) H
theorem zhR {i j:Int}:decide (V.int i=V.int j)=(i==j):=by
 rw [Bool.eq_iff_iff]
 simp
theorem zi6 {i j:Bool}:decide (V.bl i=V.bl j)=(i==j):=by
 rw [Bool.eq_iff_iff]
 simp
theorem zhS {i j:Str}:decide (V.str i=V.str j)=(i==j):=by
 rw [Bool.eq_iff_iff]
 simp
theorem zhT {i j:Array UInt8}:decide (V.byt i=V.byt j)=(i.toList==j.toList):=by
 rw [Bool.eq_iff_iff]
 cases i
 cases j
 simp
section
variable {X:Cx} {a b c:Expr} {ta tb tc:TE} {pos:Pos}
theorem za8 {pins:List (Addr×Obj)} {σ:St} {H:Hp} {s:Shared} {Q:VK} {k k':Bool} (I:Inv X pins σ H s) (q:Q (.bl k) H) (e:k=k'):EP X pins σ Q (.bool k') s:=by
 subst e
 exact ⟨.bl k,H,I,rfl,q⟩
theorem zbv:OpR X (compareOp .Eq) rEq:=by
 intro pins s σ H x y v u Q I rx ry h
 obtain ⟨hs,q⟩:=h
 cases x with
 |non=>
  cases rx
  cases y with
  |non=>cases ry;exact PySem.EqNone.eq_none_none (za8 I q (by simp))
  |bl j=>cases ry;exact PySem.EqNone.eq_none_bool (za8 I q (by simp))
  |int j=>obtain ⟨t',rfl⟩:=ry;exact PySem.EqNone.eq_none_int (za8 I q (by simp))
  |str j=>obtain ⟨t',rfl⟩:=ry;exact PySem.EqNone.eq_none_str (za8 I q (by simp))
  |_=>exact absurd (show false=true from hs) Bool.false_ne_true
 |bl i=>
  cases rx
  cases y with
  |non=>cases ry;exact PySem.EqNone.eq_bool_none (za8 I q (by simp))
  |bl j=>cases ry;exact eq_bool (za8 I q zi6)
  |str j=>obtain ⟨t',rfl⟩:=ry;exact PySem.EqMixed.eq_bool_str (za8 I q (by simp))
  |_=>exact absurd (show false=true from hs) Bool.false_ne_true
 |int i=>
  obtain ⟨t,rfl⟩:=rx
  cases y with
  |non=>cases ry;exact PySem.EqNone.eq_int_none (za8 I q (by simp))
  |int j=>obtain ⟨t',rfl⟩:=ry;exact eq_int (za8 I q zhR)
  |str j=>obtain ⟨t',rfl⟩:=ry;exact PySem.EqMixed.eq_int_str (za8 I q (by simp))
  |_=>exact absurd (show false=true from hs) Bool.false_ne_true
 |str i=>
  obtain ⟨t,rfl⟩:=rx
  cases y with
  |non=>cases ry;exact PySem.EqNone.eq_str_none (za8 I q (by simp))
  |bl j=>cases ry;exact PySem.EqMixed.eq_str_bool (za8 I q (by simp))
  |int j=>obtain ⟨t',rfl⟩:=ry;exact PySem.EqMixed.eq_str_int (za8 I q (by simp))
  |str j=>obtain ⟨t',rfl⟩:=ry;exact eq_str (za8 I q zhS)
  |_=>exact absurd (show false=true from hs) Bool.false_ne_true
 |byt i=>
  obtain ⟨t,rfl⟩:=rx
  cases y with
  |byt j=>obtain ⟨t',rfl⟩:=ry;exact PySem.W.eq_bytes (za8 I q zhT)
  |_=>exact absurd (show false=true from hs) Bool.false_ne_true
 |_=>cases y<;>exact absurd (show false=true from hs) Bool.false_ne_true
theorem zeQ:OpR X (compareOp .NotEq) rNe:=by
 intro pins s σ H x y v u Q I rx ry h
 obtain ⟨hs,q⟩:=h
 cases x with
 |non=>
  cases rx
  cases y with
  |non=>cases ry;exact PySem.EqNone.ne_none_none (za8 I q (by simp))
  |bl j=>cases ry;exact PySem.EqNone.ne_none_bool (za8 I q (by simp))
  |int j=>obtain ⟨t',rfl⟩:=ry;exact PySem.EqNone.ne_none_int (za8 I q (by simp))
  |str j=>obtain ⟨t',rfl⟩:=ry;exact PySem.EqNone.ne_none_str (za8 I q (by simp))
  |_=>exact absurd (show false=true from hs) Bool.false_ne_true
 |bl i=>
  cases rx
  cases y with
  |non=>cases ry;exact PySem.EqNone.ne_bool_none (za8 I q (by simp))
  |bl j=>cases ry;exact ne_bool (za8 I q (congrArg not zi6))
  |str j=>obtain ⟨t',rfl⟩:=ry;exact PySem.EqMixed.ne_bool_str (za8 I q (by simp))
  |_=>exact absurd (show false=true from hs) Bool.false_ne_true
 |int i=>
  obtain ⟨t,rfl⟩:=rx
  cases y with
  |non=>cases ry;exact PySem.EqNone.ne_int_none (za8 I q (by simp))
  |int j=>obtain ⟨t',rfl⟩:=ry;exact ne_int (za8 I q (congrArg not zhR))
  |str j=>obtain ⟨t',rfl⟩:=ry;exact PySem.EqMixed.ne_int_str (za8 I q (by simp))
  |_=>exact absurd (show false=true from hs) Bool.false_ne_true
 |str i=>
  obtain ⟨t,rfl⟩:=rx
  cases y with
  |non=>cases ry;exact PySem.EqNone.ne_str_none (za8 I q (by simp))
  |bl j=>cases ry;exact PySem.EqMixed.ne_str_bool (za8 I q (by simp))
  |int j=>obtain ⟨t',rfl⟩:=ry;exact PySem.EqMixed.ne_str_int (za8 I q (by simp))
  |str j=>obtain ⟨t',rfl⟩:=ry;exact ne_str (za8 I q (congrArg not zhS))
  |_=>exact absurd (show false=true from hs) Bool.false_ne_true
 |byt i=>
  obtain ⟨t,rfl⟩:=rx
  cases y with
  |byt j=>obtain ⟨t',rfl⟩:=ry;exact PySem.W.ne_bytes (za8 I q (congrArg not zhT))
  |_=>exact absurd (show false=true from hs) Bool.false_ne_true
 |_=>cases y<;>exact absurd (show false=true from hs) Bool.false_ne_true
theorem zcM:OpR X (compareOp .Lt) (rI0 fun i j=> .bl (decide (i<j))):=zj7 fun _ _ _ _ _ _ _ q=>lt_int q
theorem zfu:OpR X (compareOp .LtE) (rI0 fun i j=> .bl (decide (i≤j))):=zj7 fun _ _ _ _ _ _ _ q=>le_int q
theorem zd4:OpR X (compareOp .Gt) (rI0 fun i j=> .bl (decide (j<i))):=zj7 fun _ _ _ _ _ _ _ q=>gt_int q
theorem zi7:OpR X (compareOp .GtE) (rI0 fun i j=> .bl (decide (j≤i))):=zj7 fun _ _ _ _ _ _ _ q=>ge_int q
theorem zi8:OpR X (compareOp .Is) (fun x y H Q=>y= .non∧Q (.bl (decide (x= .non))) H):=by
 intro pins s σ H x y v u Q I rx ry h
 obtain ⟨rfl,q⟩:=h
 cases ry
 refine is_none_gen (za8 I q ?_)
 cases x<;>first
  |(cases rx;rfl)
  |(obtain ⟨t,rfl⟩:=rx;rfl)
theorem zj9:OpR X (compareOp .IsNot) (fun x y H Q=>y= .non∧Q (.bl (!decide (x= .non))) H):=by
 intro pins s σ H x y v u Q I rx ry h
 obtain ⟨rfl,q⟩:=h
 cases ry
 refine isnot_none_gen (za8 I q ?_)
 cases x<;>first
  |(cases rx;rfl)
  |(obtain ⟨t,rfl⟩:=rx;rfl)
theorem zat (b:Expr) {op:CmpOp} (h:op≠ .In:=by decide) (h2:op≠ .NotIn:=by decide):behindInMarks op b=false:=by
 have e1:(op==CmpOp.In)=false:=by cases op<;>first|rfl|exact absurd rfl h
 have e2:(op==CmpOp.NotIn)=false:=by cases op<;>first|rfl|exact absurd rfl h2
 cases b<;>simp [behindInMarks,e1,e2]
theorem zbT {op:CmpOp} {r:R2} (ho:OpR X (compareOp op) r) (ha:PE X a ta) (hb:PE X b tb) (hm:behindInMarks op b=false):PE X (.Compare a [op] [b] pos) (tOp r ta tb):=by
 intro pins s σ H Q I h
 exact wpAny_Compare1 (zlb ha hb I h fun v u s2 x y H2 I2 rx ry q=>ho pins s2 σ H2 x y v u Q I2 rx ry q) hm
def zbE (t:TE):TT:=fun σ H Q=>t σ H fun x H'=> ∃k,x= .bl k∧Q k H'
theorem zar {op:CmpOp} {r:R2} (ho:OpR X (compareOp op) r) (ha:PE X a ta) (hb:PE X b tb) (hm:behindInMarks op b=false):PT X (.Compare a [op] [b] pos) (zbE (tOp r ta tb)):=by
 intro pins s σ H Q I h
 refine wpAny_isTrue_Compare1 (thn (ha pins s σ H _ I h) fun v s1 ⟨x,H1,I1,r1,q1⟩=>thn (hb pins s1 σ H1 _ I1 q1) fun u s2 ⟨y,H2,I2,r2,q2⟩=>
  thn (ho pins s2 σ H2 x y v u _ I2 r1 r2 q2) fun c s3 ⟨z,H3,I3,r3,k,e,q3⟩=> ?_) hm
 subst e
 cases r3
 exact wpAny_truthy_bool ⟨H3,I3,q3⟩
def zbj (r r':R2) (ta tb tc:TE):TE:=fun σ H Q=>ta σ H fun x H1=>tb σ H1 fun y H2=>r x y H2 fun z H3=> ∃k,z= .bl k∧
 (if k=true then tc σ H3 fun w' H4=>r' y w' H4 Q else Q (.bl false) H3)
theorem zeR:(sizeLine:Nat)<2 ^ 63:=by rw [sizeLine_eq];decide
theorem zhb:OpR X (binaryOp .Add) (fun x y H Q=> ∃i j,x= .str i∧y= .str j∧i.length+j.length≤sizeLine∧Q (.str (i++j)) H):=by
 intro pins s σ H x y v u Q I rx ry h
 obtain ⟨i,j,rfl,rfl,hz,q⟩:=h
 obtain ⟨t,rfl⟩:=rx
 obtain ⟨t',rfl⟩:=ry
 exact add_str (fun t' tk=>⟨.str (i++j),H,I.tok _,⟨_,rfl⟩,q⟩) hz
theorem zcW {x:V} {us:List Value} (r:zaP [x] us): ∃u,us= [u]∧zaL x u:=by
 cases r with
 |cons r1 r2=>cases r2;exact ⟨_,rfl,r1⟩
theorem zhU {x y:V} {us:List Value} (r:zaP [x,y] us): ∃u w',us= [u,w']∧zaL x u∧zaL y w':=by
 cases r with
 |cons r1 r2=>
  cases r2 with
  |cons r3 r4=>cases r4;exact ⟨_,_,rfl,r1,r3⟩
theorem zi9:zc5 X (.builtin "abs") (fun xs H Q=> ∃i,xs= [.int i]∧Q (.int (if i<0 then -i else i)) H):=by
 intro pins s σ H xs us Q I r h
 obtain ⟨i,rfl,q⟩:=h
 obtain ⟨u,rfl,t,rfl⟩:=zcW r
 exact call_abs_int fun u tk=>⟨.int (if i<0 then -i else i),H,I.tok _,⟨_,rfl⟩,q⟩
theorem zfv (hc:X.calm=true):zc5 X (.builtin "max") (fun xs H Q=> ∃i j,xs= [.int i, .int j]∧Q (.int (if j>i then j else i)) H):=by
 intro pins s σ H xs us Q I r h
 obtain ⟨i,j,rfl,q⟩:=h
 obtain ⟨u,w',rfl,⟨t,rfl⟩,⟨t',rfl⟩⟩:=zhU r
 refine max_two_ints (I.ok.hd hc) fun h' tk k=>⟨_,H,I.kept k,?_,q⟩
 by_cases hj:j>i
 ·rw [if_pos hj,if_pos hj];exact ⟨_,rfl⟩
 ·rw [if_neg hj,if_neg hj];exact ⟨_,rfl⟩
theorem zc6 (hc:X.calm=true):zc5 X (.builtin "min") (fun xs H Q=> ∃i j,xs= [.int i, .int j]∧Q (.int (if j<i then j else i)) H):=by
 intro pins s σ H xs us Q I r h
 obtain ⟨i,j,rfl,q⟩:=h
 obtain ⟨u,w',rfl,⟨t,rfl⟩,⟨t',rfl⟩⟩:=zhU r
 refine min_two_ints (I.ok.hd hc) fun h' tk k=>⟨_,H,I.kept k,?_,q⟩
 by_cases hj:j<i
 ·rw [if_pos hj,if_pos hj];exact ⟨_,rfl⟩
 ·rw [if_neg hj,if_neg hj];exact ⟨_,rfl⟩
theorem zeq:zc5 X (.type "int") (fun xs H Q=>(∃i,xs= [.int i]∧Q (.int i) H)∨ ∃k,xs= [.bl k]∧Q (.int (if k then 1 else 0)) H):=by
 intro pins s σ H xs us Q I r h
 rcases h with ⟨i,rfl,q⟩|⟨k,rfl,q⟩
 ·obtain ⟨u,rfl,t,rfl⟩:=zcW r
  exact call_int_int ⟨.int i,H,I,⟨_,rfl⟩,q⟩
 ·obtain ⟨u,rfl,r1⟩:=zcW r
  cases r1
  exact call_int_bool ⟨.int (if k then 1 else 0),H,I.tok _,⟨_,rfl⟩,q⟩
theorem zey:zc5 X (.builtin "divmod") (fun xs H Q=> ∃i j,xs= [.int i, .int j]∧zcg i j∧ ∀p,H p=none→Q (.ref p) (upd H p (.tup [.int (i / j), .int (i % j)]))):=by
 intro pins s σ H xs us Q I r h
 obtain ⟨i,j,rfl,⟨h1,h2⟩,q⟩:=h
 obtain ⟨u,w',rfl,⟨t,rfl⟩,⟨t',rfl⟩⟩:=zhU r
 refine divmod_int (by omega) ?_ (.inl (PyProof.noPylong_small (by omega)))
 rw [Int.fdiv_eq_ediv_of_nonneg i (by omega),Int.fmod_eq_emod_of_nonneg i (by omega)]
 have hn:H s.heap.objs.size=none:=I.hok.fresh (Nat.le_refl _)
 refine ⟨.ref s.heap.objs.size,_,?_,rfl,q _ hn⟩
 refine I.laid (fun b o e=>Heap.get?_push_of_some _ e) (Nat.le_refl _) ⟨by simp only [List.length_cons,List.length_nil];rw [sizeLine_eq];decide, [.int (i / j) s.toks, .int (i % j) (s.toks+1)], .cons ⟨_,rfl⟩ (.cons ⟨_,rfl⟩ .nil),?_⟩
 exact ⟨_,Heap.get?_push_size s.heap rfl,rfl,0,rfl⟩
end
end L2
namespace L2
open PySem PySem.Spec PyProof.Rows
structure ObjM (h:Heap) (x dx C:Addr) (mA:Str→Option Value):Prop where
 obj:h.get? x=some (PySem.W.instObj C dx)
 ns:h.Ns1 dx mA
 ne:dx≠x
theorem zit {h:Heap} {dx:Addr} {mA:Str→Option Value} (n:h.Ns1 dx mA): ∃od,h.get? dx=some od∧ ∀name,PySem.W.lookIn name od=some (mA name):=by
 obtain ⟨o,es,ep,ho,hd,hk,_,hm⟩:=n
 refine ⟨o,ho,fun name=> ?_⟩
 have e:=hm name
 unfold nsFind findBy at e
 rw [←Array.find?_toList] at e
 unfold PySem.W.lookIn
 rw [hd]
 dsimp only
 split
 ·rename_i y q
  rw [q] at e
  exact congrArg some e
 ·rename_i q
  rw [q] at e
  have a:es.toList.any (·.refKey)=false:=by
   rw [List.any_eq_false]
   intro y hy
   obtain ⟨z,t,hkey⟩:=hk y (Array.mem_toList_iff.mp hy)
   simp [DictEntry.refKey,hkey]
  have a': ¬es.toList.any (·.refKey)=true:=by rw [a];exact Bool.false_ne_true
  rw [if_neg a']
  exact congrArg some e
theorem ObjM.look {h:Heap} {x dx C:Addr} {mA:Str→Option Value} (I:ObjM h x dx C mA): ∃od,PySem.W.InstAt h x (PySem.W.instObj C dx) C (some od)∧ ∀name,PySem.W.lookIn name od=some (mA name):=
 let ⟨od,ho,hl⟩:=zit I.ns
 ⟨od,⟨I.obj,rfl,rfl,ho⟩,hl⟩
section
variable {prog:Program} {w:World} {A:Around} {E:Value→Shared→Prop} {s:Shared} {K:PySem.W.Frag} {x dx C f:Addr} {mA:Str→Option Value} {name:Str} {v:Value}
end
theorem zeF.some_of {v:V} {o:Option Value} (r:zeF (some v) o): ∃u,o=some u∧zaL v u:=by
 cases o with
 |none=>exact (show False from r).elim
 |some u=>exact ⟨u,rfl,r⟩
section
variable {P:Program} {w:World} {H H':Hp} {h h':Heap} {a C dx:Addr} {fs fs':List (Str×V)}
theorem zka (hok:HOk P w H h) (e:H a=some (.ins C dx fs)): ∃mA,ObjM h a dx C mA∧(∀f,zeF (fs.lookup f) (mA f))∧PySem.Within mA (fs.map (·.1))∧fs.length≤1000∧H dx=some (.own a):=by
 obtain ⟨d,z,ne,ob,mA,n,r,q⟩:=(show zbp P w H h a (.ins C dx fs) from hok a _ e)
 exact ⟨mA,⟨ob,n,ne⟩,r,q,z,d⟩
end
structure Cls (K:PySem.W.Frag) (C:Addr):Prop where
 pg:PySem.W.plainGet K C Str.empty=true
 hd:PySem.W.hasDictIn K C=true
 po:PySem.W.plainOver K C=true
 sa:PySem.W.findIn K (.ref C) "__setattr__"=some (some (.builtin "object.__setattr__"))
theorem Cls.get {K:PySem.W.Frag} {C:Addr} (c:Cls K C) (f:Str):PySem.W.plainGet K C f=true:=c.pg
structure Con (K:PySem.W.Frag) (C:Addr) (f:Str) (v:V) (u:Value):Prop where
 at_:PySem.W.findIn K (.ref C) f=some (some u)
 rel:zaL v u
 get:PySem.W.specialIn K u "__get__"=some none
 cp:PySem.W.copiedNames.contains f=false
structure Meth (K:PySem.W.Frag) (C:Addr) (m:Str) (f:Addr):Prop where
 at_:PySem.W.findIn K (.ref C) m=some (some (.ref f))
 fn:PySem.W.isFn K (.ref f)=true
 kp:PySem.W.keepIn K (.ref f)=true
section
variable {X:Cx} {pins:List (Addr×Obj)} {σ:St} {H:Hp} {s:Shared} {a C dx:Addr} {fs:List (Str×V)} {f:Str} {v:V} {A:Around} {E:Value→Shared→Prop}
end
section
variable {X:Cx} {o e value:Expr} {f:Str} {pos pos' tpos:Pos} {ta tv:TE}
end
section
variable {X:Cx} {pins:List (Addr×Obj)} {σ:St} {H:Hp} {s:Shared} {A:Around} {E:Value→Shared→Prop} {Q:Value→Shared→Prop} {c:Value} {b:Bool}
inductive TyOf (K:PySem.W.Frag) (H:Hp):V→Value→Prop where
 |non:TyOf K H .non (.type "NoneType")
 |bl (x:Bool):TyOf K H (.bl x) (.type "bool")
 |int (i:Int):TyOf K H (.int i) (.type "int")
 |str (x:Str):TyOf K H (.str x) (.type "str")
 |flt (x:UInt64):TyOf K H (.flt x) (.type "float")
 |lst {a:Addr} {xs:List V} (e:H a=some (.lst xs)):TyOf K H (.ref a) (.type "list")
 |frz {a:Addr} {o:Obj} {xs:List V} (e:H a=some (.frz o (.lst xs))):TyOf K H (.ref a) (.type "list")
 |tup {a:Addr} {xs:List V} (e:H a=some (.tup xs)):TyOf K H (.ref a) (.type "tuple")
 |dK {a:Addr} {kvs:List (Key×V)} (e:H a=some (.dK kvs)):TyOf K H (.ref a) (.type "dict")
 |dT {a:Addr} {kvs:List (List Key×V)} (e:H a=some (.dT kvs)):TyOf K H (.ref a) (.type "dict")
 |ins {a C dx:Addr} {fs:List (Str×V)} (e:H a=some (.ins C dx fs)) (cl:Cls K C) (ha:PySem.W.findIn K (.ref C) "__class__"=some (some (.builtin "object.__class__")))
   (hn:PySem.W.specialIn K (.builtin "object.__class__") "__get__"=some (some (.builtin "getset_descriptor.__get__"))) (htk:PySem.W.takesIn K (.builtin "object.__class__")=some true)
   (hm:PySem.W.mroIn K C (.type "object")=some true):TyOf K H (.ref a) (.ref C)
theorem ziu {x:V} {u t:Value} (I:Inv X pins σ H s) (rx:zaL x u) (ty:TyOf X.K H x t) (e:PySem.W.kitOne X.K t c=some b) (h: ∀tk,Q (.bool b) {s with toks:=tk}):
  wpAny (model X.prog X.w) A (call (.builtin "isinstance") [u,c]) Q E s:=by
 cases ty with
 |non=>cases (show u=Value.none from rx);exact PySem.W.kia_one PySem.W.kitx_none I.kIn True.intro e (fun z=>nomatch z) h
 |bl y=>cases (show u=Value.bool y from rx);exact PySem.W.kia_one PySem.W.kitx_bool I.kIn True.intro e (fun z=>nomatch z) h
 |int i=>obtain ⟨t,q⟩:=(show∃t,u=Value.int i t from rx);cases q;exact PySem.W.kia_one PySem.W.kitx_int I.kIn True.intro e (fun z=>nomatch z) h
 |str y=>obtain ⟨t,q⟩:=(show∃t,u=Value.str y t from rx);cases q;exact PySem.W.kia_one PySem.W.kitx_str I.kIn True.intro e (fun z=>nomatch z) h
 |flt y=>obtain ⟨t,q⟩:=(show∃t,u=Value.float y t from rx);cases q;exact PySem.W.kia_one PySem.W.kitx_float I.kIn True.intro e (fun z=>nomatch z) h
 | @lst a xs ea=>
  cases (show u=Value.ref a from rx)
  obtain ⟨_,_,n,_,h1⟩:=(show zbp X.prog X.w H s.heap a (.lst xs) from I.hok a _ ea)
  exact PySem.W.kia_one PySem.W.kitx_list I.kIn ⟨_,h1,rfl⟩ e (fun z=>nomatch z) h
 | @frz a ob xs ea=>
  cases (show u=Value.ref a from rx)
  obtain ⟨_,_,_,n,_,h1⟩:=(show zbp X.prog X.w H s.heap a (.frz ob (.lst xs)) from I.hok a _ ea)
  exact PySem.W.kia_one PySem.W.kitx_list I.kIn ⟨_,h1,rfl⟩ e (fun z=>nomatch z) h
 | @tup a xs ea=>
  cases (show u=Value.ref a from rx)
  obtain ⟨_,_,_,p⟩:=(show zbp X.prog X.w H s.heap a (.tup xs) from I.hok a _ ea)
  obtain ⟨o,h1,h2,_⟩:=p
  exact PySem.W.kia_one PySem.W.kitx_tuple I.kIn ⟨o,h1,h2⟩ e (fun z=>nomatch z) h
 | @dK a kvs ea=>
  cases (show u=Value.ref a from rx)
  obtain ⟨_,_,vs,_,p⟩:=(show zbp X.prog X.w H s.heap a (.dK kvs) from I.hok a _ ea)
  obtain ⟨o,es,ep,h1,h2,_⟩:=p
  exact PySem.W.kia_one PySem.W.kitx_dict I.kIn ⟨o,h1,h2.1⟩ e (fun z=>nomatch z) h
 | @dT a kvs ea=>
  cases (show u=Value.ref a from rx)
  obtain ⟨_,_,xs,_,o,es,ep,h1,h2,_⟩:=(show zbp X.prog X.w H s.heap a (.dT kvs) from I.hok a _ ea)
  exact PySem.W.kia_one PySem.W.kitx_dict I.kIn ⟨o,h1,h2.1⟩ e (fun z=>nomatch z) h
 | @ins a C dx fs ea cl ha hn htk hm=>
  cases (show u=Value.ref a from rx)
  obtain ⟨mA,O,_⟩:=zka I.hok ea
  obtain ⟨od,J,_⟩:=O.look
  exact PySem.W.kia_one (PySem.W.kitx_own (cl.get _) cl.hd ha hn htk hm) I.kIn J e (fun z=>nomatch z) h
end
end L2
namespace L2
open PySem PySem.Spec PyProof.Rows
structure Room (k:Nat) (A:Around):Prop where
 hd:A.handled=none
 dp:A.depth+3*k+5<recursionLimit
 un:A.units+16*k+200<cLine
theorem Room.mono {j k:Nat} {A:Around} (r:Room k A) (h:j≤k):Room j A:=⟨r.hd,by have:=r.dp;omega,by have:=r.un;omega⟩
theorem Room.deeper {k:Nat} {A:Around} (r:Room (k+1) A) (env:Env):Room k (A.deeper env):=
 ⟨r.hd,by have:=r.dp;show A.depth+1+3*k+5<_;omega,by have:=r.un;show A.units+3+16*k+200<_;omega⟩
theorem Room.in1 {k:Nat} {A:Around} (r:Room (k+1) A):Room k A.in1:=
 ⟨r.hd,by have:=r.dp;show A.depth+3*k+5<_;omega,by have:=r.un;show A.units+1+16*k+200<_;omega⟩
theorem Room.depth {k:Nat} {A:Around} (r:Room k A):A.depth<recursionLimit:=by have:=r.dp;omega
theorem Room.units {k:Nat} {A:Around} (r:Room k A):A.units+64<cLine:=by have:=r.un;omega
def zch:TA:=fun _ H Q=>Q [] H
def zbx (ta:TE) (tr:TA):TA:=fun σ H Q=>ta σ H fun x H1=>tr σ H1 fun xs H2=>Q (x::xs) H2
section
variable {X:Cx} {e:Expr} {es:List Expr} {te:TE} {t:TA} {pos:Pos}
theorem zae:PA X [] zch:=fun _ _ _ _ H Q I h=>Calls.spliced_nil ⟨[],H,I, .nil,h⟩
theorem zaa (ha:PE X e te) (hr:PA X es t) (hs:starEach (e::es) X.env=(false,eval e X.env)::starEach es X.env:=by rfl):PA X (e::es) (zbx te t):=by
 intro pos pins s σ H Q I h
 rw [hs]
 show wpAny _ _ (spliced ((false,eval e X.env)::backTo pos (starEach es X.env))) _ _ s
 refine Calls.spliced_cons (thn (ha pins s σ H _ I h) fun u s1 ⟨x,H1,I1,r1,q1⟩=> ?_)
 exact thn (hr pos pins s1 σ H1 _ I1 q1) fun us s2 ⟨xs,H2,I2,r2,q2⟩=>⟨x::xs,H2,I2, .cons r1 r2,q2⟩
def zcp (t:TA):TE:=fun σ H Q=>t σ H fun xs H1=>xs.length≤sizeLine∧ ∀p,H1 p=none→Q (.ref p) (upd H1 p (.tup xs))
def zcs (t:TA):TE:=fun σ H Q=>t σ H fun xs H1=>xs.length≤sizeLine∧ ∀p,H1 p=none→Q (.ref p) (upd H1 p (.lst xs))
theorem zlc {x1} (h:PA X es t):PE X (.Tuple es x1 pos) (zcp t):=by
 intro pins s σ H Q I hq
 refine wpAny_Tuple_spliced (thn (h pos pins s σ H _ I hq) fun us s1 ⟨xs,H1,I1,r,z,q⟩=>⟨by rw [←r.length];exact z,?_⟩)
 have hf:H1 s1.heap.objs.size=none:=I1.hok.fresh (Nat.le_refl _)
 refine ⟨.ref s1.heap.objs.size,upd H1 s1.heap.objs.size (.tup xs),I1.laid (t':=s1.toks) (fun b u e=>Heap.get?_push_of_some _ e) (Nat.le_refl _) ?_,rfl,q _ hf⟩
 exact ⟨z,us,r,⟨_,Heap.get?_push_size _ rfl,rfl,_,rfl⟩⟩
end
abbrev Sp:=List V→Hp→VK→XK→Prop
abbrev CXT:=List Env→Hp→Shared→XK→Value→Shared→Prop
structure Env0 (P:Program) (w:World) (K:PySem.W.Frag) (mg:Str→Option Value) (base:Heap) (A:Around) (outer:List Env) (s:Shared) (H:Hp):Prop where
 frames:A.frames=some outer
 mod:Mod K mg base
 bs: ∀b o,base.get? b=some o→s.heap.get? b=some o∧H b=none
 bsz:base.objs.size≤s.heap.objs.size
 funs:s.heap.FunFrames base outer
 frf: ∀b∈frs outer,H b=none
 hok:HOk P w H s.heap
 bare:AllBare s.gens
def CE (outer:List Env) (P:Program) (w:World) (H:Hp) (s:Shared) (Q:VK) (u:Value) (s':Shared):Prop:=
 ∃v H',s'.os=s.os∧AllBare s'.gens∧Un (frs outer) [] H H' s.heap s'.heap∧HOk P w H' s'.heap∧zaL v u∧Q v H'
def CR (CX:CXT) (outer:List Env) (P:Program) (w:World) (H:Hp) (s:Shared) (Q:VK) (E:XK) (r:Result) (s':Shared):Prop:=
 match r with
 | .ok (.ret u)=>CE outer P w H s Q u s'
 | .ok _=>False
 | .error e=>CX outer H s E e s'
structure FnOk (P:Program) (w:World) (K:PySem.W.Frag) (mg:Str→Option Value) (base:Heap) (CX:CXT) (k:Nat) (f:Addr) (fd:FuncData) (ps:List Str) (sp:Sp):Prop where
 len: ∀vs H Q E,sp vs H Q E→vs.length=ps.length
 run: ∀(A:Around) (outer:List Env) (s:Shared) (H:Hp) (args:Args) (us:List Value) (vs:List V) (Q:VK) (E:XK),Room k A→Env0 P w K mg base A outer s H→BindsTo s fd args (ps.zip us)→zaP vs us→sp vs H Q E→
  codeAny (model P w) A (.call (.ref f) args) (CR CX outer P w H s Q E) s
theorem FnOk.mono {P:Program} {w:World} {K:PySem.W.Frag} {mg:Str→Option Value} {base:Heap} {CX:CXT} {j k:Nat} {f:Addr} {fd:FuncData} {ps:List Str} {sp:Sp} (F:FnOk P w K mg base CX j f fd ps sp) (h:j≤k):
  FnOk P w K mg base CX k f fd ps sp:=⟨F.len,fun A outer s H args us vs Q E hr=>F.run A outer s H args us vs Q E (hr.mono h)⟩
theorem FnOk.imp {P:Program} {w:World} {K:PySem.W.Frag} {mg:Str→Option Value} {base:Heap} {CX:CXT} {k:Nat} {f:Addr} {fd:FuncData} {ps:List Str} {sp sp':Sp} (F:FnOk P w K mg base CX k f fd ps sp)
  (h: ∀vs H Q E,sp' vs H Q E→sp vs H Q E):FnOk P w K mg base CX k f fd ps sp':=
 ⟨fun vs H Q E q=>F.len vs H Q E (h _ _ _ _ q),fun A outer s H args us vs Q E hr he hb hv hs=>F.run A outer s H args us vs Q E hr he hb hv (h _ _ _ _ hs)⟩
theorem Env0.in1 {P:Program} {w:World} {K:PySem.W.Frag} {mg:Str→Option Value} {base:Heap} {A:Around} {outer:List Env} {s:Shared} {H:Hp} (e:Env0 P w K mg base A outer s H):
  Env0 P w K mg base A.in1 outer s H:=⟨e.frames,e.mod,e.bs,e.bsz,e.funs,e.frf,e.hok,e.bare⟩
section
variable {X:Cx} {pins:List (Addr×Obj)} {σ:St} {H:Hp} {s s':Shared}
theorem Inv.env0 (I:Inv X pins σ H s):Env0 X.prog X.w X.K X.mg X.base X.A X.stack s H:=
 ⟨I.ok.frames,I.ok.mod,I.bs,Nat.le_trans I.ok.bsz I.sz,I.stack,I.stkFree,I.hok,I.bare⟩
theorem Inv.after {Q:VK} {u:Value} (I:Inv X pins σ H s) (h:CE X.stack X.prog X.w H s Q u s'):EP X pins σ Q u s':=by
 obtain ⟨v,H',os,bare,un,hok,r,q⟩:=h
 obtain ⟨hh,g,d,t,os'⟩:=s'
 obtain rfl:os'=s.os:=os
 exact ⟨v,H',I.call (h':=hh) (g':=g) (d':=d) (t':=t) (ch:= []) un hok bare (fun b z=>absurd z (by simp)),r,q⟩
end
def zaN (K:PySem.W.Frag) (fd:FuncData) (ps:List Str) (ds:List Value):Prop:=
 ∀(s:Shared) (us:List Value),K.In s.heap→(us++ds).length=ps.length→BindsTo s fd ⟨us, []⟩ (ps.zip (us++ds))
theorem zaN.all {K:PySem.W.Frag} {fd:FuncData} {ps:List Str} (h: ∀us:List Value,us.length=ps.length→bindArgs fd ⟨us, []⟩=pure (ps.zip us)):zaN K fd ps []:=fun s us _ hl=>by
 rw [List.append_nil] at hl ⊢
 exact .of_eq (h us hl)
section
variable {X:Cx} {CX:CXT} {k:Nat} {f C:Addr} {fd:FuncData} {ps:List Str} {sp:Sp} {dvs:List V} {ds:List Value} {E:XK} {x m:Str} {p pos apos:Pos} {e o:Expr} {es:List Expr} {ta:TE} {t:TA}
structure Mk (K:PySem.W.Frag) (C f:Addr):Prop where
 makes:PySem.W.makesIn K C=true
 init:PySem.W.findIn K (.ref C) "__init__"=some (some (.ref f))
 fn:PySem.W.isFn K (.ref f)=true
 kp:PySem.W.keepIn K (.ref C)=true
end
def PK (X:Cx) (kws:List Keyword) (t:TA):Prop:=
 ∀(pos:Pos) (pins:List (Addr×Obj)) (s:Shared) (σ:St) (H:Hp) (Q:List V→Hp→Prop),Inv X pins σ H s→t σ H Q→wpAny (model X.prog X.w) X.A (evalAll ((backToKw pos (keywordEach kws X.env)).map (·.2))) (AP X pins σ Q) X.xe s
section
variable {X:Cx} {CX:CXT} {k:Nat} {f C:Addr} {fd:FuncData} {ps ks:List Str} {sp:Sp} {E:XK} {x m:Str} {p pos apos kpos:Pos} {e o:Expr} {es:List Expr} {kws:List Keyword} {te ta:TE} {t tk:TA} {nm:Option Str}
theorem zja:PK X [] zch:=fun _ _ _ _ H Q I h=>wpAny_evalAll_nil ⟨[],H,I, .nil,h⟩
theorem zhV (ha:PE X e te) (hr:PK X kws t):PK X (⟨nm,e,kpos⟩::kws) (zbx te t):=by
 intro pos pins s σ H Q I h
 show wpAny _ _ (evalAll ((do let v←eval e X.env;standAt pos;pure v)::(backToKw pos (keywordEach kws X.env)).map (·.2))) _ _ s
 refine wpAny_evalAll_cons (wpAny_bind (thn (ha pins s σ H _ I h) fun u s1 ⟨x,H1,I1,r1,q1⟩=>wpAny_bind (wpAny_standAt (wpAny_pure ?_))))
 exact thn (hr pos pins s1 σ H1 _ I1 q1) fun us s2 ⟨xs,H2,I2,r2,q2⟩=>⟨x::xs,H2,I2, .cons r1 r2,q2⟩
structure KBinds (K:PySem.W.Frag) (fd:FuncData) (ps ks:List Str) (g:List Value→List Value→List Value) (gV:List V→List V→List V):Prop where
 to: ∀(s:Shared) (us ws:List Value),K.In s.heap→(g us ws).length=ps.length→BindsTo s fd ⟨us,ks.zip ws⟩ (ps.zip (g us ws))
 rel: ∀{vs:List V} {us:List Value} {zs:List V} {ws:List Value},zaP vs us→zaP zs ws→zaP (gV vs zs) (g us ws)
variable {g:List Value→List Value→List Value} {gV:List V→List V→List V}
end
structure FnScope (N P:List Str) (sc:Scope):Prop where
 kind:sc.kind= .function
 co:sc.isCoroutine=false
 gen:sc.isGenerator=false
 nd:N.Nodup
 pre:N.take P.length=P
 par: ∀x∈P,sc.names.lookup x=some .local∨sc.names.lookup x=some .cell
 nofree: ∀y∈sc.names,y.2≠ .free
theorem zfw {kindOf:Str→Option NameKind} {x:Str}: ∀{binds:List (Str×Value)} {m:Str→Option Value},(∀v,(x,v)∉binds)→bindL kindOf binds m x=m x
 | [],_,_=>rfl
 |(n,v)::r,m,h=>by
  unfold bindL
  rw [zfw fun w hw=>h w (List.mem_cons_of_mem _ hw)]
  split
  ·have:x≠n:=by rintro rfl;exact h v List.mem_cons_self
   simp [this]
  ·rfl
theorem zfx {kindOf:Str→Option NameKind} {x:Str}: ∀{binds:List (Str×Value)} {m:Str→Option Value},(∀v,(x,v)∉binds)→bindC kindOf binds m x=m x
 | [],_,_=>rfl
 |(n,v)::r,m,h=>by
  unfold bindC
  rw [zfx fun w hw=>h w (List.mem_cons_of_mem _ hw)]
  split
  ·rfl
  ·have:x≠n:=by rintro rfl;exact h v List.mem_cons_self
   simp [this]
theorem zfy {kindOf:Str→Option NameKind} {x:Str} {v:Value}: ∀{P:List Str} {vs:List Value} {i:Nat} {m:Str→Option Value},P.Nodup→P[i]? =some x→vs[i]? =some v→kindOf x=some .local→
  bindL kindOf (P.zip vs) m x=some v
 | [],_,_,_,_,h,_,_=>by simp at h
 |_::_, [],_,_,_,_,h,_=>by simp at h
 |p::P,w::vs,0,m,nd,h1,h2,hk=>by
  simp at h1 h2;subst h1;subst h2
  show bindL kindOf ((p,w)::P.zip vs) m p=_
  unfold bindL
  rw [zfw fun v hv=>(List.nodup_cons.mp nd).1 (List.of_mem_zip hv).1,if_pos hk]
  simp
 |p::P,w::vs,i+1,m,nd,h1,h2,hk=>by
  show bindL kindOf ((p,w)::P.zip vs) m x=_
  unfold bindL
  exact zfy (i:=i) (List.nodup_cons.mp nd).2 (by simpa using h1) (by simpa using h2) hk
theorem zfz {kindOf:Str→Option NameKind} {x:Str} {v:Value}: ∀{P:List Str} {vs:List Value} {i:Nat} {m:Str→Option Value},P.Nodup→P[i]? =some x→vs[i]? =some v→kindOf x≠some .local→
  bindC kindOf (P.zip vs) m x=some v
 | [],_,_,_,_,h,_,_=>by simp at h
 |_::_, [],_,_,_,_,h,_=>by simp at h
 |p::P,w::vs,0,m,nd,h1,h2,hk=>by
  simp at h1 h2;subst h1;subst h2
  show bindC kindOf ((p,w)::P.zip vs) m p=_
  unfold bindC
  rw [zfx fun v hv=>(List.nodup_cons.mp nd).1 (List.of_mem_zip hv).1,if_neg hk]
  simp
 |p::P,w::vs,i+1,m,nd,h1,h2,hk=>by
  show bindC kindOf ((p,w)::P.zip vs) m x=_
  unfold bindC
  exact zfz (i:=i) (List.nodup_cons.mp nd).2 (by simpa using h1) (by simpa using h2) hk
def start (N:List Str) (vs:List V):St:=vs.map some++List.replicate (N.length - vs.length) none
def zdu (CX:CXT) (P:Program) (w:World) (K:PySem.W.Frag) (mg:Str→Option Value) (base:Heap) (N:List Str) (qual:Str) (scope:Scope) (f:Addr) (cd:Value) (A:Around) (outer:List Env) (s:Shared) (H:Hp) (E:XK):Cx where
 prog:=P
 w:=w
 K:=K
 mg:=mg
 base:=base
 A:=A.deeper (envOfC qual scope s.heap.objs.size f cd)
 N:=N
 s₀:=s
 H₀:=H
 env:=envOfC qual scope s.heap.objs.size f cd
 outer:=outer
 stack:=envOfC qual scope s.heap.objs.size f cd::outer
 ex:= []
 calm:=true
 fn:=fun _=>true
 pn:= []
 xe:=fun e s'=>wpAny (model P w) (A.deeper (envOfC qual scope s.heap.objs.size f cd)) (leaving (envOfC qual scope s.heap.objs.size f cd) e) (fun _ s''=>CX outer H s E e s'') (fun e' s''=>CX outer H s E e' s'') s'
theorem zgA {sc:Scope} {n:Nat} {x:Str} (h:sc.names.lookup x=some .cell): ∃c,(cellsFrom n sc.names []).lookup x=some c:=by
 have q:=PySem.W.cellsFrom_some sc.names n [] (.inl h)
 exact Option.isSome_iff_exists.mp q
theorem zfA {CX:CXT} {P:Program} {w:World} {K:PySem.W.Frag} {mg:Str→Option Value} {base:Heap} {N ps:List Str} {qual:Str} {scope:Scope} {f:Addr} {cd:Value} {A:Around} {outer:List Env} {s s1:Shared} {H:Hp} {E:XK} {us:List Value} {vs:List V}
  (S:FnScope N ps scope) (hd:A.handled=none) (e0:Env0 P w K mg base A outer s H) (hl:vs.length=ps.length) (r:zaP vs us)
  (x:InCallC s s.heap.objs.size (bindL (envOfC qual scope s.heap.objs.size f cd).kindOf (ps.zip us) fun _=>none) (cellsFrom (s.heap.objs.size+1) scope.names []) (bindC (envOfC qual scope s.heap.objs.size f cd).kindOf (ps.zip us) fun _=>none) s1):
  Inv (zdu CX P w K mg base N qual scope f cd A outer s H E) [] (start N vs) H s1:=by
 have hpl:ps.length≤N.length:=by have:=congrArg List.length S.pre;rw [List.length_take] at this;omega
 obtain ⟨h1,tk,rfl,hk⟩:=x.done
 have noA: ∀b:Addr,b∉(zdu CX P w K mg base N qual scope f cd A outer s H E).ex:=fun b z=>absurd (show b∈([]:List Addr) from z) (by simp)
 refine ⟨⟨e0.mod,S.kind,rfl,rfl,Nat.le_refl _,fun y z c h1 h2=> ?_,fun y hy=> ?_,fun y c _ h=> ?_,fun _=>hd,Around.frames_deeper e0.frames, .inr ⟨rfl,rfl⟩,fun b z=>absurd z (noA b),e0.bs,e0.bsz,fun b _ _=>noA b,fun b z=>absurd z (noA b),e0.funs,e0.frf⟩,
  rfl,e0.bare,Un.kept hk,⟨_,x.toInCall.ns,fun i y v h1 h2 h3=> ?_⟩,fun y c h=>⟨_,x.cell y c h⟩,e0.hok.fresh (Nat.le_refl _),fun y c h=> ?_,fun p hp=>absurd (show p∈([]:List (Addr×Obj)) from hp) (by simp),e0.hok.kept hk,?_⟩
 ·exact name_of_addr x.apart (PySem.mem_of_lookup h1) (PySem.mem_of_lookup h2)
 ·have hy:scope.names.lookup y=some .cell∨scope.names.lookup y=some .free:=hy
  rcases hy with hy|hy
  ·exact zgA hy
  ·exact absurd rfl (S.nofree _ (PySem.mem_of_lookup hy))
 ·exact Nat.le_of_lt (x.above y c (PySem.mem_of_lookup h))
 ·have hi:i<vs.length:=by
   unfold start at h2
   by_cases hi:i<vs.length
   ·exact hi
   ·rw [List.getElem?_append_right (by simpa using hi)] at h2
    rw [List.getElem?_replicate] at h2
    split at h2<;>cases h2
  have ha:vs[i]? =some v:=by
   unfold start at h2
   rw [List.getElem?_append_left (by simpa using hi),List.getElem?_map] at h2
   cases e:vs[i]? with
   |none=>rw [e] at h2;cases h2
   |some a=>rw [e] at h2;cases h2;rfl
  obtain ⟨u,hu,rv⟩:=r.get ha
  have hp:ps[i]? =some y:=by
   rw [←S.pre,List.getElem?_take_of_lt (by omega)];exact h1
  have ndP:ps.Nodup:=by rw [←S.pre];exact S.nd.sublist (List.take_sublist _ _)
  refine ⟨u,rv,?_⟩
  rcases S.par y (List.mem_of_getElem? hp) with k|k
  ·exact .inl ⟨k,zfy ndP hp hu k⟩
  ·obtain ⟨c,e⟩:=zgA (n:=s.heap.objs.size+1) k
   refine .inr ⟨.inl k,c,e,?_⟩
   have q:=x.cell y c e
   rw [zfz ndP hp hu (by show scope.names.lookup y≠_;rw [k];decide)] at q
   exact q
 ·exact e0.hok.fresh (Nat.le_of_lt (x.above y c (PySem.mem_of_lookup h)))
 ·unfold start
  show _=N.length
  rw [List.length_append,List.length_map,List.length_replicate]
  omega
theorem zkS {CX:CXT} {P:Program} {w:World} {K:PySem.W.Frag} {mg:Str→Option Value} {base:Heap} {k:Nat} {f:Addr} {name qual:Str} {params:Arguments} {body:List Stmt} {scope:Scope} {dV kV doc pm cdv ct oc:Value} {an od:Option Addr}
  {osl:Array (Option Value)} {N ps:List Str} {sp:Sp} (lk:K.lookup f=some ⟨oc,od, .func (PySem.W.fnOf name qual params body scope dV kV doc pm an cdv ct),osl⟩) (hcd:PySem.W.codeIn K cdv qual=true) (S:FnScope N ps scope)
  (len: ∀vs H Q E,sp vs H Q E→vs.length=ps.length)
  (hbody: ∀(A:Around) (outer:List Env) (s:Shared) (H:Hp) (vs:List V) (Q:VK) (E:XK),Room k (A.deeper (envOfC qual scope s.heap.objs.size f cdv))→sp vs H Q E→
   ∃t,PSs (zdu CX P w K mg base N qual scope f cdv A outer s H E) body t∧t {nx:=fun _ H'=>Q .non H',rt:=Q} (start N vs) H):
  FnOk P w K mg base CX (k+1) f (PySem.W.fnOf name qual params body scope dV kV doc pm an cdv ct) ps sp:=by
 refine ⟨len,fun A outer s H args us vs Q E hr e0 hb r hsp=> ?_⟩
 have hl:=len _ _ _ _ hsp
 have KX:K.In s.heap:=e0.mod.kin.keeps fun b o e=>(e0.bs b o e).1
 have lim:s.heap.NoLimit:=e0.mod.nolimit.keeps fun b o e=>(e0.bs b o e).1
 have hkind: ∀y∈ps.zip us,scope.names.lookup y.1=some .local∨(scope.names.lookup y.1=some .cell∧((cellsFrom (s.heap.objs.size+1) scope.names []).lookup y.1).isSome=true):=fun ⟨n,v⟩ hy=>by
  rcases S.par n (List.of_mem_zip hy).1 with q|q
  ·exact .inl q
  ·exact .inr ⟨q,PySem.W.cellsFrom_some _ _ _ (.inl q)⟩
 refine codeAny_call_function hr.depth (KX _ _ lk) rfl S.co S.gen rfl (PySem.W.codeRec_of KX hcd) (hb _ _ _ _ ?_)
 refine wpAny_newFunctionEnv_cells S.kind hkind fun env he s1 x=> ?_
 subst he
 refine ⟨lim.keeps x.toInCall.keep,codeAny_func ?_⟩
 obtain ⟨t,ht,hq⟩:=hbody A outer s H vs Q E (hr.deeper _) hsp
 have I:Inv (zdu CX P w K mg base N qual scope f cdv A outer s H E) [] (start N vs) H s1:=zfA S hr.hd e0 hl r x
 refine wpAny_mono (ht [] s1 (start N vs) H _ I hq) (fun fl s' hs=> ?_) fun e s' hs=>hs
 have fin: ∀{σ':St} {H':Hp} {v:V} {u:Value},Inv (zdu CX P w K mg base N qual scope f cdv A outer s H E) [] σ' H' s'→zaL v u→Q v H'→CE outer P w H s Q u s':=
  fun {σ' H' v u} J rv q=>⟨v,H',J.os,J.bare,J.base,J.hok,rv,q⟩
 cases fl with
 |ret u=>
  obtain ⟨v,σ',H',J,rv,q⟩:=hs
  exact fin J rv q
 |next=>
  obtain ⟨σ',H',J,q⟩:=hs
  exact fin (v:=V.non) (u:=Value.none) J rfl q
 |brk=>
  obtain ⟨_,_,_,q⟩:=hs
  exact False.elim q
 |cont=>
  obtain ⟨_,_,_,q⟩:=hs
  exact False.elim q
end L2
namespace L2
open PySem PySem.Spec PyProof.Rows
section
variable {X:Cx} {x:Str} {p pos:Pos} {e:Expr} {es:List Expr} {t:TA} {id T:String} {r:List V→Hp→VK→Prop}
def tCB (r:List V→Hp→VK→Prop) (t:TA):TE:=fun σ H Q=>t σ H fun vs H1=>r vs H1 Q
theorem zaF (hc:zc5 X (.builtin id) r) (hg:Gl X x) (hm:X.mg x=none) (hv:bootBuiltins x=some (.builtin id)) (ha:PA X (e::es) t) (hn:x≠"__name__":=by decide) (hdb:(x==("__debug__":Str))=false:=by decide)
  (he:starEach (e::es) X.env=(false,eval e X.env)::starEach es X.env:=by rfl) (hpl:(backTo pos (starEach es X.env)).any (·.1)=false:=by rfl):PE X (.Call (.Name x p) (e::es) [] pos) (tCB r t):=by
 intro pins s σ H Q I h
 refine wpAny_Call_Name_kw (zdi I hg hm hv ?_ hn hdb)
 exact PyProof.Rows.callWith_builtin1 (thn (ha pos pins s σ H _ I h) fun us s1 ⟨vs,H1,I1,r1,q1⟩=>hc pins s1 σ H1 vs us Q I1 r1 q1) he hpl
theorem zer (hc:zc5 X (.type T) r) (hg:Gl X x) (hm:X.mg x=none) (hv:bootBuiltins x=some (.type T)) (ha:PA X (e::es) t) (hn:x≠"__name__":=by decide) (hdb:(x==("__debug__":Str))=false:=by decide)
  (he:starEach (e::es) X.env=(false,eval e X.env)::starEach es X.env:=by rfl) (hpl:(backTo pos (starEach es X.env)).any (·.1)=false:=by rfl):PE X (.Call (.Name x p) (e::es) [] pos) (tCB r t):=by
 intro pins s σ H Q I h
 refine wpAny_Call_Name_kw (zdi I hg hm hv ?_ hn hdb)
 exact PyProof.Rows.callWith_type1 (thn (ha pos pins s σ H _ I h) fun us s1 ⟨vs,H1,I1,r1,q1⟩=>hc pins s1 σ H1 vs us Q I1 r1 q1) he hpl
end
end L2
namespace HT
open PySem PyProof.Rows
section
open PySem.SeqAt
open PySem.AutoSeq1 (wpAny_loadPart')
open PySem.MeetsSeq PySem.MeetsSeq2 PySem.MeetsSeq3
end
section
variable {prog:Program} {w:World} {A:Around} {E:Value→Shared→Prop} {s:Shared}
def sIx (n d:Nat):Option Int→Nat
 |none=>d
 |some v=>if v<0 then (v+(n:Int)).toNat else min v.toNat n
theorem sIx_none (n d:Nat):sIx n d none=d:=rfl
theorem sIx_nat (n d k:Nat):sIx n d (some (k:Int))=min k n:=by
 show (if (k:Int)<0 then ((k:Int)+(n:Int)).toNat else min (k:Int).toNat n)=min k n
 rw [if_neg (by omega),Int.toNat_natCast]
theorem zld (n d:Nat) (hd:d≤n) (o:Option Int):sIx n d o≤n:=by
 cases o with
 |none=>exact hd
 |some v=>
  show (if v<0 then (v+(n:Int)).toNat else min v.toNat n)≤n
  by_cases hv:v<0
  ·rw [if_pos hv];omega
  ·rw [if_neg hv];exact Nat.min_le_right _ _
theorem zhW (v:Int) (n d:Nat):(if v<0 then max (v+(n:Int)) 0 else min v (n:Int))=((sIx n d (some v):Nat):Int):=by
 show (if v<0 then max (v+(n:Int)) 0 else min v (n:Int))=(((if v<0 then (v+(n:Int)).toNat else min v.toNat n):Nat):Int)
 by_cases hv:v<0
 ·simp only [if_pos hv];omega
 ·simp only [if_neg hv];omega
theorem zhc (lo hi:Option Int) (n:Nat):Builtin.Slice.sliceAdjust lo hi 1 (n:Int)=(((sIx n 0 lo:Nat):Int),((sIx n n hi:Nat):Int)):=by
 have h1: ¬((1:Int)<0):=by omega
 unfold Builtin.Slice.sliceAdjust
 simp only [h1,if_false]
 refine Prod.ext ?_ ?_
 ·cases lo with
  |none=>rfl
  |some v=>exact zhW v n 0
 ·cases hi with
  |none=>rfl
  |some v=>exact zhW v n n
theorem zhd (i j:Nat):Builtin.Slice.slicePlaces (i:Int) (j:Int) 1=j - i:=by
 unfold Builtin.Slice.slicePlaces
 have h1:(1:Int)>0:=by omega
 simp only [h1,if_true,Int.ediv_one]
 split<;>omega
theorem zeS {v:Value} {o:Option Int} {Q:Option Int→Shared→Prop} (p:IsPart v o) (h:Q o s):wpAny (model prog w) A (Builtin.Slice.slicePartIndex v) Q E s:=by
 cases p with
 |none=>exact slicePart_none h
 |int i t=>exact slicePart_int h
theorem zes {sl:Addr} {vl vu:Value} {lo hi:Option Int} {n:Nat} {Q:Int×Int×Nat→Shared→Prop} (hs:s.heap.IsSliceOf sl vl vu .none) (pl:IsPart vl lo) (pu:IsPart vu hi)
  (h:Q (((sIx n 0 lo:Nat):Int),1,sIx n n hi - sIx n 0 lo) s):wpAny (model prog w) A (Builtin.Slice.sliceApplied (.ref sl) (pure (n:Int))) Q E s:=by
 obtain ⟨os,hos,hcs,hds⟩:=id hs
 unfold Builtin.Slice.sliceApplied Builtin.Slice.sliceFields
 refine wpAny_bind (wpAny_bind (wpAny_field hos hds (x:=vl) rfl (wpAny_bind (wpAny_field hos hds (x:=vu) rfl (wpAny_bind (wpAny_field hos hds (x:= .none) rfl (wpAny_pure ?_)))))))
 refine wpAny_bind (slicePart_none ?_)
 show wpAny _ _ (if ((1:Int)==0)=true then _ else _) _ _ s
 rw [if_neg (by decide)]
 refine wpAny_bind (zeS pl (wpAny_bind (zeS pu (wpAny_bind (wpAny_pure ?_)))))
 show wpAny _ _ (match Builtin.Slice.sliceAdjust lo hi 1 (n:Int) with|(lo,hi)=>pure (lo,(1:Int),Builtin.Slice.slicePlaces lo hi 1)) _ _ s
 rw [zhc lo hi n]
 show wpAny _ _ (pure (((sIx n 0 lo:Nat):Int),(1:Int),Builtin.Slice.slicePlaces ((sIx n 0 lo:Nat):Int) ((sIx n n hi:Nat):Int) 1)) _ _ s
 rw [zhd]
 exact wpAny_pure h
theorem zjb (xs:Array Value) (i k:Nat):((List.range k).filterMap fun (m:Nat)=>xs[((i:Int)+(m:Int)*1).toNat]?).toArray=((xs.toList.drop i).take k).toArray:=by
 have e:(fun (m:Nat)=>xs[((i:Int)+(m:Int)*1).toNat]?)=fun m=>xs[i+m]? :=by
  funext m
  have:((i:Int)+(m:Int)*1).toNat=i+m:=by omega
  rw [this]
 rw [e]
 have:=pick_run xs i k
 rw [List.filterMap_map] at this
 have e2:((fun x=>xs[x]?) ∘ fun x=>i+x)=fun m=>xs[i+m]? :=rfl
 rw [e2] at this
 rw [this]
theorem getItem_tuple_cut {t sl:Addr} {items:Array Value} {vl vu:Value} {lo hi:Option Int} {Q:Value→Shared→Prop} (ht:IsTup s.heap t items) (hs:s.heap.IsSliceOf sl vl vu .none) (pl:IsPart vl lo) (pu:IsPart vu hi)
  (hw: ¬(sIx items.size 0 lo=0∧sIx items.size items.size hi=items.size))
  (h:Q (.ref s.heap.objs.size) {s with heap:=s.heap.push {cls:= .type "tuple",data:= .seq ((items.toList.drop (sIx items.size 0 lo)).take (sIx items.size items.size hi - sIx items.size 0 lo)).toArray} })
  (hsz:items.size≤sizeLine):wpAny (model prog w) A (getItem (.ref t) (.ref sl)) Q E s:=by
 have htake:sizeOk (.seq ((items.toList.drop (sIx items.size 0 lo)).take (sIx items.size items.size hi - sIx items.size 0 lo)).toArray):=by
  show ((items.toList.drop (sIx items.size 0 lo)).take (sIx items.size items.size hi - sIx items.size 0 lo)).toArray.size≤sizeLine
  rw [List.size_toArray,List.length_take,List.length_drop,Array.length_toList]
  omega
 have hj:sIx items.size items.size hi≤items.size:=zld _ _ (Nat.le_refl _) hi
 obtain ⟨os,hos,hcs,hds⟩:=id hs
 have hTs:s.TypeIs (.ref sl) "slice":=⟨os,hos,hcs⟩
 unfold getItem
 try with_reducible refine wpAny_holding ?_
 first|refine wpAny_bind (wpAny_pure ?_)|skip
 refine wpAny_bind (wpAny_sequenceKey ht.typeIs (by decide) ?_)
 refine wpAny_bind (wpAny_callSpecial?_slot (name:=Str.ofString "__getitem__") ht.typeIs PyProof.Rows.slot_tuple_getitem
  (wpAny_call_entry PyProof.Rows.slot_tuple_getitem ht.typeIs entry_tuple_getitem ?_ (args_tuple_getitem _ _)))
 show wpAny _ _ (Builtin.Tuple.tupleItemsOf (.ref t)>>=_) _ _ s
 refine wpAny_bind (tupleItemsOf_ ht ?_)
 refine wpAny_bind (wpAny_typeOf hTs ?_)
 rw [if_pos (by decide)]
 refine wpAny_bind (zes hs pl pu ?_)
 have hno: ¬((((sIx items.size 0 lo:Nat):Int)==0 && (1:Int)==1 && (sIx items.size items.size hi - sIx items.size 0 lo)==items.size)=true):=by
  intro q
  rw [Bool.and_eq_true,Bool.and_eq_true] at q
  have q1:((sIx items.size 0 lo:Nat):Int)=0:=eq_of_beq q.1.1
  have q2:sIx items.size items.size hi - sIx items.size 0 lo=items.size:=eq_of_beq q.2
  exact hw ⟨by omega,by omega⟩
 show wpAny _ _ (if (((sIx items.size 0 lo:Nat):Int)==0 && (1:Int)==1 && (sIx items.size items.size hi - sIx items.size 0 lo)==items.size)=true then _ else _) _ _ s
 rw [if_neg hno,zjb]
 first
  |exact wpAny_bind (m:=Builtin.Tuple.tupleExact _) (wpAny_newObj_type (wpAny_pure ⟨_,rfl,wpAny_pure h⟩) htake)
  |exact wpAny_bind (m:=Builtin.Tuple.tupleExact _) (wpAny_newObj_type (wpAny_bind (wpAny_pure (wpAny_pure ⟨_,rfl,wpAny_pure h⟩))) htake)
  |exact wpAny_bind (wpAny_bind (m:=Builtin.Tuple.tupleExact _) (wpAny_newObj_type (wpAny_pure (wpAny_pure ⟨_,rfl,wpAny_pure h⟩)) htake))
  |exact wpAny_bind (wpAny_bind (m:=Builtin.Tuple.tupleExact _) (wpAny_newObj_type (wpAny_pure ⟨_,rfl,wpAny_pure h⟩) htake))
end
end HT
namespace L2
open PySem PySem.Spec PyProof.Rows
abbrev TO:=St→Hp→(Option Int→Hp→Prop)→Prop
def PO (X:Cx) (e:Option Expr) (t:TO):Prop:=
 ∀(pins:List (Addr×Obj)) (s:Shared) (σ:St) (H:Hp) (Q:Option Int→Hp→Prop),Inv X pins σ H s→t σ H Q→
  wpAny (model X.prog X.w) X.A (evalPart e X.env) (fun u s'=> ∃o H',Inv X pins σ H' s'∧IsPart u o∧Q o H') X.xe s
def zaR:TO:=fun _ H Q=>Q none H
def zbF (t:TE):TO:=fun σ H Q=>t σ H fun x H1=> ∃i,x= .int i∧Q (some i) H1
section
variable {X:Cx} {e:Expr} {te:TE} {lo hi:Option Expr} {tl th:TO} {pos p2:Pos}
theorem zhX:PO X none zaR:=by
 intro pins s σ H Q I h
 rw [evalPart_none]
 exact wpAny_pure ⟨none,H,I, .none,h⟩
theorem zhY (h:PE X e te):PO X (some e) (zbF te):=by
 intro pins s σ H Q I hw
 rw [evalPart_some]
 refine thn (h pins s σ H _ I hw) fun u s1 ⟨x,H1,I1,r1,q1⟩=> ?_
 obtain ⟨i,rfl,q⟩:=q1
 obtain ⟨t,rfl⟩:=r1
 exact ⟨some i,H1,I1, .int i t,q⟩
def SlR (X:Cx) (r:V→Option Int→Option Int→Hp→VK→Prop):Prop:=
 ∀(pins:List (Addr×Obj)) (s:Shared) (σ:St) (H:Hp) (x:V) (v vl vu:Value) (lo hi:Option Int) (sl:Addr) (Q:VK),Inv X pins σ H s→zaL x v→s.heap.IsSliceOf sl vl vu .none→IsPart vl lo→IsPart vu hi→r x lo hi H Q→
  ∃T id,typeLookup (.type T) "__getitem__"=pure (some (.builtin id))∧s.TypeIs v T∧wpAny (model X.prog X.w) X.A (getItem v (.ref sl)) (EP X pins σ Q) X.xe s
def tSl (r:V→Option Int→Option Int→Hp→VK→Prop) (te:TE) (tl th:TO):TE:=fun σ H Q=>te σ H fun x H1=>tl σ H1 fun l H2=>th σ H2 fun u H3=>r x l u H3 Q
theorem zgB {r:V→Option Int→Option Int→Hp→VK→Prop} (hr:SlR X r) (he:PE X e te) (hl:PO X lo tl) (hu:PO X hi th):PE X (.Subscript e (.Slice lo hi none p2) pos) (tSl r te tl th):=by
 intro pins s σ H Q I h
 refine Subscript_ (thn (he pins s σ H _ I h) fun v s1 ⟨x,H1,I1,r1,q1⟩=> ?_)
 refine wpAny_Slice (thn (hl pins s1 σ H1 _ I1 q1) fun vl s2 ⟨l,H2,I2,pl,q2⟩=>thn (hu pins s2 σ H2 _ I2 q2) fun vu s3 ⟨u,H3,I3,pu,q3⟩=> ?_)
 rw [evalPart_none]
 refine wpAny_pure ?_
 have I4:Inv X pins σ H3 {s3 with heap:=s3.heap.push {cls:= .type "slice",data:= .fields #[vl,vu, .none]} }:=I3.kept (t':=s3.toks) fun b ob q=>Heap.get?_push_of_some _ q
 obtain ⟨T,id,hT,ht,hg⟩:=hr pins {s3 with heap:=s3.heap.push {cls:= .type "slice",data:= .fields #[vl,vu, .none]} } σ H3 x v vl vu l u s3.heap.objs.size Q I4 r1 (Heap.IsSliceOf.new ..) pl pu q3
 show wpAny (model X.prog X.w) X.A (subscriptTail e (.Slice lo hi none p2) v (.ref s3.heap.objs.size)) (EP X pins σ Q) X.xe {s3 with heap:=s3.heap.push {cls:= .type "slice",data:= .fields #[vl,vu, .none]} }
 exact tail_any (ops:= [.ref s3.heap.objs.size,v]) ht hT hg (by with_unfolding_all rfl)
def zfm (xs:List V) (lo hi:Option Int):List V:=(xs.drop (HT.sIx xs.length 0 lo)).take (HT.sIx xs.length xs.length hi - HT.sIx xs.length 0 lo)
theorem zez (xs:List V) (lo hi:Option Int):(zfm xs lo hi).length≤xs.length:=by
 unfold zfm
 rw [List.length_take,List.length_drop]
 omega
def rSlT (K:PySem.W.Frag):V→Option Int→Option Int→Hp→VK→Prop:=fun x lo hi H Q=> ∃a xs,x= .ref a∧SqT K H a xs∧
 ¬(HT.sIx xs.length 0 lo=0∧HT.sIx xs.length xs.length hi=xs.length)∧ ∀p,H p=none→Q (.ref p) (upd H p (.tup (zfm xs lo hi)))
theorem sl_tup:SlR X (rSlT X.K):=by
 intro pins s σ H x v vl vu lo hi sl Q I rx hs pl pu h
 obtain ⟨a,xs,rfl,hx,hw,q⟩:=h
 cases rx
 obtain ⟨its,r,ht,hz⟩:=I.tuple hx
 have hlen:its.toArray.size=xs.length:=by rw [List.size_toArray];exact r.length.symm
 refine ⟨"tuple",_,PyProof.Rows.slot_tuple_getitem.lookup,ht.typeIs,?_⟩
 refine HT.getItem_tuple_cut ht hs pl pu (by rw [hlen];exact hw) ?_ (by rw [hlen];exact hz)
 rw [hlen]
 refine ⟨.ref s.heap.objs.size,_,I.laid (t':=s.toks) (o:= .tup (zfm xs lo hi)) (fun b ob q=>Heap.get?_push_of_some _ q) (Nat.le_refl _) ?_,rfl,q _ (I.hok.fresh (Nat.le_refl _))⟩
 exact ⟨Nat.le_trans (zez xs lo hi) hz,_,(r.drop (HT.sIx xs.length 0 lo)).take (HT.sIx xs.length xs.length hi - HT.sIx xs.length 0 lo),IsTup.new _ _⟩
end
end L2
namespace L2
open PySem PySem.Spec PyProof.Rows
def ixN (n:Nat) (i:Int):Option Nat:=if 0≤i then (if i<n then some i.toNat else none) else if -(n:Int)≤i then some (i+n).toNat else none
def atI {α:Type} (xs:List α) (i:Int):Option α:=(ixN xs.length i).bind fun j=>xs[j]?
theorem zhZ {n:Nat} {i:Int} {j:Nat} (h:ixN n i=some j):seqIndex? i n=some j∧j<n∧ -(n:Int)≤i∧i<n:=by
 unfold ixN at h
 by_cases h0:0≤i
 ·rw [if_pos h0] at h
  by_cases h1:i<n
  ·rw [if_pos h1] at h
   have e:i.toNat=j:=Option.some.inj h
   exact ⟨by rw [seqIndex_of h0 h1,e],by omega,by omega,h1⟩
  ·rw [if_neg h1] at h;cases h
 ·rw [if_neg h0] at h
  by_cases h1: -(n:Int)≤i
  ·rw [if_pos h1] at h
   have e:(i+n).toNat=j:=Option.some.inj h
   exact ⟨by rw [seqIndex_neg (by omega) h1,e],by omega,h1,by omega⟩
  ·rw [if_neg h1] at h;cases h
theorem zf3 {α:Type} {xs:List α} {i:Int} {v:α} (h:atI xs i=some v): ∃j,seqIndex? i xs.length=some j∧xs[j]? =some v∧j<xs.length∧ -(xs.length:Int)≤i∧i<xs.length:=by
 unfold atI at h
 cases e:ixN xs.length i with
 |none=>rw [e] at h;cases h
 |some j=>
  rw [e] at h
  obtain ⟨h1,h2,h3,h4⟩:=zhZ e
  exact ⟨j,h1,h,h2,h3,h4⟩
theorem zbw {α:Type} {xs:List α} {j:Nat} {v:α} (h:xs[j]? =some v):atI xs (j:Int)=some v:=by
 have hj:j<xs.length:=(List.getElem?_eq_some_iff.mp h).1
 have e:ixN xs.length (j:Int)=some j:=by
  unfold ixN
  rw [if_pos (by omega),if_pos (by omega)];simp
 unfold atI;rw [e];exact h
def zkb (b:Expr):Prop:= ∀o i,subscripted b false o i=operate [o,i] (getItem o i)
def IxR (X:Cx) (r:R2):Prop:=
 ∀(value slice:Expr) (pins:List (Addr×Obj)) (s:Shared) (σ:St) (H:Hp) (x y:V) (v u:Value) (Q:VK),Inv X pins σ H s→zaL x v→zaL y u→r x y H Q→
  subscripted slice false v u=operate [v,u] (getItem v u)→wpAny (model X.prog X.w) X.A (subscriptTail value slice v u) (EP X pins σ Q) X.xe s
def MtR (X:Cx) (id:String) (r:V→List V→Hp→VK→Prop):Prop:=
 ∀(pins:List (Addr×Obj)) (s:Shared) (σ:St) (H:Hp) (x:V) (xs:List V) (v:Value) (us:List Value) (Q:VK),Inv X pins σ H s→zaL x v→zaP xs us→r x xs H Q→
  wpAny (model X.prog X.w) X.A (call (.builtin id) (v::us)) (EP X pins σ Q) X.xe s
section
variable {X:Cx} {a b:Expr} {ta tb:TE} {pos:Pos}
theorem IxR.or {r r':R2} (h:IxR X r) (h':IxR X r'):IxR X (fun x y H Q=>r x y H Q∨r' x y H Q):=by
 intro value slice pins s σ H x y v u Q I rx ry q hs
 rcases q with q|q
 ·exact h value slice pins s σ H x y v u Q I rx ry q hs
 ·exact h' value slice pins s σ H x y v u Q I rx ry q hs
theorem zaq {r:R2} (hr:IxR X r) (ha:PE X a ta) (hb:PE X b tb) (hs:zkb b):PE X (.Subscript a b pos) (tOp r ta tb):=by
 intro pins s σ H Q I h
 exact Subscript_ (zlb ha hb I h fun v u s2 x y H2 I2 rx ry q=>hr a b pins s2 σ H2 x y v u Q I2 rx ry q (hs _ _))
def ziv (K:PySem.W.Frag):R2:=fun x y H Q=> ∃p xs i v,x= .ref p∧y= .int i∧SqL K H p xs∧atI xs i=some v∧Q v H
def zgC (K:PySem.W.Frag):R2:=fun x y H Q=> ∃p xs i v,x= .ref p∧y= .int i∧SqT K H p xs∧atI xs i=some v∧Q v H
def zlR:R2:=fun x y H Q=> ∃z i c,x= .str z∧y= .int i∧z.length≤sizeLine∧atI z.cps.toList i=some c∧Q (.str ⟨#[c]⟩) H
theorem zaI:IxR X (ziv X.K):=by
 intro value slice pins s σ H x y v u Q I rx ry h hs
 obtain ⟨p,xs,i,z,rfl,rfl,hq,he,q⟩:=h
 cases rx
 obtain ⟨t,rfl⟩:=ry
 obtain ⟨its,r,pl,hz⟩:=I.list hq
 obtain ⟨j,h1,h2,h3,h4,h5⟩:=zf3 he
 obtain ⟨w,ew,rw'⟩:=r.get h2
 have hl:=r.length
 have hn:=zeR
 have fin:EP X pins σ Q w s:=⟨z,H,I,rw',q⟩
 by_cases h0:0≤i
 ·have hj:i.toNat=j:=by
   rw [seqIndex_of h0 h5] at h1
   exact Option.some.inj h1
  exact item_listR pl.isList h0 (by omega) (by rw [hj];simpa using ew) fin hs
 ·have hj:(i+(its.toArray.size:Int)).toNat=j:=by
   rw [seqIndex_neg (by omega) h4] at h1
   rw [List.size_toArray,←hl]
   exact Option.some.inj h1
  exact subscriptTail_builtinR (x:=w) pl.isList.typeIs slot_list_getitem.lookup
   (wpAny_getItem_list_neg (Q:=fun r s'=>r=w∧EP X pins σ Q r s') pl.isList (by omega) (by rw [List.size_toArray]<;>omega) (by omega) (by rw [hj];simpa using ew) ⟨rfl,fin⟩) hs
theorem zas:IxR X (zgC X.K):=by
 intro value slice pins s σ H x y v u Q I rx ry h hs
 obtain ⟨p,xs,i,z,rfl,rfl,hq,he,q⟩:=h
 cases rx
 obtain ⟨t,rfl⟩:=ry
 obtain ⟨its,r,pl,hz⟩:=I.tuple hq
 obtain ⟨j,h1,h2,h3,h4,h5⟩:=zf3 he
 obtain ⟨w,ew,rw'⟩:=r.get h2
 have hl:=r.length
 have hn:=zeR
 have fin:EP X pins σ Q w s:=⟨z,H,I,rw',q⟩
 exact subscriptTail_builtinR (x:=w) pl.typeIs slot_tuple_getitem.lookup
  (getItem_tuple (j:=j) (Q:=fun r s'=>r=w∧EP X pins σ Q r s') pl (by omega) (by omega) (by rw [List.size_toArray,←hl];exact h1) (by simpa using ew) ⟨rfl,fin⟩) hs
theorem zjc:IxR X zlR:=by
 intro value slice pins s σ H x y v u Q I rx ry h hs
 obtain ⟨z,i,c,rfl,rfl,hz,he,q⟩:=h
 obtain ⟨t,rfl⟩:=rx
 obtain ⟨t',rfl⟩:=ry
 obtain ⟨j,h1,h2,h3,h4,h5⟩:=zf3 he
 have hl:z.cps.toList.length=z.length:=by simp [Str.length]
 rw [hl] at h1 h4 h5
 have hn:=zeR
 exact tail_any (typeIs_str s z t) slot_str_getitem.lookup (getItem_str (c:=c) (by
  have e1:decide (i< -(2 ^ 63:Int))=false:=decide_eq_false (by omega)
  have e2:decide (i≥2 ^ 63)=false:=decide_eq_false (by omega)
  rw [e1,e2,Bool.or_false]) (by rw [h1];simpa using h2) ⟨.str ⟨#[c]⟩,H,I.tok _,⟨_,rfl⟩,q⟩) hs
def rIx (K:PySem.W.Frag):R2:=fun x y H Q=>ziv K x y H Q∨zgC K x y H Q∨zlR x y H Q
theorem zhe:IxR X (rIx X.K):=zaI.or (zas.or zjc)
theorem zhf (its:List Value) (n j:Nat) (u:Value):Obj.mapSeq (·.setIfInBounds j u) {cls:= .type "list",data:= .seq its.toArray n}={cls:= .type "list",data:= .seq (its.set j u).toArray n}:=by
 simp [Obj.mapSeq]
theorem Inv.lst {pins:List (Addr×Obj)} {σ:St} {H:Hp} {s:Shared} {p:Addr} {xs:List V} (I:Inv X pins σ H s) (h:H p=some (.lst xs)):
  ∃(its:List Value) (n:Nat),zaP xs its∧s.heap.get? p=some {cls:= .type "list",data:= .seq its.toArray n}∧xs.length≤sizeLine:=by
 obtain ⟨z,its,n,r,e⟩:=I.hok p _ h
 exact ⟨its,n,r,e,z⟩
theorem Inv.lstUpd {pins:List (Addr×Obj)} {σ:St} {H:Hp} {s:Shared} {p:Addr} {xs ys:List V} {its its':List Value} {n n':Nat} {f:Obj→Obj} (I:Inv X pins σ H s) (h:H p=some (.lst xs))
  (ho:s.heap.get? p=some {cls:= .type "list",data:= .seq its.toArray n}) (hf:f {cls:= .type "list",data:= .seq its.toArray n}={cls:= .type "list",data:= .seq its'.toArray n'}) (r:zaP ys its') (hz:ys.length≤sizeLine) (t:Nat):
  Inv X pins σ (upd H p (.lst ys)) {s with heap:=s.heap.update p f,toks:=t}:=by
 have e:(s.heap.update p f).get? p=some {cls:= .type "list",data:= .seq its'.toArray n'}:=by
  rw [Heap.get?_update_self f ho (by rw [hf]<;>rfl),hf]
 refine I.write (x:=p) (e:=p) (by rw [h];trivial) (.inl rfl) (fun b u hb q=>(Heap.get?_update_other _ _ (Ne.symm hb)).trans q) ⟨_,e⟩ ?_
 exact ⟨hz,its',n',r,e⟩
def zlS:V→V→V→Hp→(Hp→Prop)→Prop:=fun o i v H Q=> ∃p xs k j,o= .ref p∧i= .int k∧H p=some (.lst xs)∧ixN xs.length k=some j∧Q (upd H p (.lst (xs.set j v)))
theorem zd5:zlM X zlS:=by
 intro pins s σ H o i v ov iv u Q I ro ri rv h
 obtain ⟨p,xs,k,j,rfl,rfl,hp,hj,q⟩:=h
 cases ro
 obtain ⟨t,rfl⟩:=ri
 obtain ⟨its,n,r,ho,hz⟩:=I.lst hp
 obtain ⟨h1,h2,h3,h4⟩:=zhZ hj
 have hl:=r.length
 have hn:=zeR
 have I':Inv X pins σ (upd H p (.lst (xs.set j v))) {s with heap:=s.heap.update p (Obj.mapSeq (·.setIfInBounds j u))}:=
  I.lstUpd hp ho (zhf its n j u) (r.set rv j) (by rw [List.length_set];exact hz) s.toks
 by_cases h0:0≤k
 ·have hk:k.toNat=j:=by
   rw [seqIndex_of h0 h4] at h1
   exact Option.some.inj h1
  exact PySem.W.ki_setAt ho h0 (by omega) (by rw [List.size_toArray,←hl];exact h4) (by rw [hk];exact ⟨_,I',q⟩)
 ·have hk:(k+(its.toArray.size:Int)).toNat=j:=by
   rw [seqIndex_neg (by omega) h3] at h1
   rw [List.size_toArray,←hl]
   exact Option.some.inj h1
  exact PySem.W.ki_setBack ho (by omega) (by rw [List.size_toArray,←hl];exact h3) (by omega) (by rw [hk];exact ⟨_,I',q⟩)
theorem zf4 (lo hi:Option Int) (n:Nat):(sliceBounds lo hi none n).1=((HT.sIx n 0 lo:Nat):Int)∧(sliceBounds lo hi none n).2.1=((HT.sIx n n hi:Nat):Int)∧(sliceBounds lo hi none n).2.2=1:=by
 refine ⟨?_,?_,rfl⟩
 ·cases lo with
  |none=>simp [sliceBounds,HT.sIx]
  |some i=>
   simp only [sliceBounds,HT.sIx,Option.getD_none,show (1:Int)>0 by decide,if_true]
   by_cases h:i<0
   ·simp only [h,if_true]<;>omega
   ·simp only [h,if_false]<;>omega
 ·cases hi with
  |none=>simp [sliceBounds,HT.sIx]
  |some i=>
   simp only [sliceBounds,HT.sIx,Option.getD_none,show (1:Int)>0 by decide,if_true]
   by_cases h:i<0
   ·simp only [h,if_true]<;>omega
   ·simp only [h,if_false]<;>omega
theorem zfn (its:List Value) (lo hi:Option Int):slicePick its.toArray lo hi none=((its.drop (HT.sIx its.length 0 lo)).take (HT.sIx its.length its.length hi - HT.sIx its.length 0 lo)).toArray:=by
 obtain ⟨h1,h2,h3⟩:=zf4 lo hi its.toArray.size
 unfold slicePick
 rw [h1,h2,h3]
 simp only [sliceRange_one,pick_run,List.size_toArray]<;>rfl
def zml (K:PySem.W.Frag):V→Option Int→Option Int→Hp→VK→Prop:=fun x lo hi H Q=> ∃a xs,x= .ref a∧SqL K H a xs∧ ∀p,H p=none→Q (.ref p) (upd H p (.lst (zfm xs lo hi)))
theorem zkc:SlR X (zml X.K):=by
 intro pins s σ H x v vl vu lo hi sl Q I rx hs pl pu h
 obtain ⟨a,xs,rfl,hx,q⟩:=h
 cases rx
 obtain ⟨its,r,ht,hz⟩:=I.list hx
 have hlen:=r.length
 refine ⟨"list",_,slot_list_getitem.lookup,ht.isList.typeIs,?_⟩
 refine wpAny_getItem_list_slice ht.isList hs pl pu .none (by simp) ?_ (by rw [List.size_toArray]<;>omega)
 rw [zfn,←hlen]
 refine ⟨.ref s.heap.objs.size,_,I.laid (t':=s.toks) (o:= .lst (zfm xs lo hi)) (fun b ob q=>Heap.get?_push_of_some _ q) (Nat.le_refl _) ?_,rfl,q _ (I.hok.fresh (Nat.le_refl _))⟩
 exact ⟨Nat.le_trans (zez xs lo hi) hz,_,0,(r.drop (HT.sIx xs.length 0 lo)).take (HT.sIx xs.length xs.length hi - HT.sIx xs.length 0 lo),Heap.get?_push_size _ rfl⟩
def zd6:V→Bool
 | .non=>true
 | .bl _=>true
 | .int _=>true
 | .str _=>true
 |_=>false
def eqV:V→V→Bool
 | .non, .non=>true
 | .bl a, .bl b=>a==b
 | .bl a, .int b=>(if a then 1 else 0)==b
 | .int a, .bl b=>a==(if b then 1 else 0)
 | .int a, .int b=>a==b
 | .str a, .str b=>a==b
 |_,_=>false
theorem zhg {A:Around} {s:Shared} {y x:V} {u v:Value} (ry:zaL y u) (rx:zaL x v) (fy:zd6 y=true) (fx:zd6 x=true):SeqAt.EqAt A s u v (eqV y x):=by
 cases y with
 |non=>
  cases ry
  cases x with
  |non=>cases rx;exact SeqAt.EqAt.same _
  |bl b=>cases rx;exact SeqAt.EqAt.none_bool b
  |int b=>obtain ⟨t,rfl⟩:=rx;exact SeqAt.EqAt.none_int b t
  |str b=>obtain ⟨t,rfl⟩:=rx;exact SeqAt.EqAt.none_str b t
  |_=>exact absurd (show false=true from fx) Bool.false_ne_true
 |bl a=>
  cases ry
  cases x with
  |non=>cases rx;exact SeqAt.EqAt.bool_none a
  |bl b=>cases rx;exact SeqAt.EqAt.bool_bool a b
  |int b=>obtain ⟨t,rfl⟩:=rx;exact SeqAt.EqAt.bool_int a b t
  |str b=>obtain ⟨t,rfl⟩:=rx;exact SeqAt.EqAt.bool_str a b t
  |_=>exact absurd (show false=true from fx) Bool.false_ne_true
 |int a=>
  obtain ⟨t',rfl⟩:=ry
  cases x with
  |non=>cases rx;exact SeqAt.EqAt.int_none a t'
  |bl b=>cases rx;exact SeqAt.EqAt.int_bool a t' b
  |int b=>obtain ⟨t,rfl⟩:=rx;exact SeqAt.EqAt.int_int a t' b t
  |str b=>obtain ⟨t,rfl⟩:=rx;exact SeqAt.EqAt.int_str a t' b t
  |_=>exact absurd (show false=true from fx) Bool.false_ne_true
 |str a=>
  obtain ⟨t',rfl⟩:=ry
  cases x with
  |non=>cases rx;exact SeqAt.EqAt.str_none a t'
  |bl b=>cases rx;exact SeqAt.EqAt.str_bool a t' b
  |int b=>obtain ⟨t,rfl⟩:=rx;exact SeqAt.EqAt.str_int a t' b t
  |str b=>obtain ⟨t,rfl⟩:=rx;exact SeqAt.EqAt.str_str a t' b t
  |_=>exact absurd (show false=true from fx) Bool.false_ne_true
 |_=>exact absurd (show false=true from fy) Bool.false_ne_true
def eqU (x:V) (u:Value):Bool:=match u with
 | .none=>eqV .non x
 | .bool b=>eqV (.bl b) x
 | .int i _=>eqV (.int i) x
 | .str z _=>eqV (.str z) x
 |_=>false
theorem zjd {x y:V} {u:Value} (r:zaL y u) (f:zd6 y=true):eqU x u=eqV y x:=by
 cases y with
 |non=>cases r;rfl
 |bl b=>cases r;rfl
 |int i=>obtain ⟨t,rfl⟩:=r;rfl
 |str z=>obtain ⟨t,rfl⟩:=r;rfl
 |_=>exact absurd (show false=true from f) Bool.false_ne_true
theorem zd7 {x:V}: ∀{xs:List V} {us:List Value},zaP xs us→xs.all zd6=true→us.any (eqU x)=xs.any fun y=>eqV y x
 |_,_, .nil,_=>rfl
 |y::xs,u::us, .cons r t,f=>by
  rw [List.all_cons,Bool.and_eq_true] at f
  rw [List.any_cons,List.any_cons,zjd r f.1,zd7 t f.2]
theorem zdA {A:Around} {s:Shared} {x:V} {v:Value} (rx:zaL x v) (fx:zd6 x=true): ∀{xs:List V} {us:List Value},zaP xs us→xs.all zd6=true→ ∀u∈us,SeqAt.EqAt A s u v (eqU x u)
 |_,_, .nil,_=>fun u hu=>by cases hu
 |y::xs,u::us, .cons r t,f=>fun u' hu=>by
  rw [List.all_cons,Bool.and_eq_true] at f
  rcases List.mem_cons.mp hu with rfl|hu
  ·rw [zjd r f.1];exact zhg r rx f.1 fx
  ·exact zdA rx fx t f.2 u' hu
def inV (x:V) (xs:List V):Bool:=xs.any fun y=>eqV y x
def rIn (K:PySem.W.Frag) (neg:Bool):R2:=fun x y H Q=> ∃p xs,y= .ref p∧(SqL K H p xs∨SqT K H p xs)∧zd6 x=true∧xs.all zd6=true∧Q (.bl (if neg then !inV x xs else inV x xs)) H
theorem zet:OpR X (compareOp .In) (rIn X.K false):=by
 intro pins s σ H x y v u Q I rx ry h
 obtain ⟨p,xs,rfl,hq,fx,fs,q⟩:=h
 cases ry
 rcases hq with hq|hq
 ·obtain ⟨its,r,pl,hz⟩:=I.list hq
  refine SeqAt.in_listAt (eqU x) pl.isList (fun w hw=>zdA rx fx r fs w (by simpa using hw)) ⟨.bl _,H,I,rfl,?_⟩
  rw [show its.toArray.any (eqU x)=its.any (eqU x) by simp,zd7 r fs]
  exact q
 ·obtain ⟨its,r,pl,hz⟩:=I.tuple hq
  refine SeqAt.in_tupleAt (eqU x) pl (fun w hw=>zdA rx fx r fs w (by simpa using hw)) ⟨.bl _,H,I,rfl,?_⟩
  rw [show its.toArray.any (eqU x)=its.any (eqU x) by simp,zd7 r fs]
  exact q
theorem zd8:OpR X (compareOp .NotIn) (rIn X.K true):=by
 intro pins s σ H x y v u Q I rx ry h
 obtain ⟨p,xs,rfl,hq,fx,fs,q⟩:=h
 cases ry
 rcases hq with hq|hq
 ·obtain ⟨its,r,pl,hz⟩:=I.list hq
  refine SeqAt.notIn_listAt (eqU x) pl.isList (fun w hw=>zdA rx fx r fs w (by simpa using hw)) ⟨.bl _,H,I,rfl,?_⟩
  rw [show its.toArray.any (eqU x)=its.any (eqU x) by simp,zd7 r fs]
  exact q
 ·obtain ⟨its,r,pl,hz⟩:=I.tuple hq
  refine SeqAt.notIn_tupleAt (eqU x) pl (fun w hw=>zdA rx fx r fs w (by simpa using hw)) ⟨.bl _,H,I,rfl,?_⟩
  rw [show its.toArray.any (eqU x)=its.any (eqU x) by simp,zd7 r fs]
  exact q
theorem zaW:zc5 X (.builtin "len") (fun xs H Q=> ∃p ys,xs= [.ref p]∧(SqL X.K H p ys∨SqT X.K H p ys)∧Q (.int ys.length) H):=by
 intro pins s σ H xs us Q I r h
 obtain ⟨p,ys,rfl,hq,q⟩:=h
 obtain ⟨u,rfl,rx⟩:=zcW r
 cases rx
 have hn:=zeR
 rcases hq with hq|hq
 ·obtain ⟨its,r',pl,hz⟩:=I.list hq
  have hlen:=r'.length
  exact Calls.call_len_list pl.isList (by simp only [List.size_toArray]<;>omega) ⟨.int ys.length,H,I.tok _,⟨s.toks+1,by rw [List.size_toArray,hlen]⟩,q⟩
 ·obtain ⟨its,r',pl,hz⟩:=I.tuple hq
  have hlen:=r'.length
  exact len_tuple pl (by simp only [List.size_toArray]<;>omega) ⟨.int ys.length,H,I.tok _,⟨s.toks+1,by rw [List.size_toArray,hlen]⟩,q⟩
def tyV (K:PySem.W.Frag) (T:String) (x:V) (H:Hp):Prop:=match x with
 | .str _=>T="str"
 | .int _=>T="int"
 | .ref p=>(T="list"∧ ∃xs,SqL K H p xs)∨(T="tuple"∧ ∃o,K.lookup p=some o∧o.cls= .type "tuple"∧o.dict=none)∨
   (T="dict"∧((∃kvs,H p=some (.dK kvs))∨ ∃kvs,H p=some (.dT kvs)))∨(T="set"∧ ∃S n,H p=some (.set S n))
 |_=>False
theorem zle {pins:List (Addr×Obj)} {σ:St} {H:Hp} {s:Shared} {T:String} {x:V} {v:Value} (I:Inv X pins σ H s) (r:zaL x v) (ty:tyV X.K T x H):
  s.TypeIs v T∧ ∀a,v= .ref a→ ∃ob,s.heap.get? a=some ob∧ob.dict=none:=by
 cases x with
 |str z=>
  obtain ⟨t,rfl⟩:=r
  cases (show T="str" from ty)
  exact ⟨typeIs_str s z t,fun _ e=>nomatch e⟩
 |int i=>
  obtain ⟨t,rfl⟩:=r
  cases (show T="int" from ty)
  exact ⟨typeIs_int s i t,fun _ e=>nomatch e⟩
 |ref p=>
  cases r
  rcases ty with ⟨rfl,xs,hq⟩|⟨rfl,o,hk,hc,hd⟩|⟨rfl,hk⟩|⟨rfl,S,n,hk⟩
  ·obtain ⟨its,_,pl,_⟩:=I.list hq
   refine ⟨pl.isList.typeIs,fun a e=> ?_⟩
   cases e
   obtain ⟨o,n,e,c,hd,_⟩:=pl
   exact ⟨o,e,hd⟩
  ·refine ⟨⟨o,I.kIn p o hk,hc⟩,fun a e=> ?_⟩
   cases e
   exact ⟨o,I.kIn _ o hk,hd⟩
  ·have z: ∃o,s.heap.get? p=some o∧o.ExactDict:=by
    rcases hk with ⟨kvs,hk⟩|⟨kvs,hk⟩
    ·obtain ⟨_,_,_,_,o,_,_,e,ex,_⟩:=I.hok p _ hk
     exact ⟨o,e,ex⟩
    ·obtain ⟨_,_,_,_,o,_,_,e,ex,_⟩:=I.hok p _ hk
     exact ⟨o,e,ex⟩
   obtain ⟨o,e,ex⟩:=z
   refine ⟨⟨o,e,ex.1⟩,fun a e2=> ?_⟩
   cases e2
   exact ⟨o,e,ex.2.1⟩
  ·obtain ⟨o,_,_,_,e,ex,_⟩:=I.hok p _ hk
   refine ⟨⟨o,e,ex.1⟩,fun a e2=> ?_⟩
   cases e2
   exact ⟨o,e,ex.2.1⟩
 |_=>exact False.elim ty
def tBM (K:PySem.W.Frag) (T:String) (r:V→List V→Hp→VK→Prop) (to:TE) (t:TA):TE:=fun σ H Q=>to σ H fun x H1=>tyV K T x H1∧t σ H1 fun xs H2=>r x xs H2 Q
variable {o e:Expr} {es:List Expr} {to:TE} {t:TA} {name:Str} {apos cpos:Pos} {T id:String} {r:V→List V→Hp→VK→Prop}
theorem zdB (pa:PlainAttrs T) (slot:Slot T name id) (hty:typeOf (.builtin id)=pure (.type "method_descriptor")) (hm:MtR X id r) (ho:PE X o to) (ha:PA X (e::es) t)
  (hbase:attributeBase o name X.env (eval o X.env)=eval o X.env:=by rfl)
  (hfew:((backTo cpos (starEach (e::es) X.env)).all (fun x=> !x.1) && (backToKw cpos (keywordEach [] X.env)).all (fun x=>x.1.isSome)
   && decide ((e::es).length+([]:List Keyword).length+(if ([]:List Keyword).isEmpty then 0 else 1)<30))=true:=by rfl)
  (hline:(apos.endLine==cpos.line)=true:=by rfl) (hs:starEach (e::es) X.env=(false,eval e X.env)::starEach es X.env:=by rfl) (hplain:(backTo cpos (starEach es X.env)).any (·.1)=false:=by rfl):
  PE X (.Call (.Attribute o name apos) (e::es) [] cpos) (tBM X.K T r to t):=by
 intro pins s σ H Q I h
 refine wpAny_Call_method_late hbase hfew hline rfl (thn (ho pins s σ H _ I h) fun v s1 ⟨x,H1,I1,r1,ty,q1⟩=> ?_)
 obtain ⟨h1,h2⟩:=zle I1 r1 ty
 refine ⟨T,id,pa,slot,hty,h1,h2,?_⟩
 have hA:=ha cpos pins s1 σ H1 _ I1 q1
 rw [hs] at hA ⊢
 refine Calls.callWith_builtin (by show (false||(backTo cpos (starEach es X.env)).any (·.1))=false;rw [hplain]<;>rfl) (Calls.evalArgs_plain ?_)
 exact thn hA fun us s2 ⟨vs,H2,I2,r2,q2⟩=>hm pins s2 σ H2 x vs v us Q I2 r1 r2 q2
end
end L2
namespace L2
open PySem PySem.Spec PyProof.Rows
def MtM (X:Cx) (id:String) (r:V→List V→Hp→VK→Prop):Prop:=
 ∀(pins:List (Addr×Obj)) (s:Shared) (σ:St) (H:Hp) (x:V) (xs:List V) (v:Value) (us:List Value) (Q:VK),Inv X pins σ H s→zaL x v→zaP xs us→r x xs H Q→
  wpAny (model X.prog X.w) X.A (call (.builtin id) (v::us)) (EP X pins σ Q) X.xe s
theorem zaP.one: ∀{x:V} {us:List Value},zaP [x] us→ ∃u,us= [u]∧zaL x u
 |_,_, .cons r .nil=>⟨_,rfl,r⟩
theorem zaP.eraseIdx: ∀{xs:List V} {us:List Value} (i:Nat),zaP xs us→zaP (xs.eraseIdx i) (us.eraseIdx i)
 |_,_,_, .nil=> .nil
 |_,_,0, .cons _ t=>t
 |_,_,i+1, .cons r t=> .cons r (zaP.eraseIdx i t)
section
variable {X:Cx} {pins:List (Addr×Obj)} {σ:St} {H:Hp} {s:Shared} {l b:Addr} {xs ys zs:List V}
theorem Inv.lset {its its':List Value} {n:Nat} {f:Array Value→Array Value} {t':Nat} (I:Inv X pins σ H s) (hH:H l=some (.lst xs))
  (e:s.heap.get? l=some {cls:= .type "list",data:= .seq its.toArray n}) (hf:f its.toArray=its'.toArray) (hv:zaP ys its') (hz:ys.length≤sizeLine):
  Inv X pins σ (upd H l (.lst ys)) {s with heap:=s.heap.update l (Obj.mapSeq f),toks:=t'}:=by
 have q:=PySem.IsL.update e f
 rw [hf] at q
 refine I.write (x:=l) (e:=l) (by rw [hH];exact trivial) (.inl rfl) (fun b' u hb hu=>(Heap.get?_update_other s.heap (Obj.mapSeq f) (Ne.symm hb)).trans hu) ⟨_,q⟩ ?_
 exact ⟨hz,its',_,hv,q⟩
theorem Inv.lnew {its:List Value} {t':Nat} (I:Inv X pins σ H s) (hv:zaP ys its) (hz:ys.length≤sizeLine):
  Inv X pins σ (upd H s.heap.objs.size (.lst ys)) {s with heap:=s.heap.push {cls:= .type "list",data:= .seq its.toArray},toks:=t'}:=
 I.laid (fun _ _ q=>Heap.get?_push_of_some _ q) (Nat.le_refl _) ⟨hz,its,0,hv,Heap.get?_push_size _ rfl⟩
theorem Inv.fresh (I:Inv X pins σ H s):H s.heap.objs.size=none:=I.hok.fresh (Nat.le_refl _)
theorem Inv.lstM (I:Inv X pins σ H s) (hH:H l=some (.lst xs)):xs.length≤sizeLine∧ ∃(its:List Value) (n:Nat),zaP xs its∧xs.length=its.length∧s.heap.get? l=some {cls:= .type "list",data:= .seq its.toArray n}:=by
 obtain ⟨z,its,n,r,e⟩:=I.hok l _ hH
 exact ⟨z,its,n,r,r.length,e⟩
end
section
variable {X:Cx}
def zf5:V→List V→Hp→VK→Prop:=fun x vs H Q=> ∃l xs y,x= .ref l∧vs= [y]∧H l=some (.lst xs)∧xs.length<sizeLine∧Q .non (upd H l (.lst (xs++ [y])))
theorem zb2:MtM X "list.append" zf5:=by
 intro pins s σ H x vs v us Q I rx rv h
 obtain ⟨l,xs,y,rfl,rfl,hH,hz,q⟩:=h
 cases rx
 obtain ⟨u,rfl,ru⟩:=rv.one
 obtain ⟨z,its,n,r,hl,e⟩:=I.lstM hH
 refine call_meets F.slot_list_append ⟨_,e,rfl⟩ F.entry_list_append (F.args_list_append_2 _ _) (PySem.list_append l its.toArray n u (by rw [List.size_toArray];omega)) ⟨e,?_⟩
 refine ⟨.non,_,I.lset (its':=its++ [u]) hH e (by simp) (r.append (.cons ru .nil)) ?_,rfl,q⟩
 rw [List.length_append,List.length_singleton]
 omega
def zmm:R2:=fun x y H Q=> ∃l b xs zs,x= .ref l∧y= .ref b∧H l=some (.lst xs)∧H b=some (.lst zs)∧xs.length+zs.length≤sizeLine∧ ∀p,H p=none→Q (.ref p) (upd H p (.lst (xs++zs)))
theorem zlf:OpR X (binaryOp .Add) zmm:=by
 intro pins s σ H x y v u Q I rx ry h
 obtain ⟨l,b,xs,zs,rfl,rfl,hH,hB,hz,q⟩:=h
 cases rx
 cases ry
 obtain ⟨z,its,n,r,hl,e⟩:=I.lstM hH
 obtain ⟨z2,its2,n2,r2,hl2,e2⟩:=I.lstM hB
 refine PySem.P.add_list e e2 ?_ (by rw [List.size_toArray,List.size_toArray];omega)
 have ea:its.toArray++its2.toArray=(its++its2).toArray:=by simp
 rw [ea]
 exact ⟨.ref _,_,I.lnew (t':=s.toks) (r.append r2) (by rw [List.length_append];omega),rfl,q _ I.fresh⟩
end
section
variable {prog:Program} {w:World} {A:Around} {E:Value→Shared→Prop} {s:Shared}
end
section
variable {X:Cx}
end
end L2
namespace Att
open PySem PySem.W PySem.Calls PyProof.Rows
theorem zeH {P:Params} {h:Heap}: ∀(ns:List Int) (vs:List Value),WellAll P h vs (ns.map WData.int)→IntsAre vs ns:=by
 intro ns
 induction ns with
 |nil=>
  intro vs w
  rw [List.map_nil] at w
  cases w
  exact .nil
 |cons n ns ih=>
  intro vs w
  rw [List.map_cons] at w
  cases w with
  |cons a b=>
   cases a
   exact .cons _ _ (ih _ b)
theorem ziw {l:OpenLaw} {n:Nat} (hn:l.most=some n) {P:Params} {h:Heap} {args:List WData} {vals:List Value}
  (hpre:l.row.toRowW.claim.pre args=true) (hwl:WellAll P h vals args):
  ∃a vs ns,vals= [Value.ref a]∧args= [WData.list (ns.map WData.int)]∧h.get? a=some {cls:= .type "list",data:= .seq vs.toArray}∧IntsAre vs ns∧ns.length≤n:=by
 have hsh:WShape.hasAll [] args [.list .int]=true:=(pre_splitW hpre).1
 have hc:l.pre.holds [] {args:=args}=true:=(pre_splitW hpre).2
 obtain ⟨d,r,rfl,h1,h2⟩:=hasAllW_cons hsh
 obtain rfl:=hasAllW_nil h2
 obtain ⟨xs,rfl,h3⟩:=hasW_list h1
 obtain ⟨ns,rfl⟩:=items_int h3
 have hlen:ns.length≤n:=by
  unfold OpenLaw.pre at hc
  have h4:(WTm.not (.lt (.lit (.int (n:Int))) (.len (.arg 0)))).holds [] {args:= [.list (ns.map .int)]}=true:=by
   have h4:=(holds_andW hc).1
   rw [hn] at h4
   exact h4
  have h5:=condW_of h4 (w_not (w_lt w_lit (w_len_list (w_arg rfl))))
  rw [List.length_map] at h5
  refine Nat.le_of_not_lt fun q=> ?_
  have q':(n:Int)<((ns.length:Nat):Int):=by omega
  first
   |(rw [decide_eq_true q'] at h5;exact absurd h5 (by decide))
   |(simp at h5;omega)
 cases hwl with
 |cons w1 w2=>
  cases w2
  cases w1 with
  |list ho hall=>exact ⟨_,_,ns,rfl,rfl,ho,zeH ns _ hall,hlen⟩
theorem zix (l:OpenLaw) (args:List WData):l.row.toRowW.claim.post args (.bool true) args=true:=
 postW_of (r:=l.row.toRowW) (X:=(true==true))
  (show WShape.has [] (.bool true) .bool=true by first|rfl|decide|simp [WShape.has,WShape.arms,WShape.armsAll])
  (show (WTm.eq .res (.lit (.bool true))).value [] {args:=args,res:=some (.bool true),after:=args}=some (.bool (true==true)) from w_eq_bool (w_res rfl) w_lit) rfl
theorem attach_call {l:OpenLaw} {n:Nat} {q:Program} {loose:List Str} {XP:(Str→Option Value)→Heap→Prop} {YP:World→Heap→Prop} {d:DefRec}
  (hn:l.most=some n) (hdf:d.params.defaults= [])
  (call: ∀(w:World) (s₀ s₁:Shared) (mg mb:Str→Option Value) (fa:Addr) (o:Obj) (pm cd doc:Value) (a:Addr) (vs:List Value) (ns:List Int),
   Ground q loose [] XP w s₀ mg mb s₁.heap→YP w s₁.heap→
   s₁.heap.get? fa=some o→o.data= .func (docDef d.name d.params d.body d.scope pm cd doc)→s₁.heap.CodeRec cd d.name→mg d.name=some (.ref fa)→
   s₁.heap.get? a=some {cls:= .type "list",data:= .seq vs.toArray}→IntsAre vs ns→ns.length≤n→s₁.gens= #[]→
   codeAny (model l.prog w) callerA (.call (.ref fa) ⟨[.ref a], []⟩) (fun r s'=>r= .ok (.ret (.bool true))∧OldK s₁.heap s'.heap∧s'.os=s₁.os∧AllBare s'.gens) s₁):
  WalkO q loose XP YP l.row.toRowW d [] (fun f vs=>PySem.call f vs):=by
 intro w s₀ s₁ mg mb G Y fa o pm cd doc dV kV ho hd hcd hD hmg hg args vals as hpre hlay hrd hwl hlo
 obtain rfl:dV= .none:=Dflts.none hD hdf
 obtain rfl:kV= .none:=Dflts.noKw hD
 obtain ⟨a,vs,ns,rfl,rfl,hobj,hints,hlen⟩:=ziw hn hpre hwl
 refine enter_call (codeAny_mono (call w s₀ s₁ mg mb fa o pm cd doc a vs ns G Y ho (fd_plain hd) hcd hmg hobj hints hlen hg) fun r s' hq=> ?_)
 obtain ⟨rfl,h2,h3,h4⟩:=hq
 exact ⟨.inl ⟨.bool true, .bool true, [],rfl,fun _=>rfl, .bool true,zix l _,fun _=>⟨List.Pairwise.nil,fun _ hm=>(nomatch hm)⟩⟩,h2,h3,h4⟩
section
variable {prog:Program} {w:World} {A:Around} {E:Value→Shared→Prop} {s:Shared} {K:Frag}
end
end Att
namespace L2
open PySem PySem.Spec PyProof.Rows
theorem zfB: ∀{vs:List Value} {ns:List Int},IntsAre vs ns→zaP (ns.map V.int) vs
 |_,_, .nil=> .nil
 |_,_, .cons n t h=> .cons ⟨t,rfl⟩ (zfB h)
end L2
namespace L2
open PySem PySem.Spec PyProof.Rows
abbrev KOf {K:PySem.W.Frag} {h:Heap} (_:K.In h):PySem.W.Frag:=K
end L2
namespace L2
open PySem PySem.Spec PyProof.Rows
def zdL (s:Stmt):Arguments:=match s with
 | .FunctionDef _ a _ _ _ _ _ _ _ _=>a
 |_=>{posonlyargs:= [],args:= [],vararg:=none,kwonlyargs:= [],kw_defaults:= [],kwarg:=none,defaults:= []}
def zcX (s:Stmt):List Stmt:=match s with
 | .FunctionDef _ _ b _ _ _ _ _ _ _=>b
 |_=> []
def zap (s:Stmt):Scope:=match s with
 | .FunctionDef _ _ _ _ _ _ sc _ _ _=>sc
 |_=>{kind:= .function,names:= [],isGenerator:=false,isCoroutine:=false}
abbrev CX0:CXT:=fun _ _ _ _ _ _=>False
abbrev E0:XK:=fun _ _ _=>False
structure Fun (K:PySem.W.Frag) (x qual:Str) (st:Stmt) (f:Addr) (fd:FuncData):Prop where
 ex: ∃(oc:Value) (od:Option Addr) (kV doc pm:Value) (an:Option Addr) (cdv ct:Value) (osl:Array (Option Value)),
  fd=PySem.W.fnOf x qual (zdL st) (zcX st) (zap st) .none kV doc pm an cdv ct∧K.lookup f=some ⟨oc,od, .func fd,osl⟩∧PySem.W.codeIn K cdv qual=true
 kp:PySem.W.keepIn K (.ref f)=true
section
variable {P:Program} {w:World} {K:PySem.W.Frag} {mg:Str→Option Value} {base:Heap}
theorem Fun.binds {x qual:Str} {st:Stmt} {f:Addr} {fd:FuncData} {ps:List Str} (F:Fun K x qual st f fd)
  (h: ∀(kV doc pm:Value) (an:Option Addr) (cdv ct:Value) (us:List Value),us.length=ps.length→bindArgs (PySem.W.fnOf x qual (zdL st) (zcX st) (zap st) .none kV doc pm an cdv ct) ⟨us, []⟩=pure (ps.zip us)):zaN K fd ps []:=by
 obtain ⟨oc,od,kV,doc,pm,an,cdv,ct,osl,rfl,lk,hcd⟩:=F.ex
 exact .all (h kV doc pm an cdv ct)
theorem zam {x qual:Str} {st:Stmt} {f:Addr} {oc:Value} {od an:Option Addr} {osl:Array (Option Value)} {kV doc pm cdv ct:Value} (l:K.lookup f=some ⟨oc,od, .func (PySem.W.fnOf x qual (zdL st) (zcX st) (zap st) .none kV doc pm an cdv ct),osl⟩)
  (c:PySem.W.codeIn K cdv qual=true) (k:PySem.W.keepIn K (.ref f)=true):Fun K x qual st f (PySem.W.fnOf x qual (zdL st) (zcX st) (zap st) .none kV doc pm an cdv ct):=⟨⟨oc,od,kV,doc,pm,an,cdv,ct,osl,rfl,l,c⟩,k⟩
end
theorem zdr {A:Around} {k:Nat} (hr:Room k A):A.units+1<cLine:=Nat.lt_of_le_of_lt (Nat.add_le_add_left (by decide:1≤64) _) hr.units
theorem zc7 {n:Nat} (h:n≤1000):n<sizeLine:=Nat.lt_of_le_of_lt h (by decide)
section
variable {X:Cx}
theorem pv (i:Nat) {x:Str} {pos:Pos} (hN:X.N[i]? =some x:=by rfl) (hv:Vis X.env.scope x:=by first|exact Or.inl rfl|exact Or.inr (Or.inl rfl)|exact Or.inr (Or.inr rfl)) (hd:(x==("__debug__":Str))=false:=by decide)
  (hcd:(x==("__classdict__":Str))=false:=by decide):PE X (.Name x pos) (zce i):=zk6 hN hv hd hcd
end
def zao (H H':Hp):Prop:= ∀b o,H b=some o→H' b=some o
theorem zao.refl (H:Hp):zao H H:=fun _ _ h=>h
theorem zao.trans {H H1 H2:Hp} (a:zao H H1) (b:zao H1 H2):zao H H2:=fun c o h=>b c o (a c o h)
theorem zao.seq {K:PySem.W.Frag} {H H':Hp} {a:Addr} {xs:List V} (e:zao H H') (h:SqL K H a xs):SqL K H' a xs:=by
 rcases h with (h|⟨o,h⟩)|h
 ·exact .inl (.inl (e _ _ h))
 ·exact .inl (.inr ⟨o,e _ _ h⟩)
 ·exact .inr h
end L2
set_option maxHeartbeats 4000000
namespace L2
open PySem PySem.Spec PyProof.Rows
structure Fly (P:Program) (w:World) (l:List Env) (H:Hp) (s:Shared) (ea:Addr) (cls:Value) (H':Hp) (s':Shared):Prop where
 os:s'.os=s.os
 bare:AllBare s'.gens
 un:Un (frs l) [] H H' s.heap s'.heap
 ex: ∃B a0,Heap.FlyingW B l ea cls a0 s'.heap∧HOk P w H' B∧(∀b o,s.heap.get? b=some o→H b=none→b∉frs l→B.get? b=some o)∧
  ∀b o,s.heap.get? b=some o→b∉frs l→ ∃o',B.get? b=some o'
structure Cx.Own (X:Cx):Prop where
 stk:X.stack=X.env::X.outer
 fr:X.env.frame=some X.env.locals
 ex:X.ex= []
section
variable {X:Cx} {pins:List (Addr×Obj)} {σ:St} {H H':Hp} {s s':Shared} {ea:Addr} {cls a0:Value} {B h1 h2 h':Heap} {M:Model} {E:Value→Shared→Prop} {Q:Unit→Shared→Prop}
theorem Inv.fly_out (W:X.Own) (I:Inv X pins σ H s) (u:Un (frs X.stack) [] H H' s.heap h1) (up:h1.UpToSlots s'.heap) (ff:h1.FunFrames B X.stack) (fl:Heap.FlyingW B X.outer ea cls a0 s'.heap) (hok:HOk X.prog X.w H' B)
  (kp: ∀b o,s.heap.get? b=some o→H b=none→b∉frs X.stack→B.get? b=some o) (th: ∀b o,s.heap.get? b=some o→b∉frs X.stack→ ∃o',B.get? b=some o') (os:s'.os=s.os) (bare:AllBare s'.gens):
  Fly X.prog X.w X.outer X.H₀ X.s₀ ea cls H' s':=by
 have nst: ∀b o,X.s₀.heap.get? b=some o→b∉frs X.outer→b∉frs X.stack:=fun b o e hb z=>by
  rcases List.mem_cons.mp (I.stkSub b z) with q|q
  ·exact absurd q (Nat.ne_of_lt (Nat.lt_of_lt_of_le (Heap.lt_size e) I.ok.above))
  ·exact hb q
 have nx: ∀b,b∉X.ex:=fun b=>by rw [W.ex];simp
 have nn: ∀b:Addr,b∉([]:List Addr):=fun b=>by simp
 have inS: ∀b,b∈frs X.outer→b∈frs X.stack:=fun b hb=>by
  rw [W.stk]
  obtain ⟨env,he,hf⟩:=List.mem_filterMap.mp hb
  exact List.mem_filterMap.mpr ⟨env,List.mem_cons_of_mem _ he,hf⟩
 have kpo: ∀b o,X.s₀.heap.get? b=some o→X.H₀ b=none→b∉frs X.outer→B.get? b=some o:=fun b o e n hb=>
  kp b o (I.base.keep b o e n hb (nx b)) (I.base.free b o e n (nx b)) (nst b o e hb)
 refine ⟨os.trans I.os,bare,⟨fun b o e n hb _=>fl.1 b o (kpo b o e n hb),fun b o e n hb _=> ?_,fun b o e n _=> ?_,fun b o e _=> ?_,fun b xs e=>u.tups b xs (I.base.tups b xs e),fun b o xs e=>u.frzs b o xs (I.base.frzs b o xs e),fun b ps e=> ?_⟩,
  B,a0,fl,hok,kpo,fun b o e hb=> ?_⟩
 ·obtain ⟨sl,e1⟩:=I.base.slot b o e n hb (nx b)
  obtain ⟨sl2,e2⟩:=u.any e1 (I.base.free b o e n (nx b)) (nn b)
  obtain ⟨_,o',ho',hnf⟩:=ff.mem (inS b hb)
  rw [e2] at ho'
  cases ho'
  obtain ⟨sl3,e3⟩:=up b _ e2 hnf
  exact ⟨sl3,e3⟩
 ·obtain ⟨o',e1⟩:=I.base.there b o e (nx b)
  exact u.free b o' e1 (I.base.free b o e n (nx b)) (nn b)
 ·obtain ⟨o1,e1⟩:=I.base.there b o e (nx b)
  by_cases hb:b∈frs X.stack
  ·obtain ⟨_,o',ho',hnf⟩:=ff.mem hb
   obtain ⟨sl3,e3⟩:=up b _ ho' hnf
   exact ⟨_,e3⟩
  ·obtain ⟨o2,e2⟩:=th b o1 e1 hb
   exact ⟨o2,fl.1 b o2 e2⟩
 ·obtain ⟨m1,e1⟩:=I.base.tbls b ps e
  obtain ⟨m2,e2⟩:=u.tbls b _ e1
  exact ⟨m1++m2,by rw [e2,Array.append_assoc]⟩
 ·obtain ⟨o1,e1⟩:=I.base.there b o e (nx b)
  exact th b o1 e1 (nst b o e hb)
theorem zlg (W:X.Own) (I:Inv X pins σ H s) (F:Fly X.prog X.w X.stack H s ea cls H' s')
  (hQ: ∀h',Fly X.prog X.w X.outer X.H₀ X.s₀ ea cls H' {s' with heap:=h'}→Q () {s' with heap:=h'}):wpAny M X.A (leaving X.env (.ref ea)) Q E s':=by
 obtain ⟨B,a0,fl,hok,kp,th⟩:=F.ex
 have fl2:=fl
 rw [W.stk] at fl2
 refine wpAny_leaves_onW (by rw [I.ok.frames,W.stk]) W.fr fl2 fun h' fl' up=>hQ h' ?_
 exact I.fly_out W F.un up fl.2.2.1 fl' hok kp th F.os F.bare
theorem Inv.hide (I:Inv X pins σ H s):HOk X.prog X.w H (PySem.W.hideAll s.heap (frs X.stack))∧
  s.heap.FunFrames (PySem.W.hideAll s.heap (frs X.stack)) X.stack:=by
 refine ⟨fun a u e=>(I.hok a u e).stay (fun b v hc q=>PySem.W.hideAll_get _ q fun z=> ?_) (fun _ q=>q) fun _ _ q=>q,PySem.W.funFrames_hide I.stack fun env he a ha=>List.mem_filterMap.mpr ⟨env,he,ha⟩⟩
 have n:=I.stkFree b z
 rcases hc with rfl|hc
 ·rw [n] at e;cases e
 ·rw [n] at hc;cases hc
theorem zkd (W:X.Own) (I:Inv X pins σ H s) {args:List Value} (hx:Heap.MadeExcOf s.heap h2 ea cls args)
  (hQ: ∀h',Fly X.prog X.w X.outer X.H₀ X.s₀ ea cls H {s with heap:=h'}→Q () {s with heap:=h'}):wpAny M X.A (leaving X.env (.ref ea)) Q E {s with heap:=h2}:=by
 obtain ⟨hok,ff⟩:=I.hide
 have ff2:=ff
 rw [W.stk] at ff2
 refine wpAny_leaves_madeW (s:={s with heap:=h2}) (base:=PySem.W.hideAll s.heap (frs X.stack)) (h:=s.heap) (by rw [I.ok.frames,W.stk]) W.fr (fun b o q=>PySem.W.of_hideAll _ q) (by rw [←W.stk];exact ff) hx fun h' t fl tup bt up=>hQ h' ?_
 exact I.fly_out (s':={s with heap:=h'}) W (Un.kept hx.keeps) up (ff.of_keeps fun b o e _=>⟨o,hx.keeps b o e,rfl⟩) fl hok (fun b o e _ hb=>PySem.W.hideAll_get _ e hb) (fun b o e hb=>⟨o,PySem.W.hideAll_get _ e hb⟩) rfl I.bare
end
def CXE (P:Program) (w:World):CXT:=fun l H s E e s'=> ∃ea cls H',e= .ref ea∧Fly P w l H s ea cls H' s'∧E cls none H'
structure Lv (X:Cx) (Ek:St→XK):Prop where
 call: ∀pins σ ea cls H H' s s',Inv X pins σ H s→Fly X.prog X.w X.stack H s ea cls H' s'→Ek σ cls none H'→X.xe (.ref ea) s'
structure LvR (X:Cx) (Ek:St→XK):Prop extends Lv X Ek where
 new: ∀pins σ ea cls args H s h2,Inv X pins σ H s→Heap.MadeExcOf s.heap h2 ea cls args→Ek σ cls none H→X.xe (.ref ea) {s with heap:=h2}
theorem zje {P:Program} {w:World} {K:PySem.W.Frag} {mg:Str→Option Value} {base:Heap} {N:List Str} {qual:Str} {scope:Scope} {f:Addr} {cd:Value} {A:Around} {outer:List Env} {s:Shared} {H:Hp} {E:XK}:
  LvR (zdu (CXE P w) P w K mg base N qual scope f cd A outer s H E) (fun _=>E):=by
 have W:(zdu (CXE P w) P w K mg base N qual scope f cd A outer s H E).Own:=⟨rfl,rfl,rfl⟩
 refine ⟨⟨fun pins σ ea cls H1 H' s1 s' I F q=> ?_⟩,fun pins σ ea cls args H1 s1 h2 I hx q=> ?_⟩
 ·exact zlg W I F fun h' F=>⟨ea,cls,H',rfl,F,q⟩
 ·exact zkd W I hx fun h' F=>⟨ea,cls,H1,rfl,F,q⟩
section
variable {X:Cx} {Ek:St→XK} {k:Nat} {f C:Addr} {fd:FuncData} {ps:List Str} {sp:Sp} {dvs:List V} {ds:List Value} {x:Str} {p pos:Pos} {e:Expr} {es:List Expr} {t:TA}
theorem zke {pins:List (Addr×Obj)} {σ:St} {H:Hp} {s:Shared} {Q:VK} {us:List Value} {vs:List V} (L:Lv X Ek) (F:FnOk X.prog X.w X.K X.mg X.base (CXE X.prog X.w) k f fd ps sp) (hr:Room k X.A) (hb:zaN X.K fd ps ds) (hd:zaP dvs ds)
  (I:Inv X pins σ H s) (r:zaP vs us) (h:sp (vs++dvs) H Q (Ek σ)):wpAny (model X.prog X.w) X.A (call (.ref f) us) (EP X pins σ Q) X.xe s:=by
 have r2:zaP (vs++dvs) (us++ds):=r.append hd
 have hl:(us++ds).length=ps.length:=by rw [←r2.length];exact F.len _ _ _ _ h
 refine wpAny_call (codeAny_mono (F.run X.A X.stack s H ⟨us, []⟩ (us++ds) (vs++dvs) Q (Ek σ) hr I.env0 (hb s us I.kIn hl) r2 h) fun r s' hq=> ?_)
 cases r with
 |error e=>
  obtain ⟨ea,cls,H',rfl,fl,q⟩:=hq
  exact L.call pins σ ea cls H H' s s' I fl q
 |ok fl=>
  cases fl with
  |ret u=>exact I.after hq
  |next=>exact False.elim hq
  |brk=>exact False.elim hq
  |cont=>exact False.elim hq
def za9 (sp:Sp) (dvs:List V) (Ek:St→XK) (t:TA):TE:=fun σ H Q=>t σ H fun vs H1=>sp (vs++dvs) H1 Q (Ek σ)
theorem zag (L:Lv X Ek) (F:FnOk X.prog X.w X.K X.mg X.base (CXE X.prog X.w) k f fd ps sp) (hr:Room k X.A) (hg:Gl X x) (hm:X.mg x=some (.ref f)) (hk:PySem.W.keepIn X.K (.ref f)=true) (hb:zaN X.K fd ps ds) (hd:zaP dvs ds)
  (ha:PA X (e::es) t) (hdb:(x==("__debug__":Str))=false:=by decide) (he:starEach (e::es) X.env=(false,eval e X.env)::starEach es X.env:=by rfl) (hpl:(backTo pos (starEach es X.env)).any (·.1)=false:=by rfl):
  PE X (.Call (.Name x p) (e::es) [] pos) (za9 sp dvs Ek t):=by
 intro pins s σ H Q I h
 refine wpAny_Call_Name_kw (zeJ I hg hm ?_ hdb)
 refine PySem.W.callWith_K (h₀:=X.base) I.ok.mod.kin hk (thn (ha pos pins s σ H _ I h) fun us s1 ⟨vs,H1,I1,r,q⟩=>⟨I1.kIn,?_⟩) he hpl
 exact zke L F hr hb hd I1 r q
structure Exc (K:PySem.W.Frag) (C:Addr):Prop where
 ok: ∃bmB newId initId,ExcBaseFacts "ValueError" newId initId bmB∧PySem.W.excIn K C bmB newId=true
theorem zkf {K:PySem.W.Frag} {h:Heap} {C:Addr} {bmB:List Value} {newId:String} (X:K.In h) (q:PySem.W.excIn K C bmB newId=true):
  ∃bm N nm q bs hdct sn sub ab col dd k0 k1 k2 k3 k5 mN,h.get? C=some (excClassObj nm q C N bs bm hdct sn sub ab col dd k0 k1 k2 k3 k5 newId)∧h.Ns N mN∧mN "__init__"=none∧OwnTail h bmB bm:=by
 unfold PySem.W.excIn at q
 split at q
 case h_2=>cases q
 case h_1 dd cd sl ho=>
  split at q
  case h_2=>cases q
  case h_1 C1 bm1 a0 a1 a2 a3 nw a5 hm hs=>
   simp only [Bool.and_eq_true,beq_iff_eq,Bool.not_eq_true'] at q
   obtain ⟨⟨⟨⟨⟨e1,e2⟩,e3⟩,e4⟩,e5⟩,e6⟩:=q
   subst e1
   subst e2
   cases cd with
   |mk nm bs mro ns qn hd sn sub ab col del=>
    have m1:mro= .ref C1::bm1:=hm
    have m2:del=false:=e3
    subst m1
    subst m2
    have z:sl= #[a0,a1,a2,a3,some (.builtin nw),a5]:=Array.toList_inj.mp hs
    subst z
    exact ⟨bm1,ns,nm,qn,bs,hd,sn,sub,ab,col,dd,a0,a1,a2,a3,a5,_,X _ _ ho,Heap.Ns.of_isNs (PySem.W.isNs_of_in X e5),PySem.W.nsMap_none_of_in X e5 e6,PySem.W.tail_of_in X e4⟩
def zba (C:Addr) (Ek:St→XK) (t:TA):TS:=fun _ σ H=>t σ H fun vs H1=>vs.length≤sizeLine∧Ek σ (.ref C) none H1
theorem zcA (L:LvR X Ek) (O:Exc X.K C) (hc:X.calm=true) (hg:Gl X x) (hm:X.mg x=some (.ref C)) (ha:PA X (e::es) t) (hdb:(x==("__debug__":Str))=false:=by decide)
  (he:starEach (e::es) X.env=(false,eval e X.env)::starEach es X.env:=by rfl) (hpl:(backTo pos (starEach es X.env)).any (·.1)=false:=by rfl) {rpos:Pos}:
  PS X (.Raise (some (.Call (.Name x p) (e::es) [] pos)) none rpos) (zba C Ek t):=by
 intro pins s σ H D I h
 obtain ⟨bmB,newId,initId,FB,q⟩:=O.ok
 obtain ⟨tl,N,nm,qn,bs,hdct,sn,sub,ab,col,dd,k0,k1,k2,k3,k5,mN,hC,hN,hni,T⟩:=zkf I.ok.mod.kin q
 refine wpAny_Raise_call_subT (C:=C) (nm:=nm) (q:=qn) (N:=N) (bs:=bs) (bm:=tl) (hdct:=hdct) (sn:=sn) (sub:=sub) (ab:=ab) (col:=col) (dd:=dd) (k0:=k0) (k1:=k1) (k2:=k2) (k3:=k3) (k5:=k5)
  FB (mN:=mN) (T.hasType FB.hasBase) (I.ok.hd hc) (by rw [he];show (false||(backTo pos (starEach es X.env)).any (·.1))=false;rw [hpl];rfl) hni (zeJ I hg hm ⟨rfl,?_⟩ hdb)
 have ha':=ha pos pins s σ H _ I h
 rw [he] at ha' ⊢
 refine Calls.evalArgs_plain (wpAny_mono ha' (fun us s2 hq=> ?_) fun _ _ y=>y)
 obtain ⟨vs,H1,I1,r,hl,q1⟩:=hq
 refine ⟨rfl,by rw [←r.length];exact hl,I1.bk _ _ hC,hN.keeps I1.bk,T.keeps I1.bk,fun h' ea hm=> ?_⟩
 exact L.new pins σ ea _ us H1 s2 h' I1 hm q1
end
def zkT (ea:Addr) (cls:Value):HO:= .ext fun h=> ∃o vs,h.get? ea=some o∧o.cls=cls∧o.data= .fields vs
section
variable {X:Cx} {pins:List (Addr×Obj)} {σ:St} {H H':Hp} {s s':Shared}
end
section
variable {X:Cx} {body suite:List Stmt} {b₀:Stmt} {n xn:Str} {i:Nat} {C:Addr} {tb:(St→XK)→TS} {ts:TS} {np hpos pos:Pos}
end
end L2
namespace L2
open PySem PySem.Spec PyProof.Rows
theorem Fun.okX {P:Program} {w:World} {K:PySem.W.Frag} {mg:Str→Option Value} {base:Heap} {x qual:Str} {st:Stmt} {f:Addr} {fd:FuncData} {N ps:List Str} {k:Nat} {sp:Sp} (F:Fun K x qual st f fd) (S:FnScope N ps (zap st)) (len: ∀vs H Q E,sp vs H Q E→vs.length=ps.length)
  (hbody: ∀(cdv:Value) (A:Around) (outer:List Env) (s:Shared) (H:Hp) (vs:List V) (Q:VK) (E:XK),LvR (zdu (CXE P w) P w K mg base N qual (zap st) f cdv A outer s H E) (fun _=>E)→Room k (A.deeper (envOfC qual (zap st) s.heap.objs.size f cdv))→sp vs H Q E→
   ∃t,PSs (zdu (CXE P w) P w K mg base N qual (zap st) f cdv A outer s H E) (zcX st) t∧t {nx:=fun _ H'=>Q .non H',rt:=Q} (start N vs) H):FnOk P w K mg base (CXE P w) (k+1) f fd ps sp:=by
 obtain ⟨oc,od,kV,doc,pm,an,cdv,ct,osl,rfl,lk,hcd⟩:=F.ex
 exact zkS lk hcd S len fun A outer s H vs Q E hr hsp=>hbody cdv A outer s H vs Q E zje hr hsp
end L2
namespace L2
open PySem PySem.Spec PyProof.Rows
theorem zct:bootBuiltins "len"=some (.builtin "len"):=by decide+kernel
theorem zeT:bootBuiltins "min"=some (.builtin "min"):=by decide+kernel
theorem zjf:bootBuiltins "max"=some (.builtin "max"):=by decide+kernel
theorem zfC:bootBuiltins "divmod"=some (.builtin "divmod"):=by decide+kernel
theorem zdT:bootBuiltins "isinstance"=some (.builtin "isinstance"):=by decide+kernel
theorem zf6:bootBuiltins "int"=some (.type "int"):=by decide+kernel
theorem zkg:bootBuiltins "bool"=some (.type "bool"):=by decide+kernel
theorem zkh:bootBuiltins "list"=some (.type "list"):=by decide+kernel
open PySem.Builtin PySem.Builtin.ObjectAttr PySem.Builtin.Getset_descriptor
structure ExcCls (K:PySem.W.Frag) (D:Addr):Prop where
 cls:(PySem.W.clsIn K D).isSome=true
 ga:PySem.W.findIn K (.ref D) "__getattribute__"=some (some (.builtin "BaseException.__getattribute__"))
 gt:PySem.W.findIn K (.ref D) "__getattr__"=some none
 cl:PySem.W.findIn K (.ref D) "__class__"=some (some (.builtin "object.__class__"))
 mo:PySem.W.mroIn K D (.type "object")=some true
 mb:PySem.W.mroIn K D (.type "BaseException")=some true
section
variable {prog:Program} {w:World} {A:Around} {E:Value→Shared→Prop} {h:Heap} {g:Array GenState} {d:Drawn} {t:Nat} {os:OsState} {K:PySem.W.Frag} {a D:Addr} {o:Obj}
theorem zeU {M:Model} (hx:h.get? a=some o) (hc:o.cls= .ref D):PySem.W.Looks M h (typeOf (.ref a)) (.ref D):=hc ▸ (PySem.W.Looks.ld hx).andThen .now
theorem zfo {R:Result→Shared→Prop} (X:K.In h) (C:ExcCls K D) (hx:h.get? a=some o) (hc:o.cls= .ref D) (hq:R (.ok (.ret (.ref D))) ⟨h,g,d,t,os⟩):
  codeAny (model prog w) A (.call (.builtin "getset_descriptor.__get__") ⟨[.builtin "object.__class__", .ref a, .ref D], []⟩) R ⟨h,g,d,t,os⟩:=by
 have L0:=zeU (M:=model prog w) hx hc
 have L1:=PySem.W.looks_mroIn (M:=model prog w) X C.mo
 have T5:(⟨h,g,d,t,os⟩:Shared).TypeIs (.builtin "object.__class__") "getset_descriptor":=F.typeOf_object_class
 refine codeAny_call_builtin F.slot_gs_get.plain F.entry_gs_get (F.slot_gs_get.check _ _ _ _ _ _ _ _ T5 (F.args_gs_get _ _ _) ?_)
 unfold Builtin.«getset_descriptor.__get__» descrGet
 rw [PySem.W.dga_obj]
 refine wpAny_bind (wpAny_pure ?_)
 unfold descrGetter descrCheckInstance descrNameAndClass
 unfold isInstance
 simp only [PySem.W.KF.owner_class]
 repeat lk
 refine ⟨Code.quiet_builtin _ (by decide+kernel),codeAny_builtin F.entry_object_class ?_⟩
 unfold Builtin.«object.__class__»
 unfold shownTypeOf
 repeat lk
 exact hq
theorem zeI {tk:Tok} {Q:Fin→Shared→Prop} (X:K.In h) (C:ExcCls K D) (hx:h.get? a=some o) (hc:o.cls= .ref D) (hq:Q (.done (.ret (.ref D))) ⟨h,g,d,t,os⟩):
  wpAny (model prog w) A (Builtin.«object.__getattribute__» ⟨[.ref a, .str "__class__" tk], []⟩) Q E ⟨h,g,d,t,os⟩:=by
 have L0:=zeU (M:=model prog w) hx hc
 have L1:=PySem.W.looks_findIn (M:=model prog w) X C.cl
 have T5:(⟨h,g,d,t,os⟩:Shared).TypeIs (.builtin "object.__class__") "getset_descriptor":=F.typeOf_object_class
 have f5:=F.typeOf_object_class
 have f6:=F.slot_gs_get.lookup
 have f7:=F.slot_gs_set.lookup
 repeat (any_goals (first|assumption|(with_reducible refine wpAny_loadPart_at hx ?_;rw [hc])|with_reducible refine PySem.W.Looks.at L1 ?_|wp_step))
 refine zfo X C hx hc ?_
 repeat (any_goals (first|assumption|wp_step))
theorem zeV {tk:Tok} {R:Result→Shared→Prop} (X:K.In h) (C:ExcCls K D) (hx:h.get? a=some o) (hc:o.cls= .ref D) (hq:R (.ok (.ret (.ref D))) ⟨h,g,d,t,os⟩)
  (hk: ∀(Q:Unit→Shared→Prop) (E:Value→Shared→Prop) (A:Around) (nameV:Value),Q () ⟨h,g,d,t,os⟩→wpAny (model prog w) A (checkBuiltinCall "BaseException.__getattribute__" ⟨[.ref a,nameV], []⟩) Q E ⟨h,g,d,t,os⟩):
  codeAny (model prog w) A (.call (.builtin "BaseException.__getattribute__") ⟨[.ref a, .str "__class__" tk], []⟩) R ⟨h,g,d,t,os⟩:=
 codeAny_call_builtin F.excAttr_ValueError.ga.plain F.entry_bexc_ga (hk _ _ _ _ (zeI X C hx hc hq))
theorem ziy {M:Model} {nameV:Value} {Q:Unit→Shared→Prop} (X:K.In h) (C:ExcCls K D) (hx:h.get? a=some o) (hc:o.cls= .ref D) (hq:Q () ⟨h,g,d,t,os⟩):
  wpAny M A (checkBuiltinCall "BaseException.__getattribute__" ⟨[.ref a,nameV], []⟩) Q E ⟨h,g,d,t,os⟩:=by
 have k1:builtinKind "BaseException.__getattribute__"=some .slot:=by decide+kernel
 have k2:splitId "BaseException.__getattribute__"=some ("BaseException","__getattribute__"):=by decide+kernel
 have L0:=zeU (M:=M) hx hc
 have L1:=PySem.W.looks_mroIn (M:=M) X C.mb
 have k3:=F.args_bexc_ga (.ref a) nameV
 simp only [checkBuiltinCall,k1,k2]
 refine wpAny_bind ?_
 unfold isInstance
 repeat (any_goals (first|assumption|(with_reducible refine wpAny_loadPart_at hx ?_;rw [hc])|with_reducible refine PySem.W.Looks.at L1 ?_|wp_step))
theorem zeW {Q:Option Value→Shared→Prop} (X:K.In h) (C:ExcCls K D) (hx:h.get? a=some o) (hc:o.cls= .ref D) (hq:Q (some (.ref D)) ⟨h,g,d,t+1,os⟩):
  wpAny (model prog w) A (getAttr? (.ref a) "__class__") Q E ⟨h,g,d,t,os⟩:=by
 have L0:=zeU (M:=model prog w) hx hc
 have L1:=PySem.W.looks_findIn (M:=model prog w) X C.ga
 have L2:=PySem.W.looks_findIn (M:=model prog w) X C.gt
 have f3:=F.excAttr_ValueError.ga.bind (.ref a)
 have x2:(Value.builtin "BaseException.__getattribute__"==Value.builtin "object.__getattribute__")=false:=by decide+kernel
 have x1:(onTheHeap (Value.ref D) && Value.builtin "BaseException.__getattribute__"==Value.builtin "object.__getattribute__")=false:=by rw [x2];rfl
 have x0:(false && onTheHeap (Value.builtin "BaseException.__getattribute__"))=false:=rfl
 unfold getAttr? getAttrBy?
 repeat (any_goals (first|assumption|(with_reducible refine wpAny_loadPart_at hx ?_;rw [hc])|with_reducible refine PySem.W.Looks.at L1 ?_|with_reducible refine PySem.W.Looks.at L2 ?_|wp_step))
 refine zeV X C hx hc ?_ (fun Q E A n q=>ziy X C hx hc q)
 repeat (any_goals (first|assumption|wp_step))
end
theorem zjg {K:PySem.W.Frag} {a D:Addr} (C:ExcCls K D):PySem.W.KitX K (.ref a) (.ref D) (fun h=> ∃o vs,h.get? a=some o∧o.cls= .ref D∧o.data= .fields vs) where
 ty:=fun _ _ _ ⟨_,_,h1,h2,_⟩=>zeU h1 h2
 it:=fun _ _ X _=>by
  obtain ⟨cd,hc⟩:=Option.isSome_iff_exists.mp C.cls
  unfold PySem.W.clsIn at hc
  split at hc
  case h_2=>cases hc
  case h_1 ho=>
   intro A' Q' E' s' k q
   unfold isType loadHead
   exact wpAny_bind (wpAny_loadPart (k _ _ (X _ _ ho)) (wpAny_pure q))
 ne:=fun h tp dd its n sl X htp=>by
  obtain ⟨cd,hc⟩:=Option.isSome_iff_exists.mp C.cls
  unfold PySem.W.clsIn at hc
  refine Bool.eq_false_iff.mpr fun q=> ?_
  obtain rfl:D=tp:=Value.ref.inj (beq_iff_eq.mp q)
  split at hc
  case h_2=>cases hc
  case h_1 ho=>cases (X _ _ ho).symm.trans htp
 ca:=fun {_ _ _ _ _ s} X ⟨_,_,h1,h2,_⟩ k=>by
  obtain ⟨h,g,d,t,os⟩:=s
  exact zeW X C h1 h2 k
inductive TyX (K:PySem.W.Frag) (H:Hp):V→Value→Prop where
 |old {x:V} {t:Value} (h:TyOf K H x t):TyX K H x t
 |exc {a D:Addr} (e:H a=some (zkT a (.ref D))) (C:ExcCls K D):TyX K H (.ref a) (.ref D)
theorem zeA {X:Cx}:zc5 X (.builtin "isinstance") (fun xs H Q=> ∃x c t cv b,xs= [x,c]∧TyX X.K H x t∧zaL c cv∧PySem.W.kitOne X.K t cv=some b∧Q (.bl b) H):=by
 intro pins s σ H xs us Q I r h
 obtain ⟨x,c,t,cv,b,rfl,ty,rc,e,q⟩:=h
 obtain ⟨u,u2,rfl,r1,r2⟩:=zhU r
 have e2:u2=cv:=by
  cases c<;>first
   |exact r2.trans rc.symm
   |(exfalso
     obtain ⟨t2,z⟩:=rc
     subst z
     revert e
     unfold PySem.W.kitOne PySem.W.kitCls
     cases ty with
     |exc e C=>simp
     |old h=>cases h<;>simp)
 subst e2
 cases ty with
 |old h=>exact ziu I r1 h e fun tk=>⟨.bl b,H,I.tok tk,rfl,q⟩
 | @exc a D ea C=>
  cases (show u=Value.ref a from r1)
  obtain ⟨p,_⟩:=(show zbp X.prog X.w H s.heap a (zkT a (.ref D)) from I.hok a _ ea)
  exact PySem.W.kia_one (zjg C) I.kIn p e (fun z=>nomatch z) fun tk=>⟨.bl b,H,I.tok tk,rfl,q⟩
structure ClsOk (K:PySem.W.Frag) (C:Addr):Prop where
 cls:(PySem.W.clsIn K C).isSome=true
 ty:PySem.W.typeIn K (.ref C)=some (.type "type")
 me:PySem.W.mroIn K C (.ref C)=some true
theorem zgD {K:PySem.W.Frag}:PySem.W.kitOne K (.type "int") (.type "int")=some true:=by
 unfold PySem.W.kitOne
 rw [if_pos (by decide)]
theorem zf7 {K:PySem.W.Frag}:PySem.W.kitOne K (.type "int") (.type "bool")=some false:=by
 unfold PySem.W.kitOne
 rw [if_neg (by decide)]
 kernel_rfl
section
variable {X:Cx}
end
section
variable {X:Cx}
theorem zkU {x:Str} {n:String} {pos:Pos} (hg:Gl X x) (hm:X.mg x=none) (hv:bootBuiltins x=some (.type n)) (hn:x≠"__name__":=by decide) (hd:(x==("__debug__":Str))=false:=by decide):PE X (.Name x pos) (tC (.ty n)):=
 zj5 (v:= .ty n) hg hm hv rfl hn hd
end
theorem zcu {CX:CXT} {P:Program} {w:World} {K:PySem.W.Frag} {mg:Str→Option Value} {base:Heap} {N:List Str} {qual:Str} {scope:Scope} {f:Addr} {cd:Value} {A:Around} {outer:List Env} {s:Shared} {H:Hp} {E:XK}:
  (zdu CX P w K mg base N qual scope f cd A outer s H E).K=K:=rfl
theorem slT {n:Nat} (h:n≤1000):(n≤sizeLine)=True:=eq_true (Nat.le_trans h (by decide))
theorem ixL {K:PySem.W.Frag} {H:Hp} {p:Addr} {xs:List V} {i:Int} {v:V} {Q:VK} (h:SqL K H p xs) (e:atI xs i=some v) (q:Q v H):ziv K (.ref p) (.int i) H Q:=⟨p,xs,i,v,rfl,rfl,h,e,q⟩
theorem ixT {K:PySem.W.Frag} {H:Hp} {p:Addr} {xs:List V} {i:Int} {v:V} {Q:VK} (h:SqT K H p xs) (e:atI xs i=some v) (q:Q v H):zgC K (.ref p) (.int i) H Q:=⟨p,xs,i,v,rfl,rfl,h,e,q⟩
theorem zcR {xs:List Int} {i:Int} (h0:0≤i) (h1:i<xs.length):atI (xs.map V.int) i=some (.int (xs.getD i.toNat 0)):=by
 obtain ⟨k,rfl⟩:=Int.eq_ofNat_of_zero_le h0
 have hk:k<xs.length:=by omega
 refine zbw ?_
 rw [List.getElem?_map,List.getElem?_eq_getElem hk,Int.toNat_natCast,List.getD_eq_getElem?_getD,List.getElem?_eq_getElem hk]
 rfl
theorem zcB {H:Hp} {p:Addr} (h:H p=none) (o:HO):zao H (upd H p o):=fun b u q=>by rw [zau (zbh q h)];exact q
theorem zaX (a b:Int):(zfl (.int a) (.int b)=true)=True:=eq_true rfl
theorem zaY (a b:Bool):(zfl (.bl a) (.bl b)=true)=True:=eq_true rfl
theorem zaZ (a b:Str):(zfl (.str a) (.str b)=true)=True:=eq_true rfl
theorem za0 (b:Int):(zfl .non (.int b)=true)=True:=eq_true rfl
theorem za1 (a:Int):(zfl (.int a) .non=true)=True:=eq_true rfl
end L2
namespace L2
open PySem PySem.Spec PyProof.Rows
section
variable {X:Cx}
end
theorem zc8 {H H':Hp} {p:Addr} {o:HO} (s:zao H H') (h:H p=none):zao H (upd H' p o):=fun b u q=>by
 rw [zau (zbh q h)]
 exact s b u q
theorem zao.sqT {K:PySem.W.Frag} {H H':Hp} {a:Addr} {xs:List V} (e:zao H H') (h:SqT K H a xs):SqT K H' a xs:=by
 rcases h with (h|⟨o,h⟩)|h
 ·exact .inl (.inl (e _ _ h))
 ·exact .inl (.inr ⟨o,e _ _ h⟩)
 ·exact .inr h
end L2
namespace L2
open PySem PySem.Spec PyProof.Rows
def zmn (t:TS):TS:=fun D σ H=> ∃R:St→Hp→Prop,t {D with nx:=R} σ H∧ ∀σ' H',R σ' H'→D.nx σ' H'
theorem zc3 {X:Cx} {st:Stmt} {t:TS} (h:PS X st t):PS X st (zmn t):=by
 intro pins s σ H D I q
 obtain ⟨R,q1,q2⟩:=q
 refine thn (h pins s σ H {D with nx:=R} I q1) fun f s1 z=> ?_
 cases f with
 |next=>
  obtain ⟨σ',H',I',z⟩:=z
  exact ⟨σ',H',I',q2 _ _ z⟩
 |ret v=>exact z
 |brk=>exact z
 |cont=>exact z
section
variable {X:Cx} {Ek:St→XK} {k:Nat} {f:Addr} {fd:FuncData} {ps:List Str} {sp:Sp} {x:Str} {p pos:Pos} {e:Expr} {es:List Expr} {t:TA}
def zbk (i:Nat) (f:Addr) (sp:Sp) (Ek:St→XK) (t:TA):TE:=fun σ H Q=>σ[i]? =some (some (.ref f))∧t σ H fun vs H1=>sp vs H1 Q (Ek σ)
end
section
variable {X:Cx} {K:PySem.W.Frag}
theorem zki (e:X.K=K):IxR X (zgC K):=e ▸ zas
end
end L2
namespace L2
open PySem PySem.Spec PyProof.Rows
def SL (cs:List Nat):Str:=⟨cs.toArray⟩
theorem zhh (cs:List Nat):(SL cs).length=cs.length:=by show cs.toArray.size=_;simp
theorem zlh (a b:List Nat):SL a++SL b=SL (a++b):=by
 show (⟨a.toArray++b.toArray⟩:Str)=⟨(a++b).toArray⟩
 simp
theorem za6 (a b:List Nat):(SL a=SL b)=(a=b):=by
 refine propext ⟨fun h=> ?_,fun h=>by rw [h]⟩
 have:=congrArg (fun z:Str=>z.cps.toList) h
 exact this
def Its (x:Str):It:=⟨fun i _=>i<x.cps.size,fun i H v H'=>H'=H∧ ∃c,x.cps[i]? =some c∧v= .str ⟨#[c]⟩,fun i _=>i=x.cps.size⟩
section
variable {X:Cx} {tg:Expr}
def zcv (tl:TE):TI:=fun σ H R=>tl σ H fun x H1=> ∃z,x= .str z∧R (Its z) H1
end
section
variable {X:Cx}
theorem zax {x:Str} {cs:List Nat} {j pos} (e:x=SL cs):PE X (.Constant (.str x) j pos) (tC (.str (SL cs))):=e ▸ zc1
theorem zjh:OpR X (binaryOp .Add) (fun x y H Q=> ∃a b,x= .str (SL a)∧y= .str (SL b)∧a.length+b.length≤sizeLine∧Q (.str (SL (a++b))) H):=by
 intro pins s σ H x y v u Q I rx ry h
 obtain ⟨a,b,rfl,rfl,hz,q⟩:=h
 exact zhb pins s σ H _ _ v u Q I rx ry ⟨_,_,rfl,rfl,by rw [zhh,zhh];exact hz,by rw [zlh];exact q⟩
theorem zmo:IxR X (fun x y H Q=> ∃cs i c,x= .str (SL cs)∧y= .int i∧cs.length≤sizeLine∧atI cs i=some c∧Q (.str (SL [c])) H):=by
 intro value slice pins s σ H x y v u Q I rx ry h hs
 obtain ⟨cs,i,c,rfl,rfl,hz,he,q⟩:=h
 exact zjc value slice pins s σ H _ _ v u Q I rx ry ⟨_,i,c,rfl,rfl,by rw [zhh];exact hz,he,q⟩ hs
end
def zf (cs:List Nat) (n:Nat):List Nat:=List.replicate (n - cs.length) 48++cs
section
variable {X:Cx}
end
end L2
namespace L2
open PySem PySem.NumText
theorem zdm {xs:List Int} {lo hi:Int} (h: ∀x∈xs,lo≤x∧x≤hi) {i:Int} (h0:0≤i) (h1:i<xs.length):lo≤xs.getD i.toNat 0∧xs.getD i.toNat 0≤hi:=by
 have hl:i.toNat<xs.length:=by omega
 rw [List.getD_eq_getElem?_getD,List.getElem?_eq_getElem hl]
 exact h _ (List.getElem_mem hl)
end L2
namespace L2
open PySem PySem.Spec PyProof.Rows
section
variable {prog:Program} {w:World} {A:Around} {E:Value→Shared→Prop}
end
section
variable {X:Cx} {pos:Pos}
end
def PEt (X:Cx) (e:Expr) (t:TE):Prop:=
 ∀(pins:List (Addr×Obj)) (s:Shared) (σ:St) (H:Hp) (Q:VK),0<s.toks→Inv X pins σ H s→t σ H Q→wpAny (model X.prog X.w) X.A (eval e X.env) (EP X pins σ Q) X.xe s
def PAt (X:Cx) (es:List Expr) (t:TA):Prop:=
 ∀(pos:Pos) (pins:List (Addr×Obj)) (s:Shared) (σ:St) (H:Hp) (Q:List V→Hp→Prop),0<s.toks→Inv X pins σ H s→t σ H Q→wpAny (model X.prog X.w) X.A (spliced (backTo pos (starEach es X.env))) (AP X pins σ Q) X.xe s
def PSst (X:Cx) (st:List Stmt) (t:TS):Prop:=
 ∀(pins:List (Addr×Obj)) (s:Shared) (σ:St) (H:Hp) (D:Ends),0<s.toks→Inv X pins σ H s→t D σ H→wpAny (model X.prog X.w) X.A (execs st X.env) (SP X pins D) X.xe s
section
variable {X:Cx} {a b e o:Expr} {es:List Expr} {te ta tb to:TE} {t:TA} {pos apos cpos:Pos}
end
theorem zkj {ys:List (List Nat)} {i:Int} (h0:0≤i) (h1:i<ys.length): ∃y,y∈ys∧atI (ys.map fun y=>V.str (SL y)) i=some (.str (SL y)):=by
 obtain ⟨k,rfl⟩:=Int.eq_ofNat_of_zero_le h0
 have hk:k<ys.length:=by omega
 refine ⟨ys[k],List.getElem_mem hk,zbw ?_⟩
 rw [List.getElem?_map,List.getElem?_eq_getElem hk]
 rfl
end L2
namespace L2
open PySem PySem.Spec PyProof.Rows
section
variable {prog:Program} {w:World} {A:Around} {R:Result→Shared→Prop} {s:Shared}
abbrev NoE:Value→Shared→Prop:=fun _ _=>False
theorem zgE {elt target iter:Expr} {ifs:List Expr} {scope:Scope} {pos:Pos} {it acc:Value} {env:Env} (I:Nat→Shared→Prop)
  (turn: ∀n s,I n s→wpAny (model prog w) A (pyNext it) (fun r s₁=>match r with
   |none=>R (.ok .next) s₁
   |some v=>wpAny (model prog w) A (letOwnedTupleGo target it v) (fun _ s₁'=>wpAny (model prog w) A (assign target env v) (fun _ s₂=>
     wpAny (model prog w) A (forIn ifs true fun c r=>if r=true then do let ok←isTrue c env (eval c env);pure (ForInStep.yield ok) else pure (ForInStep.yield r)) (fun ok s₃=>
      if ok=true then wpAny (model prog w) A (eval elt env) (fun x s₄=>
       wpAny (model prog w) A (call (.builtin "list.append") [acc,x]) (fun _ s₅=> ∃m,m<n∧I m s₅) NoE s₄) NoE s₃
      else∃m,m<n∧I m s₃) NoE s₂) NoE s₁') NoE s₁) NoE s)
  (n:Nat) (h:I n s):
  codeAny (model prog w) A (.compLoop (.ListComp elt [⟨target,iter,ifs,0⟩] scope pos) 0 it acc env) R s:=by
 refine codeAny_loop rfl I (fun n s hI=> ?_) n h
 show wpAny _ A ((compTurn (.ListComp elt [⟨target,iter,ifs,0⟩] scope pos) 0 it acc env).onRaise (fun x=>do noteFrame x env;theTreesLotGoes x)) _ _ s
 refine wpAny_noted ?_
 rw [compTurn_list]
 refine wpAny_bind (wpAny_standAt (wpAny_bind (wpAny_mono (turn n s hI) (fun r s₁ h₁=> ?_) fun _ _ h'=>h'.elim)))
 cases r with
 |none=>exact wpAny_pure h₁
 |some v=>
  refine wpAny_bind (wpAny_mono h₁ (fun _ s₁' h₁'=> ?_) fun _ _ h'=>h'.elim)
  refine wpAny_bind (wpAny_mono h₁' (fun _ s₂ h₂=>wpAny_bind (wpAny_mono h₂ (fun ok s₃ h₃=> ?_) fun _ _ h'=>h'.elim)) fun _ _ h'=>h'.elim)
  cases ok with
  |false=>exact wpAny_pure ⟨rfl,h₃⟩
  |true=>
   exact wpAny_bind (wpAny_bind (wpAny_mono h₃ (fun x s₄ h₄=>wpAny_bind (wpAny_mono h₄ (fun _ s₅ h₅=>wpAny_pure (wpAny_pure ⟨rfl,h₅⟩)) fun _ _ h'=>h'.elim)) fun _ _ h'=>h'.elim))
end
structure CA where
 cl:List (Str×Addr)
 C:Addr
 s:Shared
 H:Hp
 fp:List Addr
def Cx.comp (X:Cx) (scope:Scope) (N:List Str) (a:CA):Cx:=
 {X with N:=N,s₀:=a.s,H₀:=a.H,env:=compEnvC scope a.cl a.C X.env,outer:=X.stack,ex:=a.fp,fn:=fun _=>false,pn:= [],xe:=NoE}
theorem zbl {X:Cx} {scope:Scope} {N:List Str} {a:CA}:(X.comp scope N a).K=X.K:=rfl
theorem zfD {X:Cx}:Lv X (fun _ _ _ _=>False):=⟨fun _ _ _ _ _ _ _ _ _ _ q=>q.elim⟩
def zeX (outer:List (Str×NameKind)) (oN:List Str) (inner:List (Str×NameKind)) (N:List Str) (n:Nat) (js:List Nat):Bool:=
 N.length==n+js.length &&
 (inner.all fun p=>p.2 != .cell && (p.2 != .local||inner.lookup p.1==some .local) && (p.2 != .free||(inner.lookup p.1==some .free && (outer.lookup p.1==some .cell||outer.lookup p.1==some .free)))) &&
 (List.range js.length).all fun k=>match js[k]?,N[n+k]? with
  |some j,some x=>oN[j]? ==some x && (outer.lookup x==some .cell||outer.lookup x==some .free) && inner.lookup x==some .free
  |_,_=>false
def zbn (σ:St) (n:Nat) (js:List Nat):St:=List.replicate n none++js.map fun j=>(σ[j]?).join
def Sub (σ τ:St):Prop:=σ.length=τ.length∧ ∀(i:Nat) v,σ[i]? =some (some v)→τ[i]? =some (some v)
theorem za2:Sub [] []=True:=eq_true ⟨rfl,fun i v h=>by simp at h⟩
theorem zaG {σ τ:St} {x:Option V}:Sub (none::σ) (x::τ)=Sub σ τ:=by
 refine propext ⟨fun h=>⟨by simpa using h.1,fun i v e=>by simpa using h.2 (i+1) v (by simpa using e)⟩,fun h=>⟨by simpa using h.1,fun i v e=> ?_⟩⟩
 cases i with
 |zero=>simp at e
 |succ i=>simpa using h.2 i v (by simpa using e)
theorem zaH {σ τ:St} {x:V}:Sub (some x::σ) (some x::τ)=Sub σ τ:=by
 refine propext ⟨fun h=>⟨by simpa using h.1,fun i v e=>by simpa using h.2 (i+1) v (by simpa using e)⟩,fun h=>⟨by simpa using h.1,fun i v e=> ?_⟩⟩
 cases i with
 |zero=>simpa using e
 |succ i=>simpa using h.2 i v (by simpa using e)
theorem zhi {scope:Scope} {env:Env} (h: ∀p∈scope.names,p.2=NameKind.free→ ∃c,env.cells.lookup p.1=some c):
  ∃cl,closureFor scope env=pure cl∧(∀x c,cl.lookup x=some c→env.cells.lookup x=some c)∧ ∀p∈scope.names,p.2=NameKind.free→ ∃c,cl.lookup p.1=some c:=by
 have go: ∀(names:List (Str×NameKind)) (acc:List (Str×Addr)),(∀p∈names,p.2=NameKind.free→ ∃c,env.cells.lookup p.1=some c)→(∀x c,acc.lookup x=some c→env.cells.lookup x=some c)→
   ∃cl,(forIn names acc (fun x r=>match x with|(name,kind)=>if (kind==NameKind.free)=true then do let c←cellOf env name;pure (ForInStep.yield ((name,c)::r)) else pure (ForInStep.yield r)):Sem (List (Str×Addr)))=pure cl∧
    (∀x c,cl.lookup x=some c→env.cells.lookup x=some c)∧(∀p∈names,p.2=NameKind.free→ ∃c,cl.lookup p.1=some c)∧ ∀x,(∃c,acc.lookup x=some c)→ ∃c,cl.lookup x=some c:=by
  intro names
  induction names with
  |nil=>intro acc _ ha;exact ⟨acc,rfl,ha,fun p hp=>absurd hp (by simp),fun _ q=>q⟩
  |cons p r ih=>
   intro acc hp ha
   obtain ⟨nm,k⟩:=p
   by_cases hk:k=NameKind.free
   ·subst hk
    obtain ⟨c,hc⟩:=hp (nm, .free) List.mem_cons_self rfl
    have ec:cellOf env nm=pure c:=by unfold cellOf;rw [hc]
    have ha': ∀x c',((nm,c)::acc).lookup x=some c'→env.cells.lookup x=some c':=fun x c' e=>by
     rw [List.lookup_cons] at e
     cases z:x==nm with
     |true=>rw [z] at e;cases e;rw [eq_of_beq z];exact hc
     |false=>rw [z] at e;exact ha x c' e
    obtain ⟨cl,e,q1,q2,q3⟩:=ih ((nm,c)::acc) (fun p hp'=>hp p (List.mem_cons_of_mem _ hp')) ha'
    refine ⟨cl,?_,q1,fun p hp' hf=> ?_,fun x hx=>q3 x ?_⟩
    ·rw [List.forIn_cons]
     simp only [beq_self_eq_true,if_true,ec]
     exact e
    ·rcases List.mem_cons.mp hp' with rfl|hp'
     ·exact q3 nm ⟨c,by rw [List.lookup_cons,beq_self_eq_true]⟩
     ·exact q2 p hp' hf
    ·rw [List.lookup_cons]
     cases z:x==nm with
     |true=>exact ⟨c,rfl⟩
     |false=>exact hx
   ·obtain ⟨cl,e,q1,q2,q3⟩:=ih acc (fun p hp'=>hp p (List.mem_cons_of_mem _ hp')) ha
    refine ⟨cl,?_,q1,fun p hp' hf=> ?_,q3⟩
    ·rw [List.forIn_cons]
     have z:(k==NameKind.free)=false:=by simpa using hk
     simp only [z,Bool.false_eq_true,if_false]
     exact e
    ·rcases List.mem_cons.mp hp' with rfl|hp'
     ·exact absurd hf hk
     ·exact q2 p hp' hf
 obtain ⟨cl,e,q1,q2,_⟩:=go scope.names [] h (fun x c e=>by simp at e)
 refine ⟨cl,?_,q1,q2⟩
 unfold closureFor
 simp only [pure_bind,bind_pure]
 exact e
theorem zc9 {outer:List (Str×NameKind)} {oN:List Str} {inner:List (Str×NameKind)} {N:List Str} {n:Nat} {js:List Nat} (h:zeX outer oN inner N n js=true):
  N.length=n+js.length∧(∀p∈inner,p.2≠NameKind.cell)∧(∀p∈inner,p.2=NameKind.local→inner.lookup p.1=some .local)∧
  (∀p∈inner,p.2=NameKind.free→inner.lookup p.1=some .free∧(outer.lookup p.1=some .cell∨outer.lookup p.1=some .free))∧
  ∀k j x,js[k]? =some j→N[n+k]? =some x→oN[j]? =some x∧(outer.lookup x=some .cell∨outer.lookup x=some .free)∧inner.lookup x=some .free:=by
 unfold zeX at h
 simp only [Bool.and_eq_true,beq_iff_eq,List.all_eq_true,List.mem_range] at h
 obtain ⟨⟨h1,h2⟩,h3⟩:=h
 refine ⟨h1,fun p hp=>by simpa using (h2 p hp).1.1,fun p hp e=> ?_,fun p hp e=> ?_,fun k j x e1 e2=> ?_⟩
 ·have z:=(h2 p hp).1.2
  rw [e] at z
  simpa using z
 ·have z:=(h2 p hp).2
  rw [e] at z
  simpa using z
 ·have z:=h3 k (List.getElem?_eq_some_iff.mp e1).1
  rw [e1,e2] at z
  simpa [and_assoc] using z
theorem zdC {scope:Scope} {env:Env} {x:Str}:(relabel scope env).names.lookup x=(scope.names.lookup x).map (fun k=>if (k==NameKind.free && env.scope.kind== .function && env.kindOf x==some .cell)=true then NameKind.cell else k):=by
 show (scope.names.map fun (n,k)=>if (k==NameKind.free && env.scope.kind== .function && env.kindOf n==some .cell)=true then (n,NameKind.cell) else (n,k)).lookup x=_
 induction scope.names with
 |nil=>rfl
 |cons p r ih=>
  obtain ⟨nm,k⟩:=p
  rw [List.map_cons]
  dsimp only
  cases z:x==nm with
  |true=>
   obtain rfl:=eq_of_beq z
   by_cases c:(k==NameKind.free && env.scope.kind== .function && env.kindOf x==some .cell)=true
   ·simp only [c,if_true,List.lookup_cons,z,Option.map_some]
   ·rw [if_neg c]
    simp only [List.lookup_cons,z,Option.map_some,if_neg c]
  |false=>
   by_cases c:(k==NameKind.free && env.scope.kind== .function && env.kindOf nm==some .cell)=true
   ·rw [if_pos c]
    simp only [List.lookup_cons,z]
    exact ih
   ·rw [if_neg c]
    simp only [List.lookup_cons,z]
    exact ih
section
variable {X:Cx} {scope:Scope} {N:List Str} {n:Nat} {js:List Nat} {pins:List (Addr×Obj)} {σ:St} {H:Hp} {s₃:Shared} {cl:List (Str×Addr)} {fp:List Addr}
theorem zji (cap:zeX X.env.scope.names X.N scope.names N n js=true) (hkind:scope.kind= .function) (I:Inv X pins σ H s₃) (hc1: ∀x c,cl.lookup x=some c→X.env.cells.lookup x=some c)
  (hc2: ∀p∈scope.names,p.2=NameKind.free→ ∃c,cl.lookup p.1=some c) (hf: ∀b∈fp,zeG X pins H b) (hlt: ∀b∈fp,b<s₃.heap.objs.size) {h₁:Heap} {t:Nat} {m:Str→Option Value}
  (hns:h₁.Ns s₃.heap.objs.size m) (hk: ∀b o,s₃.heap.get? b=some o→h₁.get? b=some o):
  Inv (X.comp scope N ⟨cl,s₃.heap.objs.size,s₃,H,fp⟩) [] (zbn σ n js) H {s₃ with heap:=h₁,toks:=t}:=by
 obtain ⟨k1,k2,k3,k4,k5⟩:=zc9 cap
 have kf: ∀x,((relabel scope X.env).names.lookup x=some .cell∨(relabel scope X.env).names.lookup x=some .free)→scope.names.lookup x=some .free:=fun x h=>by
  rw [zdC] at h
  cases e:scope.names.lookup x with
  |none=>rw [e] at h;simp at h
  |some k=>
   rw [e,Option.map_some] at h
   cases k with
   |free=>rfl
   |cell=>exact absurd rfl (k2 (x, .cell) (PySem.mem_of_lookup e))
   | «local» =>simp at h
   |_=>simp at h
 have bf: ∀x,scope.names.lookup x=some .free→(relabel scope X.env).names.lookup x=some .cell∨(relabel scope X.env).names.lookup x=some .free:=fun x h=>by
  rw [zdC,h,Option.map_some]
  split
  ·exact .inl rfl
  ·exact .inr rfl
 have isC: ∀c v,s₃.heap.IsCell c v→h₁.IsCell c v:=fun c v ⟨o,ho,r⟩=>⟨o,hk _ _ ho,r⟩
 refine ⟨⟨I.ok.mod,hkind,I.ok.glob,I.ok.blt,Nat.le_refl _,fun x y c e1 e2=>I.ok.inj x y c (hc1 x c e1) (hc1 y c e2),fun x h=>hc2 (x, .free) (PySem.mem_of_lookup (kf x h)) rfl,fun x c h=>absurd h Bool.false_ne_true,I.ok.hd,I.ok.frames, .inl rfl,
   fun b hb=>⟨Nat.ne_of_lt (hlt b hb),fun x c e=>(hf b hb).2.2.2.2.1 x c (hc1 x c e)⟩,I.bs,Nat.le_trans I.ok.bsz I.sz,fun b o e hb=> ?_,fun b hb hz=> ?_,I.stack,I.stkFree⟩,
  rfl,I.bare,Un.kept hk,⟨m,hns,fun i x v e1 e2 e3=> ?_⟩,fun x c e=> ?_,I.hok.fresh (Nat.le_refl _),fun x c e=>I.freeC x c (hc1 x c e),fun p hp=>absurd hp (by simp [Cx.comp]),I.hok.kept hk,?_⟩
 ·rcases (hf b hb).2.2.2.1 with z|z
  ·exact I.ok.noex b o e z
  ·exact absurd (Nat.lt_of_lt_of_le (Heap.lt_size e) (Nat.le_trans I.ok.bsz z)) (Nat.lt_irrefl _)
 ·rcases List.mem_cons.mp (I.stkSub b hz) with z|z
  ·exact (hf b hb).2.1 z
  ·exact (hf b hb).2.2.1 z
 ·have e2':(zbn σ n js)[i]? =some (some v):=e2
  unfold zbn at e2'
  by_cases hi:i<n
  ·rw [List.getElem?_append_left (by simpa using hi),List.getElem?_replicate,if_pos hi] at e2'
   cases e2'
  ·rw [List.getElem?_append_right (by simpa using hi),List.length_replicate,List.getElem?_map] at e2'
   cases ej:js[i - n]? with
   |none=>rw [ej] at e2';cases e2'
   |some j=>
    rw [ej,Option.map_some] at e2'
    have e4:(σ[j]?).join=some v:=Option.some.inj e2'
    have e5:σ[j]? =some (some v):=by
     cases q:σ[j]? with
     |none=>rw [q] at e4;cases e4
     |some w=>rw [q] at e4;rw [show w=some v from e4]
    have e1':N[n+(i - n)]? =some x:=by rw [show n+(i - n)=i by omega];exact e1
    obtain ⟨c1,c2,c3⟩:=k5 (i - n) j x ej e1'
    obtain ⟨m',hn',hl'⟩:=I.loc
    obtain ⟨u,ru,lk⟩:=hl' j x v c1 e5 (.inr c2)
    refine ⟨u,ru,?_⟩
    rcases lk with ⟨hk',_⟩|⟨_,c,hc,hcell⟩
    ·have hk'':X.env.scope.names.lookup x=some .local:=hk'
     rcases c2 with c2|c2<;>(rw [hk''] at c2;cases c2)
    ·obtain ⟨c',hc'⟩:=hc2 (x, .free) (PySem.mem_of_lookup c3) rfl
     have:=hc1 x c' hc'
     rw [hc] at this
     cases this
     exact .inr ⟨bf x c3,c,hc',isC _ _ hcell⟩
 ·obtain ⟨v,z⟩:=I.cell x c (hc1 x c e)
  exact ⟨v,isC _ _ z⟩
 ·show (zbn σ n js).length=N.length
  unfold zbn
  rw [List.length_append,List.length_replicate,List.length_map,k1]
end
def PIf (X:Cx) (ifs:List Expr) (t:TT):Prop:=
 ∀(pins:List (Addr×Obj)) (s:Shared) (σ:St) (H:Hp) (Q:Bool→Hp→Prop),Inv X pins σ H s→t σ H Q→
  wpAny (model X.prog X.w) X.A (forIn ifs true fun c r=>if r=true then do let ok←isTrue c X.env (eval c X.env);pure (ForInStep.yield ok) else pure (ForInStep.yield r)) (TP X pins σ Q) X.xe s
def zcq:TT:=fun _ H Q=>Q true H
theorem zcC {X:Cx}:PIf X [] zcq:=fun _ _ _ H _ I h=>wpAny_tests_nil ⟨H,I,h⟩
theorem zd9 {X:Cx} {c:Expr} {t:TT} (hc:PT X c t):PIf X [c] t:=fun pins s σ H Q I h=>wpAny_tests_one (hc pins s σ H Q I h)
def zjj (J:It) (σ0:St) (g:TG) (tc:TT) (te:TE) (l:Addr) (Q:VK) (H1:Hp):Prop:=
 ∃W:Nat→Nat→List V→Hp→Prop,(∃m,W 0 m [] (upd H1 l (.lst [])))∧ ∀i m xs H,W i m xs H→H l=some (.lst xs)∧xs.length<sizeLine∧
  ((J.stop i H∧Q (.ref l) H)∨(J.go i H∧ ∀x H',J.yld i H x H'→g x σ0 H' fun σ2 H2=>Sub σ0 σ2∧tc σ2 H2 fun b H3=>
   if b=true then te σ2 H3 fun v H4=>H4 l=some (.lst xs)∧ ∃m',m'<m∧W (i+1) m' (xs++ [v]) (upd H4 l (.lst (xs++ [v]))) else∃m',m'<m∧W (i+1) m' xs H3))
section
variable {X:Cx} {tg elt iter:Expr} {ifs:List Expr} {scope:Scope} {pos:Pos} {N:List Str} {n:Nat} {js:List Nat} {g:CA→TG} {tc:CA→TT} {te:CA→TE}
theorem zfE {pins:List (Addr×Obj)} {σ:St} {H₁:Hp} {s₂:Shared} {E:Value→Shared→Prop} (cap:zeX X.env.scope.names X.N scope.names N n js=true) (hkind:scope.kind= .function) (hcalm:X.calm=true)
  (hg: ∀a,PG (X.comp scope N a) tg (g a)) (hc: ∀a,PIf (X.comp scope N a) ifs (tc a)) (he: ∀a,PE (X.comp scope N a) elt (te a))
  (I:Inv X pins σ H₁ s₂) {it:Addr} {fp:List Addr} {tn:Nat→Heap→Prop} {J:It} (T:Turn X.prog X.w X.K tg J fp it tn) (h0:tn 0 s₂.heap) (hf: ∀b∈fp,zeG X pins H₁ b)
  {cl:List (Str×Addr)} (hc1: ∀x c,cl.lookup x=some c→X.env.cells.lookup x=some c) (hc2: ∀p∈scope.names,p.2=NameKind.free→ ∃c,cl.lookup p.1=some c)
  {Q:VK} (hq: ∀l,H₁ l=none→ ∀a,zjj J (zbn σ n js) (g a) (tc a) (te a) l Q H₁)
  {RR:Value→Addr→Result→Shared→Prop}
  (hRR: ∀l C H' s' m,Inv X pins σ H' s'→s'.heap.Ns C m→H' C=none→C≠X.env.locals→X.s₀.heap.objs.size≤C→(∀x c,X.env.cells.lookup x=some c→c≠C)→(∀p∈X.pn++pins,p.1≠C)→C∉X.fs→Q (.ref l) H'→RR (.ref l) C (.ok .next) s'):
  wpAny (model X.prog X.w) X.A (newList []) (fun acc s₃=>wpAny (model X.prog X.w) X.A (newFunctionEnv scope X.env.globals cl [] X.env.qual none .none (some X.env)) (fun cenv s₄=>
   codeAny (model X.prog X.w) X.A (.compStart (.ListComp elt [⟨tg,iter,ifs,0⟩] scope pos) 0 (.ref it) acc {cenv with scope:=relabel scope X.env}) (RR acc cenv.locals) s₄) E s₃) E s₂:=by
 obtain ⟨k1,k2,k3,k4,k5⟩:=zc9 cap
 refine wpAny_newObj_type (wpAny_newFunctionEnv k2 (by intro y hy;simp at hy) (fun h₁ hns₁ hsb₁=> ?_) hkind)
 dsimp only at hns₁ hsb₁ ⊢
 obtain ⟨s3,hs3⟩: ∃s3:Shared,s3={s₂ with heap:=s₂.heap.push {cls:= .type "list",dict:=none,data:= .seq ([]:List Value).toArray} }:=⟨_,rfl⟩
 have eh:s₂.heap.push {cls:= .type "list",dict:=none,data:= .seq ([]:List Value).toArray}=s3.heap:=by rw [hs3]
 rw [eh] at hns₁ hsb₁ ⊢
 have kp3: ∀b o,s₂.heap.get? b=some o→s3.heap.get? b=some o:=fun b o e=>by rw [←eh];exact Heap.get?_push_of_some _ e
 have hl0:H₁ s₂.heap.objs.size=none:=I.hok.fresh (Nat.le_refl _)
 have I3:Inv X pins σ (upd H₁ s₂.heap.objs.size (.lst [])) s3:=by
  rw [hs3]
  exact I.laid (t':=s₂.toks) (fun b u e=>Heap.get?_push_of_some _ e) (Nat.le_refl _) ⟨Nat.zero_le _, [],0, .nil,Heap.get?_push_size _ rfl⟩
 have fpo: ∀b∈fp,∃o,s₂.heap.get? b=some o:=fun b hb=>let ⟨o,e,_⟩:=T.obj _ _ h0 b hb;⟨o,e⟩
 have fpl: ∀b∈fp,b≠s₂.heap.objs.size:=fun b hb z=>let ⟨o,e⟩:=fpo b hb;Nat.lt_irrefl _ (z ▸ Heap.lt_size e)
 have hf3: ∀b∈fp,zeG X pins (upd H₁ s₂.heap.objs.size (.lst [])) b:=fun b hb=>⟨by rw [zau (fpl b hb)];exact (hf b hb).1,(hf b hb).2⟩
 have hlt3: ∀b∈fp,b<s3.heap.objs.size:=fun b hb=>let ⟨o,e⟩:=fpo b hb;Heap.lt_size (kp3 b o e)
 have kp1: ∀b o,s3.heap.get? b=some o→h₁.get? b=some o:=fun b o e=>hsb₁.extBut b o (Nat.ne_of_lt (Heap.lt_size e)) (Heap.get?_push_of_some _ e)
 have IC:=zji (t:=s3.toks) cap hkind I3 hc1 hc2 hf3 hlt3 hns₁ kp1
 have hCl:X.env.locals<s3.heap.objs.size:=I3.lt
 obtain ⟨a,ha⟩: ∃a:CA,a=⟨cl,s3.heap.objs.size,s3,upd H₁ s₂.heap.objs.size (.lst []),fp⟩:=⟨_,rfl⟩
 rw [←ha] at IC
 have aC:a.C=s3.heap.objs.size:=by rw [ha]
 obtain ⟨W,⟨m0,w0⟩,turn⟩:=hq _ hl0 a
 have tn1:tn 0 h₁:=T.keep _ _ _ h0 fun b _ o e=>kp1 b o (kp3 b o e)
 have stat: ∀{H':Hp},(∀b∈fp,H' b=none)→ ∀b∈fp,zeG (X.comp scope N a) [] H' b:=fun {H'} hn b hb=>
  ⟨hn b hb,by show b≠a.C;rw [aC];exact Nat.ne_of_lt (hlt3 b hb),fun hz=>by
    rcases List.mem_cons.mp (I3.stkSub b hz) with z|z
    ·exact (hf b hb).2.1 z
    ·exact (hf b hb).2.2.1 z, .inl (by show b∈a.fp;rw [ha];exact hb),fun x c e=>(hf b hb).2.2.2.2.1 x c (hc1 x c (by rw [ha] at e;exact e)),fun p hp=>absurd hp (by simp [Cx.comp])⟩
 have loop: ∀s4:Shared,s4={s3 with heap:=h₁,toks:=s3.toks}→
   codeAny (model X.prog X.w) X.A (.compLoop (.ListComp elt [⟨tg,iter,ifs,0⟩] scope pos) 0 (.ref it) (.ref s₂.heap.objs.size) (X.comp scope N a).env) (RR (.ref s₂.heap.objs.size) s3.heap.objs.size) s4:=by
  rintro s4 rfl
  refine zgE (fun k s'=> ∃i xs H',Inv (X.comp scope N a) [] (zbn σ n js) H' s'∧tn i s'.heap∧(∀b∈fp,H' b=none)∧W i k xs H') ?_ m0 ⟨0, [],_,IC,tn1,fun b hb=>(hf3 b hb).1,w0⟩
  rintro k s5 ⟨i,xs,H5,I5,t5,f5,w5⟩
  obtain ⟨hl5,hz5,alt⟩:=turn i k xs H5 w5
  rcases alt with ⟨stop,qn⟩|⟨go,step⟩
  ·refine thn (T.done (X.comp scope N a) rfl rfl rfl hcalm i [] s5 _ H5 NoE I5 (stat f5) t5 stop) fun r s6 ⟨hr,I6⟩=> ?_
   subst hr
   obtain ⟨m6,hn6,_⟩:=I6.loc
   have hn6':s6.heap.Ns s3.heap.objs.size m6:=by rw [←aC];exact hn6
   have u6:Un (frs X.stack) fp (upd H₁ s₂.heap.objs.size (.lst [])) H5 s3.heap s6.heap:=by
    have z:=I6.base
    rw [ha] at z
    exact z
   have os6:s6.os=s3.os:=by
    have z:=I6.os
    rw [ha] at z
    exact z
   have I7:Inv X pins σ H5 s6:=I3.call' os6 u6 I6.hok I6.bare fun b hb=>⟨(hf b hb).2.2.2.1,(hf b hb).2.1,(hf b hb).2.2.2.2.1,(hf b hb).2.2.2.2.2⟩
   refine hRR _ _ H5 s6 m6 I7 hn6' (by have z:=I6.free;rw [show (X.comp scope N a).env.locals=s3.heap.objs.size from aC] at z;exact z) (Nat.ne_of_gt hCl) I3.sz (fun x c e z=> ?_) (fun p hp z=> ?_) (I3.nofs (Nat.le_refl _)) qn
   ·obtain ⟨v,q⟩:=I3.cell x c e
    exact Nat.lt_irrefl _ (z ▸ q.lt)
   ·exact Nat.lt_irrefl _ (z ▸ Heap.lt_size (I3.pin p hp).1)
  ·refine thn (T.item (X.comp scope N a) rfl rfl rfl hcalm i [] s5 _ H5 NoE I5 (stat f5) t5 go) fun r s6 ⟨u,hr,h6⟩=> ?_
   subst hr
   refine thn h6 fun _ s7 ⟨x,H7,I7,r7,y7,t7,f7⟩=> ?_
   have I7':=I7.pinned (stat f7) (T.obj _ _ t7)
   rw [List.nil_append] at I7'
   refine thn (hg a _ s7 _ H7 x u _ I7' r7 (step x H7 y7)) fun _ s8 ⟨σ8,H8,I8,sub8,q8⟩=> ?_
   refine thn (hc a _ s8 σ8 H8 _ I8 q8) fun ok s9 ⟨H9,I9,q9⟩=> ?_
   have back: ∀{σ':St} {H':Hp} {s':Shared},Inv (X.comp scope N a) (zeP fp s7.heap) σ' H' s'→Sub (zbn σ n js) σ'→Inv (X.comp scope N a) [] (zbn σ n js) H' s'∧tn (i+1) s'.heap∧ ∀b∈fp,H' b=none:=fun {σ' H' s'} I' sb=>by
    refine ⟨(I'.pins_of fun p hp=>absurd hp (by simp)).weak sb.1 sb.2,T.keep _ _ _ t7 fun b hb o e=>(I'.pin (b,o) (List.mem_append_right _ (zdl hb e))).1,fun b hb=> ?_⟩
    obtain ⟨o,e,d⟩:=T.obj _ _ t7 b hb
    exact (I'.pin (b,o) (List.mem_append_right _ (zdl hb e))).2.1
   cases ok with
   |false=>
    obtain ⟨m',lt,w'⟩:=q9
    obtain ⟨b1,b2,b3⟩:=back I9 sub8
    exact ⟨m',lt,i+1,xs,H9,b1,b2,b3,w'⟩
   |true=>
    refine thn (he a _ s9 σ8 H9 _ I9 q9) fun y s10 ⟨v,H10,I10,r10,hl10,m',lt,w'⟩=> ?_
    refine thn (zb2 (X:=X.comp scope N a) _ s10 σ8 H10 (.ref s₂.heap.objs.size) [v] _ [y] (fun _ H'=>H'=upd H10 s₂.heap.objs.size (.lst (xs++ [v]))) I10 rfl (.cons r10 .nil) ⟨_,xs,v,rfl,rfl,hl10,hz5,rfl⟩) fun _ s11 ⟨_,H11,I11,_,e11⟩=> ?_
    subst e11
    obtain ⟨b1,b2,b3⟩:=back I11 sub8
    exact ⟨m',lt,i+1,_,_,b1,b2,b3,w'⟩
 have eE:{newEnv scope s3.heap.objs.size X.env.globals cl X.env.qual none Value.none (some X.env) builtinsNs with scope:=relabel scope X.env}=(X.comp scope N a).env:=by rw [ha];rfl
 have lp:=loop _ rfl
 rw [←eE] at lp
 have sf:=T.self X.A 0 {s3 with heap:=h₁,toks:=s3.toks} (fun it' s'=>codeAny (model X.prog X.w) X.A (.compLoop (.ListComp elt [⟨tg,iter,ifs,0⟩] scope pos) 0 it' (.ref s₂.heap.objs.size) {newEnv scope s3.heap.objs.size X.env.globals cl X.env.qual none Value.none (some X.env) builtinsNs with scope:=relabel scope X.env}) (RR (.ref s₂.heap.objs.size) s3.heap.objs.size) s')
  (notedBy (model X.prog X.w) X.A {newEnv scope s3.heap.objs.size X.env.globals cl X.env.qual none Value.none (some X.env) builtinsNs with scope:=relabel scope X.env} fun x s'=>RR (.ref s₂.heap.objs.size) s3.heap.objs.size (.error x) s') tn1 lp
 have fin:=codeAny_compStart_list lp sf
 rw [hs3] at fin ⊢
 exact fin
def zds (n:Nat) (js:List Nat) (wi:TI) (g:CA→TG) (tc:CA→TT) (te:CA→TE):TE:=fun σ H Q=>wi σ H fun J H1=> ∀l,H1 l=none→ ∀a:CA,zjj J (zbn σ n js) (g a) (tc a) (te a) l Q H1
theorem zea {pins:List (Addr×Obj)} {σ:St} {H:Hp} {s:Shared} (cap:zeX X.env.scope.names X.N scope.names N n js=true) (I:Inv X pins σ H s):
  ∃cl,closureFor scope X.env=pure cl∧(∀x c,cl.lookup x=some c→X.env.cells.lookup x=some c)∧ ∀p∈scope.names,p.2=NameKind.free→ ∃c,cl.lookup p.1=some c:=
 zhi fun p hp e=>I.ok.has p.1 ((zc9 cap).2.2.2.1 p hp e).2
theorem zcK {wi:TI} (cap:zeX X.env.scope.names X.N scope.names N n js=true) (hkind:scope.kind= .function) (hcalm:X.calm=true) (hi:PI X tg iter wi)
  (hg: ∀a,PG (X.comp scope N a) tg (g a)) (hc: ∀a,PIf (X.comp scope N a) ifs (tc a)) (he: ∀a,PE (X.comp scope N a) elt (te a))
  (hs: ∀x,foldedSetIterable iter X.env x=pure x:=by intro _;rfl):PE X (.ListComp elt [⟨tg,iter,ifs,0⟩] scope pos) (zds n js wi g tc te):=by
 intro pins s σ H Q I h
 obtain ⟨cl,hclos,hc1,hc2⟩:=zea cap I
 rw [eval_ListComp]
 refine wpAny_comprehension_free (use:=none) rfl hs hclos hkind (zc9 cap).2.2.1 (thn (hi pins s σ H _ I h) fun v s1 h1=>thn h1 fun itv s2 h2=> ?_)
 obtain ⟨it,fp,tn,J,H2,rfl,I2,T,st2,f2,q⟩:=h2
 refine zfE (RR:=fun acc C=>compPost (model X.prog X.w) X.A X.xe none (EP X pins σ Q) acc C) cap hkind hcalm hg hc he I2 T st2 f2 hc1 hc2 q ?_
 intro l C H' s' m I' hn hC hL hs0 hcell hpin hfs hq
 exact ⟨m,hn,fun h' hsb=>⟨.ref l,H',I'.turned (t':=s'.toks) (fun b o hb e=>(hsb.2 b hb).trans e) hC hL (.inr hs0) hcell hpin,rfl,hq⟩⟩
theorem zdM {wi:TI} {i:Nat} {y:Str} {py spos:Pos} (hN:X.N.Nodup) (hi:X.N[i]? =some y) (hy:X.env.scope.names.lookup y=some .local) (cap:zeX X.env.scope.names X.N scope.names N n js=true) (hkind:scope.kind= .function) (hcalm:X.calm=true) (hw:PI X tg iter wi)
  (hg: ∀a,PG (X.comp scope N a) tg (g a)) (hc: ∀a,PIf (X.comp scope N a) ifs (tc a)) (he: ∀a,PE (X.comp scope N a) elt (te a))
  (hsw:swapsWith (.ListComp elt [⟨tg,iter,ifs,0⟩] scope pos) (some (.Name y py)) spos.line X.env=pure true:=by rfl)
  (hs: ∀x,foldedSetIterable iter X.env x=pure x:=by intro _;rfl):PS X (.Assign [.Name y py] (.ListComp elt [⟨tg,iter,ifs,0⟩] scope pos) spos) (zcc (zds n js wi g tc te) (zbq i)):=by
 intro pins s σ H D I h
 obtain ⟨cl,hclos,hc1,hc2⟩:=zea cap I
 rw [exec_Assign_Name_used _ _ _ _ hsw]
 refine wpAny_bind (wpAny_standAt (wpAny_bind ?_))
 show wpAny _ X.A (do let _←comprehension (.ListComp elt [⟨tg,iter,ifs,0⟩] scope pos) scope X.env _ (newList []) false (eval iter X.env) (some (assign (.Name y py) X.env))) _ _ s
 refine wpAny_bind (wpAny_mono (wpAny_comprehension_free (use:=some (assign (.Name y py) X.env)) (Q:=fun _ s'=>SP X pins D .next s') rfl hs hclos hkind (zc9 cap).2.2.1
  (thn (hw pins s σ H _ I h) fun v s1 h1=>thn h1 fun itv s2 h2=> ?_)) (fun _ s' hq=>wpAny_pure (wpAny_pure hq)) fun _ _ e=>e)
 obtain ⟨it,fp,tn,J,H2,rfl,I2,T,st2,f2,q⟩:=h2
 refine zfE (Q:=fun x H1=>D.nx (σ.set i (some x)) H1) (RR:=fun acc C=>compPost (model X.prog X.w) X.A X.xe (some (assign (.Name y py) X.env)) (fun _ s'=>SP X pins D .next s') acc C) cap hkind hcalm hg hc he I2 T st2 f2 hc1 hc2 q ?_
 intro l C H' s' m I' hn hC hL hs0 hcell hpin hfs hq
 show wpAny _ X.A (assign (.Name y py) X.env (.ref l)) _ _ _
 refine wpAny_assign_Name (zfs I' hN hi (.inl hy) (v:= .ref l) rfl (fun s3 I3 hsb=> ?_) (.inr hy))
 obtain ⟨b,hsb,hb⟩:=hsb
 have nb:C≠b:=by
  rcases hb with rfl|hb
  ·exact hL
  ·exact fun z=>hcell y b hb z.symm
 refine ⟨m,hn.sameBut hsb nb,fun h' hsb'=> ?_⟩
 exact ⟨σ.set i (some (.ref l)),H',I3.turned (t':=s3.toks) (fun c o hc e=>(hsb'.2 c hc).trans e) hC hL (.inr hs0) hcell hpin,hq⟩
end
structure Lists (J:It) (H1:Hp) (ys:List V):Prop where
 go: ∀i H,zao H1 H→i<ys.length→J.go i H
 stop: ∀H,zao H1 H→J.stop ys.length H
 yld: ∀i H x H',zao H1 H→J.yld i H x H'→i<ys.length→H'=H∧ys[i]? =some x
theorem zb3 {K:PySem.W.Frag} {H1:Hp} {a:Addr} {ys:List V} (h:SqL K H1 a ys):Lists (Itl K a) H1 ys where
 go:=fun i H sm hi=>⟨ys,ys[i],sm.seq h,List.getElem?_eq_getElem hi⟩
 stop:=fun H sm=>⟨ys,sm.seq h,Nat.le_refl _⟩
 yld:=fun i H x H' sm ⟨e,y⟩ _=>⟨e,y ys (sm.seq h)⟩
def rng (lo:Int) (n:Nat):List V:=(List.range n).map fun (i:Nat)=>V.int (lo+i)
theorem zb4 (lo:Int) (n:Nat):(rng lo n).length=n:=by unfold rng;rw [List.length_map,List.length_range]
theorem zeb {lo:Int} {n i:Nat} (h:i<n):(rng lo n)[i]? =some (.int (lo+i)):=by
 unfold rng
 rw [List.getElem?_map,List.getElem?_range h]
 rfl
theorem zdN (lo:Int) (n:Nat) (H1:Hp):Lists (Itr lo n) H1 (rng lo n) where
 go:=fun i H _ hi=>by rw [zb4] at hi;exact hi
 stop:=fun H _=>by rw [zb4];exact Nat.le_refl _
 yld:=fun i H x H' _ ⟨e,y⟩ hi=>⟨e,by rw [zb4] at hi;rw [zeb hi,y]⟩
end L2
namespace L2
open PySem PySem.Spec PyProof.Rows
def Sm (i:Int):Prop:=i.natAbs<2 ^ 3000
theorem Sm.bits {i:Int} (h:Sm i):Builtin.Int.intBits i≤2 ^ 20:=by
 unfold Builtin.Int.intBits
 by_cases z:i.natAbs=0
 ·obtain rfl:i=0:=by omega
  decide
 ·have q:i.natAbs.log2<3000:=(Nat.log2_lt z).mpr h
  have e:(2:Nat) ^ 20=1048576:=by decide
  split<;>omega
theorem Sm.log {i:Int} (h:Sm i):i.natAbs.log2<9000:=by
 by_cases z:i.natAbs=0
 ·rw [z];decide
 ·have q:i.natAbs.log2<3000:=(Nat.log2_lt z).mpr h
  omega
theorem Sm.pow10 {i:Int} {k:Nat} (hk:k≤700) (h:i.natAbs≤10 ^ k):Sm i:=by
 refine Nat.lt_of_le_of_lt h ?_
 refine Nat.lt_of_le_of_lt (Nat.pow_le_pow_left (show 10≤2 ^ 4 by decide) k) ?_
 rw [←Nat.pow_mul]
 exact Nat.pow_lt_pow_right (by decide) (by omega)
section
variable {X:Cx}
theorem zdO:OpR X (binaryOp .Mult) (rI (fun i j=>zj8 i j∨(Sm i∧Sm j)) fun i j=> .int (i*j)):=opI fun _ _ _ _ _ _ _ hc q=>mul_int q (by
 rcases hc with hc|⟨h1,h2⟩
 ·exact hc.ok
 ·exact IntMulOk.of_bits h1.bits h2.bits)
theorem zec:OpR X (binaryOp .FloorDiv) (rI (fun _ j=>0<j∧Sm j) fun i j=> .int (i / j)):=opI fun i j _ _ _ _ _ hc q=>by
 have h1:(0:Int)<j:=hc.1
 exact floordiv_int (by omega) (by rw [Int.fdiv_eq_ediv_of_nonneg i (by omega)];exact q) (.inl (PyProof.noPylong_of_log2 hc.2.log))
theorem zjk:bootBuiltins "sum"=some (.builtin "sum"):=by decide+kernel
theorem zli:bootBuiltins "abs"=some (.builtin "abs"):=by decide+kernel
theorem zfF:bootBuiltins "sorted"=some (.builtin "sorted"):=by decide+kernel
theorem zeB (ns:List Int): ∀k,k≤ns.length→PySem.preSum (fun i=>ns.getD i 0) k=(ns.take k).sum
 |0,_=>rfl
 |k+1,h=>by
  show PySem.preSum (fun i=>ns.getD i 0) k+ns.getD k 0=_
  rw [zeB ns k (by omega),List.take_add_one,List.sum_append,List.getD_eq_getElem?_getD,List.getElem?_eq_getElem (by omega)]
  simp
theorem zgF (hc:X.calm=true):zc5 X (.builtin "sum") (fun xs H Q=> ∃(p:Addr) (ns:List Int),xs= [.ref p]∧SqL X.K H p (ns.map V.int)∧Q (.int ns.sum) H):=by
 intro pins s σ H xs us Q I r h
 obtain ⟨p,ns,rfl,hq,q⟩:=h
 obtain ⟨u,rfl,ru⟩:=zcW r
 obtain rfl:u=Value.ref p:=ru
 obtain ⟨its,rv,pl,hz⟩:=I.list hq
 have hl:ns.length=its.length:=by rw [←rv.length,List.length_map]
 obtain ⟨o0,n0,e0,_⟩:=id pl
 have ne:p≠s.heap.objs.size:=Nat.ne_of_lt (Heap.lt_size e0)
 refine call_sum_walkG (wpAny_pyIter_list pl.isList ?_)
 refine ⟨s.heap.objs.size,_,_,_,_,_,fun i=>ns.getD i 0,rfl,Walks.list (show X.A.in1.handled=none from I.ok.hd hc) s.heap.objs.size p ne its.toArray,⟨⟨_,Heap.get?_push_size _ rfl,rfl,rfl⟩,?_⟩,?_,?_,fun h' tk t' hk=> ?_⟩
 ·exact pl.isList.at fun o e=>Heap.get?_push_of_some _ e
 ·intro b hb
  have hb':b=s.heap.objs.size∨b=p:=by simpa using hb
  show b<(s.heap.push _).objs.size
  rw [Heap.size_push]
  rcases hb' with rfl|rfl
  ·exact Nat.lt_succ_self _
  ·exact Nat.lt_succ_of_lt (Heap.lt_size e0)
 ·intro i v hv
  have hi:its[i]? =some v:=by simpa using hv
  obtain ⟨hlt,_⟩:=List.getElem?_eq_some_iff.mp hi
  have hb:(ns.map V.int)[i]? =some (.int ns[i]):=by rw [List.getElem?_map,List.getElem?_eq_getElem (by omega)];rfl
  obtain ⟨u',e',t,rfl⟩:=rv.get hb
  rw [hi] at e'
  cases e'
  have z:ns.getD i 0=ns[i]:=by rw [List.getD_eq_getElem?_getD,List.getElem?_eq_getElem (by omega)];rfl
  exact ⟨t,by show Value.int ns[i] t=Value.int (ns.getD i 0) t;rw [z]⟩
 ·have e:PySem.preSum (fun i=>ns.getD i 0) its.toArray.size=ns.sum:=by rw [List.size_toArray,←hl,zeB ns _ (Nat.le_refl _),List.take_length]
  rw [e]
  refine ⟨.int _,H,I.kept (t':=tk) fun b o hb=>hk b o (fun z=> ?_) (Heap.get?_push_of_some _ hb),⟨_,rfl⟩,q⟩
  have z':b=s.heap.objs.size:=by simpa using z
  exact absurd (z' ▸ Heap.lt_size hb) (Nat.lt_irrefl _)
end
inductive D where
 |non
 |bl (b:Bool)
 |int (i:Int)
 |str (cs:List Nat)
 |tup (ds:List D)
 |lst (ds:List D)
def zcN (f:D→V→Prop):List D→List V→Prop
 | [], []=>True
 |d::ds,x::xs=>f d x∧zcN f ds xs
 |_,_=>False
def Dp (K:PySem.W.Frag) (H:Hp):Nat→D→V→Prop
 |_, .non,v=>v= .non
 |_, .bl b,v=>v= .bl b
 |_, .int i,v=>v= .int i
 |_, .str cs,v=>v= .str (SL cs)
 |n+1, .tup ds,v=> ∃a xs,v= .ref a∧SqT K H a xs∧zcN (Dp K H n) ds xs
 |n+1, .lst ds,v=> ∃a xs,v= .ref a∧SqL K H a xs∧zcN (Dp K H n) ds xs
 |0, .tup _,_=>False
 |0, .lst _,_=>False
def zdU (f:D→D→Bool):List D→List D→Bool
 | [], []=>true
 |a::r,b::t=>f a b && zdU f r t
 |_,_=>false
def eqb:Nat→D→D→Bool
 |_, .non, .non=>true
 |_, .bl a, .bl b=>a==b
 |_, .bl a, .int b=>(if a then 1 else 0)==b
 |_, .int a, .bl b=>a==(if b then 1 else 0)
 |_, .int a, .int b=>a==b
 |_, .str a, .str b=>a==b
 |n+1, .tup a, .tup b=>zdU (eqb n) a b
 |n+1, .lst a, .lst b=>zdU (eqb n) a b
 |_,_,_=>false
def zeY:D→Bool
 | .tup _=>true
 | .lst _=>true
 |_=>false
def zcG:Nat→D→D→Prop
 |n+1, .tup a, .tup b=> ∀(j:Nat) (x y:D),a[j]? =some x→b[j]? =some y→zcG n x y
 |n+1, .lst a, .lst b=> ∀(j:Nat) (x y:D),a[j]? =some x→b[j]? =some y→zcG n x y
 |_,a,b=>zeY a=false∧zeY b=false
theorem zca {f:D→V→Prop}: ∀{ds:List D} {xs:List V},zcN f ds xs→ds.length=xs.length
 | [], [],_=>rfl
 |_::_,_::_,h=>by rw [List.length_cons,List.length_cons,zca h.2]
 | [],_::_,h=>h.elim
 |_::_, [],h=>h.elim
theorem zeZ {f:D→V→Prop}: ∀{ds:List D} {xs:List V} {j:Nat} {d:D} {x:V},zcN f ds xs→ds[j]? =some d→xs[j]? =some x→f d x
 | [], [],_,_,_,_,h,_=>by simp at h
 |a::r,b::t,0,d,x,h,h1,h2=>by
  simp at h1 h2
  rw [←h1,←h2]
  exact h.1
 |a::r,b::t,j+1,d,x,h,h1,h2=>zeZ h.2 (by simpa using h1) (by simpa using h2)
 | [],_::_,_,_,_,h,_,_=>h.elim
 |_::_, [],_,_,_,h,_,_=>h.elim
theorem zda {f g:D→V→Prop}: ∀{ds:List D} {xs:List V},(∀d∈ds,∀x,f d x→g d x)→zcN f ds xs→zcN g ds xs
 | [], [],_,_=>trivial
 |d::r,x::t,h,q=>⟨h d List.mem_cons_self x q.1,zda (fun d hd=>h d (List.mem_cons_of_mem _ hd)) q.2⟩
 | [],_::_,_,h=>h.elim
 |_::_, [],_,h=>h.elim
theorem Dp.same {K:PySem.W.Frag} {H H':Hp} (sm:zao H H'): ∀{n:Nat} {d:D} {v:V},Dp K H n d v→Dp K H' n d v
 |_, .non,_,h=>by unfold Dp at h ⊢;exact h
 |_, .bl _,_,h=>by unfold Dp at h ⊢;exact h
 |_, .int _,_,h=>by unfold Dp at h ⊢;exact h
 |_, .str _,_,h=>by unfold Dp at h ⊢;exact h
 |n+1, .tup ds,v,h=>by
  unfold Dp at h ⊢
  obtain ⟨a,xs,e,hq,hs⟩:=h
  exact ⟨a,xs,e,sm.sqT hq,zda (fun d _ x q=>Dp.same sm q) hs⟩
 |n+1, .lst ds,v,h=>by
  unfold Dp at h ⊢
  obtain ⟨a,xs,e,hq,hs⟩:=h
  exact ⟨a,xs,e,sm.seq hq,zda (fun d _ x q=>Dp.same sm q) hs⟩
 |0, .tup _,_,h=>by unfold Dp at h;exact h.elim
 |0, .lst _,_,h=>by unfold Dp at h;exact h.elim
theorem zdX {f:D→D→Bool}: ∀{ds:List D},(∀d∈ds,f d d=true)→zdU f ds ds=true
 | [],_=>rfl
 |d::r,h=>by
  unfold zdU
  rw [h d List.mem_cons_self,zdX fun x hx=>h x (List.mem_cons_of_mem _ hx)]
  rfl
theorem zed {f:D→V→Prop} {ds:List D} {xs:List V} (h:zcN f ds xs) {d:D} (hd:d∈ds): ∃x,f d x:=by
 obtain ⟨j,hj,rfl⟩:=List.getElem_of_mem hd
 have hl:=zca h
 exact ⟨xs[j],zeZ h (List.getElem?_eq_getElem hj) (List.getElem?_eq_getElem (by omega))⟩
theorem zdD {K:PySem.W.Frag} {H:Hp}: ∀{n:Nat} {d:D} {v:V},Dp K H n d v→eqb n d d=true
 |_, .non,_,_=>by unfold eqb;rfl
 |_, .bl _,_,_=>by unfold eqb;simp
 |_, .int _,_,_=>by unfold eqb;simp
 |_, .str _,_,_=>by unfold eqb;simp
 |n+1, .tup ds,v,h=>by
  unfold Dp at h
  obtain ⟨a,xs,e,hq,hs⟩:=h
  unfold eqb
  exact zdX fun d hd=>let ⟨x,hx⟩:=zed hs hd;zdD hx
 |n+1, .lst ds,v,h=>by
  unfold Dp at h
  obtain ⟨a,xs,e,hq,hs⟩:=h
  unfold eqb
  exact zdX fun d hd=>let ⟨x,hx⟩:=zed hs hd;zdD hx
 |0, .tup _,_,h=>by unfold Dp at h;exact h.elim
 |0, .lst _,_,h=>by unfold Dp at h;exact h.elim
theorem zdn {K:PySem.W.Frag} {H:Hp}: ∀{n:Nat} {d:D} {v:V},Dp K H n d v→zcG n d d
 |0, .non,_,_=>⟨rfl,rfl⟩
 |0, .bl _,_,_=>⟨rfl,rfl⟩
 |0, .int _,_,_=>⟨rfl,rfl⟩
 |0, .str _,_,_=>⟨rfl,rfl⟩
 |_+1, .non,_,_=>⟨rfl,rfl⟩
 |_+1, .bl _,_,_=>⟨rfl,rfl⟩
 |_+1, .int _,_,_=>⟨rfl,rfl⟩
 |_+1, .str _,_,_=>⟨rfl,rfl⟩
 |n+1, .tup ds,v,h=>by
  unfold Dp at h
  obtain ⟨a,xs,e,hq,hs⟩:=h
  intro j x y h1 h2
  rw [h1] at h2
  cases h2
  obtain ⟨z,hz⟩:=zed hs (List.mem_of_getElem? h1)
  exact zdn hz
 |n+1, .lst ds,v,h=>by
  unfold Dp at h
  obtain ⟨a,xs,e,hq,hs⟩:=h
  intro j x y h1 h2
  rw [h1] at h2
  cases h2
  obtain ⟨z,hz⟩:=zed hs (List.mem_of_getElem? h1)
  exact zdn hz
 |0, .tup _,_,h=>by unfold Dp at h;exact h.elim
 |0, .lst _,_,h=>by unfold Dp at h;exact h.elim
def sc:D→Option V
 | .non=>some .non
 | .bl b=>some (.bl b)
 | .int i=>some (.int i)
 | .str cs=>some (.str (SL cs))
 |_=>none
theorem Dp.sc {K:PySem.W.Frag} {H:Hp} {n:Nat} {d:D} {v x:V} (h:sc d=some x):Dp K H n d v=(v=x):=by
 cases d with
 |non=>cases h;unfold Dp;rfl
 |bl b=>cases h;unfold Dp;rfl
 |int i=>cases h;unfold Dp;rfl
 |str cs=>cases h;unfold Dp;rfl
 |tup ds=>cases h
 |lst ds=>cases h
theorem Dp.flat {K:PySem.W.Frag} {H:Hp} {d:D} {v:V} (h:Dp K H 0 d v): ∃x,L2.sc d=some x:=by
 cases d with
 |tup ds=>unfold Dp at h;exact h.elim
 |lst ds=>unfold Dp at h;exact h.elim
 |_=>exact ⟨_,rfl⟩
theorem Dp.isRef {K:PySem.W.Frag} {H:Hp} {n:Nat} {d:D} {v:V} (h:L2.sc d=none) (p:Dp K H n d v): ∃a,v= .ref a:=by
 cases d with
 |tup ds=>
  cases n with
  |zero=>unfold Dp at p;exact p.elim
  |succ n=>unfold Dp at p;obtain ⟨a,_,e,_⟩:=p;exact ⟨a,e⟩
 |lst ds=>
  cases n with
  |zero=>unfold Dp at p;exact p.elim
  |succ n=>unfold Dp at p;obtain ⟨a,_,e,_⟩:=p;exact ⟨a,e⟩
 |non=>cases h
 |bl _=>cases h
 |int _=>cases h
 |str _=>cases h
theorem sc_ref {d:D} {x:V} {a:Addr} (h:sc d=some x):x≠ .ref a:=by
 cases d<;>cases h<;>(intro z;cases z)
theorem sc_flat {d:D} {x:V} (h:sc d=some x):zd6 x=true:=by
 cases d<;>cases h<;>rfl
theorem sc_inj {d e:D} {x:V} (h:sc d=some x) (g:sc e=some x):d=e:=by
 cases d<;>cases h<;>cases e<;>first
  |rfl
  |(cases g;rfl)
  |cases g
  |(have z:=V.str.inj (Option.some.inj g)
    rw [za6] at z
    rw [z])
theorem zjl {n:Nat} {d e:D} {x:V} (h:sc d=some x) (g:sc e=none): ¬zcG n d e:=by
 intro c
 cases n<;>cases d<;>cases h<;>cases e<;>first
  |(unfold zcG at c;obtain ⟨_,z⟩:=c;cases z;done)
  |(cases g;done)
theorem zjm {n:Nat} {d e:D} {x:V} (h:sc d=none) (g:sc e=some x): ¬zcG n d e:=by
 intro c
 cases n<;>cases e<;>cases g<;>cases d<;>first
  |(unfold zcG at c;obtain ⟨z,_⟩:=c;cases z;done)
  |(cases h;done)
theorem zlj (a b:List Nat):(SL a==SL b)=(a==b):=by
 rw [Bool.eq_iff_iff,beq_iff_eq,beq_iff_eq,za6]
theorem zjn {n:Nat} {d e:D} {x y:V} (h:sc d=some x) (g:sc e=some y):eqb n d e=eqV x y:=by
 cases d<;>cases h<;>cases e<;>cases g<;>(unfold eqb eqV)<;>first
  |rfl
  |exact (zlj _ _).symm
section
variable {X:Cx} {pins:List (Addr×Obj)} {σ:St} {H:Hp} {s:Shared}
theorem zgG (I:Inv X pins σ H s) {a:Addr} {xs ys:List V} (h:SqT X.K H a xs) (g:SqL X.K H a ys):False:=by
 obtain ⟨i1,_,⟨o1,e1,c1,_⟩,_⟩:=I.tuple h
 obtain ⟨i2,_,⟨o2,n2,e2,c2,_⟩,_⟩:=I.list g
 rw [e1] at e2
 cases e2
 rw [c1] at c2
 revert c2
 simp
theorem ze0 {f g:D→V→Prop}: ∀{ds es:List D} {xs:List V},(∀d∈ds,∀e x,f d x→g e x→d=e)→zcN f ds xs→zcN g es xs→ds=es
 | [], [], [],_,_,_=>rfl
 |d::r,e::t,x::z,h,p,q=>by rw [h d List.mem_cons_self e x p.1 q.1,ze0 (fun d hd=>h d (List.mem_cons_of_mem _ hd)) p.2 q.2]
 | [],_::_, [],_,_,q=>q.elim
 | [],_::_,_::_,_,p,_=>p.elim
 |_::_, [], [],_,p,_=>p.elim
 |_::_, [],_::_,_,_,q=>q.elim
 |_::_,_::_, [],_,p,_=>p.elim
 | [], [],_::_,_,p,_=>p.elim
theorem Dp.det (I:Inv X pins σ H s): ∀{n:Nat} {d e:D} {v:V},Dp X.K H n d v→Dp X.K H n e v→d=e:=by
 intro n
 induction n with
 |zero=>
  intro d e v p q
  obtain ⟨x,hx⟩:=Dp.flat p
  obtain ⟨y,hy⟩:=Dp.flat q
  rw [Dp.sc hx] at p
  rw [Dp.sc hy] at q
  exact sc_inj hx (by rw [hy,←q,p])
 |succ n ih=>
  intro d e v p q
  cases hx:L2.sc d with
  |some x=>
   rw [Dp.sc hx] at p
   cases hy:L2.sc e with
   |some y=>
    rw [Dp.sc hy] at q
    exact sc_inj hx (by rw [hy,←q,p])
   |none=>
    obtain ⟨a,e2⟩:=Dp.isRef hy q
    exact absurd (p.symm.trans e2) (sc_ref hx)
  |none=>
   cases hy:L2.sc e with
   |some y=>
    rw [Dp.sc hy] at q
    obtain ⟨a,e2⟩:=Dp.isRef hx p
    exact absurd (q.symm.trans e2) (sc_ref hy)
   |none=>
    cases d with
    |tup ds=>
     unfold Dp at p
     obtain ⟨a,xs,rfl,h1,p⟩:=p
     cases e with
     |tup es=>
      unfold Dp at q
      obtain ⟨b,ys,eb,h2,q⟩:=q
      cases eb
      have exy:=I.tuple_inj h1 h2
      subst exy
      exact congrArg D.tup (ze0 (f:=Dp X.K H n) (g:=Dp X.K H n) (fun d _ e x p q=>ih p q) p q)
     |lst es=>
      unfold Dp at q
      obtain ⟨b,ys,eb,h2,q⟩:=q
      cases eb
      exact (zgG I h1 h2).elim
     |non=>cases hy
     |bl _=>cases hy
     |int _=>cases hy
     |str _=>cases hy
    |lst ds=>
     unfold Dp at p
     obtain ⟨a,xs,rfl,h1,p⟩:=p
     cases e with
     |lst es=>
      unfold Dp at q
      obtain ⟨b,ys,eb,h2,q⟩:=q
      cases eb
      have exy:=I.list_inj h1 h2
      subst exy
      exact congrArg D.lst (ze0 (f:=Dp X.K H n) (g:=Dp X.K H n) (fun d _ e x p q=>ih p q) p q)
     |tup es=>
      unfold Dp at q
      obtain ⟨b,ys,eb,h2,q⟩:=q
      cases eb
      exact (zgG I h2 h1).elim
     |non=>cases hy
     |bl _=>cases hy
     |int _=>cases hy
     |str _=>cases hy
    |non=>cases hx
    |bl _=>cases hx
    |int _=>cases hx
    |str _=>cases hx
theorem zdo {n:Nat}: ∀(ds es:List D),((List.range (min ds.length es.length)).all (fun j=>eqb n (ds.getD j .non) (es.getD j .non)) && ds.length==es.length)=zdU (eqb n) ds es:=by
 intro ds es
 rw [Bool.eq_iff_iff,Bool.and_eq_true,List.all_eq_true,beq_iff_eq]
 induction ds generalizing es with
 |nil=>
  cases es with
  |nil=>simp [zdU]
  |cons e t=>simp [zdU]
 |cons d r ih=>
  cases es with
  |nil=>simp [zdU]
  |cons e t=>
   unfold zdU
   rw [Bool.and_eq_true,←ih t]
   constructor
   ·rintro ⟨h,hl⟩
    refine ⟨by simpa using h 0 (List.mem_range.mpr (by simp)),fun j hj=> ?_,by simpa using hl⟩
    have:=h (j+1) (List.mem_range.mpr (by rw [List.length_cons,List.length_cons];have:=List.mem_range.mp hj;omega))
    simpa using this
   ·rintro ⟨h0,h,hl⟩
    refine ⟨fun j hj=> ?_,by simpa using hl⟩
    cases j with
    |zero=>simpa using h0
    |succ j=>
     have hj':=List.mem_range.mp hj
     rw [List.length_cons,List.length_cons] at hj'
     simpa using h j (List.mem_range.mpr (by omega))
theorem all2_at {n:Nat} {ds:List D} {xs:List V} {its:List Value} (h:zcN (Dp X.K H n) ds xs) (r:zaP xs its) (j:Nat) (hj:j<its.toArray.size): ∃x,ds[j]? =some (ds.getD j .non)∧Dp X.K H n (ds.getD j .non) x∧zaL x its.toArray[j]:=by
 have hl:=zca h
 have hr:=r.length
 have hj':j<its.length:=by simpa using hj
 have e1:ds[j]? =some (ds.getD j .non):=by
  rw [List.getD_eq_getElem?_getD,List.getElem?_eq_getElem (by omega)]
  rfl
 have e2:xs[j]? =some xs[j]:=List.getElem?_eq_getElem (by omega)
 obtain ⟨u,eu,ru⟩:=r.get e2
 refine ⟨xs[j],e1,zeZ h e1 e2,?_⟩
 rw [List.getElem?_eq_getElem hj'] at eu
 rw [List.getElem_toArray]
 rw [Option.some.inj eu]
 exact ru
theorem zfG (I:Inv X pins σ H s): ∀{n:Nat} {d e:D} {v w:V} {u u':Value} {A:Around},zcG n d e→Dp X.K H n d v→Dp X.K H n e w→zaL v u→zaL w u'→A.units+n<cLine→SeqAt.EqAt A s u u' (eqb n d e):=by
 intro n
 induction n with
 |zero=>
  intro d e v w u u' A c p q rv rw' hu
  obtain ⟨x,hx⟩:=Dp.flat p
  obtain ⟨y,hy⟩:=Dp.flat q
  rw [Dp.sc hx] at p
  rw [Dp.sc hy] at q
  subst p q
  rw [zjn hx hy]
  exact zhg rv rw' (sc_flat hx) (sc_flat hy)
 |succ n ih=>
  intro d e v w u u' A c p q rv rw' hu
  cases hx:L2.sc d with
  |some x=>
   cases hy:L2.sc e with
   |some y=>
    rw [Dp.sc hx] at p
    rw [Dp.sc hy] at q
    subst p q
    rw [zjn hx hy]
    exact zhg rv rw' (sc_flat hx) (sc_flat hy)
   |none=>exact absurd c (zjl hx hy)
  |none=>
   cases hy:L2.sc e with
   |some y=>exact absurd c (zjm hx hy)
   |none=>
    by_cases same:v=w
    ·subst same
     have ed:=Dp.det I p q
     subst ed
     rw [zdD p]
     have eu:u=u':=by
      obtain ⟨a,rfl⟩:=Dp.isRef hx p
      cases rv
      cases rw'
      rfl
     subst eu
     exact SeqAt.EqAt.same _
    ·cases d with
     |tup ds=>
      cases e with
      |tup es=>
       unfold Dp at p q
       obtain ⟨a,xs,rfl,h1,p⟩:=p
       obtain ⟨b,ys,rfl,h2,q⟩:=q
       cases rv
       cases rw'
       obtain ⟨i1,r1,t1,_⟩:=I.tuple h1
       obtain ⟨i2,r2,t2,_⟩:=I.tuple h2
       have l1:=zca p
       have l2:=zca q
       have l3:=r1.length
       have l4:=r2.length
       refine SeqAt.EqAt.of_refs (fun z=>same (by rw [z])) ?_
       have fin:=SeqAt.RcAt.tuples (A:=A) (e:=fun j=>eqb n (ds.getD j .non) (es.getD j .non)) t1 t2 (by omega) (fun j j1 j2=> ?_)
       ·rw [List.size_toArray,List.size_toArray,show i1.length=ds.length by omega,show i2.length=es.length by omega,zdo] at fin
        unfold eqb
        exact fin
       ·obtain ⟨x,g1,d1,f1⟩:=all2_at p r1 j j1
        obtain ⟨y,g2,d2,f2⟩:=all2_at q r2 j j2
        exact ih (c j _ _ g1 g2) d1 d2 f1 f2 (by show A.units+1+n<cLine;omega)
      |lst es=>exact absurd c (by unfold zcG;simp [zeY])
      |non=>cases hy
      |bl _=>cases hy
      |int _=>cases hy
      |str _=>cases hy
     |lst ds=>
      cases e with
      |lst es=>
       unfold Dp at p q
       obtain ⟨a,xs,rfl,h1,p⟩:=p
       obtain ⟨b,ys,rfl,h2,q⟩:=q
       cases rv
       cases rw'
       obtain ⟨i1,r1,t1,_⟩:=I.list h1
       obtain ⟨i2,r2,t2,_⟩:=I.list h2
       have l1:=zca p
       have l2:=zca q
       have l3:=r1.length
       have l4:=r2.length
       refine SeqAt.EqAt.of_refs (fun z=>same (by rw [z])) ?_
       have r0:=zdo (n:=n) ds es
       unfold eqb
       by_cases hs:i1.length=i2.length
       ·have fin:=SeqAt.RcAt.lists (A:=A) (e:=fun j=>eqb n (ds.getD j .non) (es.getD j .non)) t1.isList t2.isList (by simpa using hs) (by omega) (fun j j1 j2=> ?_)
        ·have e1:ds.length=es.length:=by omega
         rw [←e1,Nat.min_self,beq_self_eq_true,Bool.and_true] at r0
         rw [List.size_toArray,show i1.length=ds.length by omega,r0] at fin
         exact fin
        ·obtain ⟨x,g1,d1,f1⟩:=all2_at p r1 j j1
         obtain ⟨y,g2,d2,f2⟩:=all2_at q r2 j j2
         exact ih (c j _ _ g1 g2) d1 d2 f1 f2 (by show A.units+1+n<cLine;omega)
       ·have fin:=SeqAt.RcAt.lists_lengths (A:=A) t1.isList t2.isList (by simpa using hs) (by omega)
        have z:(ds.length==es.length)=false:=by
         rw [beq_eq_false_iff_ne]
         omega
        rw [z,Bool.and_false] at r0
        rw [←r0]
        exact fin
      |tup es=>exact absurd c (by unfold zcG;simp [zeY])
      |non=>cases hy
      |bl _=>cases hy
      |int _=>cases hy
      |str _=>cases hy
     |non=>cases hx
     |bl _=>cases hx
     |int _=>cases hx
     |str _=>cases hx
theorem zfH (I:Inv X pins σ H s) {n:Nat} {d e:D} {v w:V} {u u':Value} {A:Around} (c:zcG (n+1) d e) (p:Dp X.K H (n+1) d v) (q:Dp X.K H (n+1) e w) (hx:sc d=none) (hy:sc e=none) (rv:zaL v u) (rw':zaL w u') (hu:A.units+(n+1)<cLine):
  SeqAt.RcAt A s u u' (eqb (n+1) d e)∧SeqAt.RcNeAt A s u u' (!eqb (n+1) d e):=by
 cases d with
 |tup ds=>
  cases e with
  |tup es=>
   unfold Dp at p q
   obtain ⟨a,xs,rfl,h1,p⟩:=p
   obtain ⟨b,ys,rfl,h2,q⟩:=q
   cases rv
   cases rw'
   obtain ⟨i1,r1,t1,_⟩:=I.tuple h1
   obtain ⟨i2,r2,t2,_⟩:=I.tuple h2
   have l1:=zca p
   have l2:=zca q
   have l3:=r1.length
   have l4:=r2.length
   have el: ∀j (j1:j<i1.toArray.size) (j2:j<i2.toArray.size),SeqAt.EqAt A.in1 s i1.toArray[j] i2.toArray[j] (eqb n (ds.getD j .non) (es.getD j .non)):=fun j j1 j2=>by
    obtain ⟨x,g1,d1,f1⟩:=all2_at p r1 j j1
    obtain ⟨y,g2,d2,f2⟩:=all2_at q r2 j j2
    exact zfG I (c j _ _ g1 g2) d1 d2 f1 f2 (by show A.units+1+n<cLine;omega)
   have f1:=SeqAt.RcAt.tuples (A:=A) (e:=fun j=>eqb n (ds.getD j .non) (es.getD j .non)) t1 t2 (by omega) el
   have f2:=SeqAt.RcNeAt.tuples (A:=A) (e:=fun j=>eqb n (ds.getD j .non) (es.getD j .non)) t1 t2 (by omega) el
   rw [List.size_toArray,List.size_toArray,show i1.length=ds.length by omega,show i2.length=es.length by omega,zdo] at f1 f2
   unfold eqb
   exact ⟨f1,f2⟩
  |lst es=>exact absurd c (by unfold zcG;simp [zeY])
  |non=>cases hy
  |bl _=>cases hy
  |int _=>cases hy
  |str _=>cases hy
 |lst ds=>
  cases e with
  |lst es=>
   unfold Dp at p q
   obtain ⟨a,xs,rfl,h1,p⟩:=p
   obtain ⟨b,ys,rfl,h2,q⟩:=q
   cases rv
   cases rw'
   obtain ⟨i1,r1,t1,_⟩:=I.list h1
   obtain ⟨i2,r2,t2,_⟩:=I.list h2
   have l1:=zca p
   have l2:=zca q
   have l3:=r1.length
   have l4:=r2.length
   have el: ∀j (j1:j<i1.toArray.size) (j2:j<i2.toArray.size),SeqAt.EqAt A.in1 s i1.toArray[j] i2.toArray[j] (eqb n (ds.getD j .non) (es.getD j .non)):=fun j j1 j2=>by
    obtain ⟨x,g1,d1,f1⟩:=all2_at p r1 j j1
    obtain ⟨y,g2,d2,f2⟩:=all2_at q r2 j j2
    exact zfG I (c j _ _ g1 g2) d1 d2 f1 f2 (by show A.units+1+n<cLine;omega)
   have r0:=zdo (n:=n) ds es
   unfold eqb
   by_cases hs:i1.length=i2.length
   ·have f1:=SeqAt.RcAt.lists (A:=A) (e:=fun j=>eqb n (ds.getD j .non) (es.getD j .non)) t1.isList t2.isList (by simpa using hs) (by omega) el
    have f2:=SeqAt.RcNeAt.lists (A:=A) (e:=fun j=>eqb n (ds.getD j .non) (es.getD j .non)) t1.isList t2.isList (by simpa using hs) (by omega) el
    have e1:ds.length=es.length:=by omega
    rw [←e1,Nat.min_self,beq_self_eq_true,Bool.and_true] at r0
    rw [List.size_toArray,show i1.length=ds.length by omega,r0] at f1 f2
    exact ⟨f1,f2⟩
   ·have f1:=SeqAt.RcAt.lists_lengths (A:=A) t1.isList t2.isList (by simpa using hs) (by omega)
    have f2:=SeqAt.RcNeAt.lists_lengths (A:=A) t1.isList t2.isList (by simpa using hs) (by omega)
    have z:(ds.length==es.length)=false:=by
     rw [beq_eq_false_iff_ne]
     omega
    rw [z,Bool.and_false] at r0
    rw [←r0]
    exact ⟨f1,f2⟩
  |tup es=>exact absurd c (by unfold zcG;simp [zeY])
  |non=>cases hy
  |bl _=>cases hy
  |int _=>cases hy
  |str _=>cases hy
 |non=>cases hx
 |bl _=>cases hx
 |int _=>cases hx
 |str _=>cases hx
end
section
variable {X:Cx}
def zkk (K:PySem.W.Frag) (neg:Bool):R2:=fun x y H Q=> ∃n d e,Dp K H (n+1) d x∧Dp K H (n+1) e y∧sc d=none∧sc e=none∧n≤50∧zcG (n+1) d e∧Q (.bl (if neg then !eqb (n+1) d e else eqb (n+1) d e)) H
theorem zjo {k:Nat} (hr:Room k X.A):OpR X (compareOp .Eq) (zkk X.K false):=by
 intro pins s σ H x y v u Q I rx ry h
 obtain ⟨n,d,e,p,q,hx,hy,hn,c,hq⟩:=h
 have hu:=hr.units
 exact (zfH I (A:=X.A) c p q hx hy rx ry (by omega)).1 X.prog X.w _ _ ⟨.bl _,H,I,rfl,hq⟩
theorem zhj {k:Nat} (hr:Room k X.A):OpR X (compareOp .NotEq) (zkk X.K true):=by
 intro pins s σ H x y v u Q I rx ry h
 obtain ⟨n,d,e,p,q,hx,hy,hn,c,hq⟩:=h
 have hu:=hr.units
 exact (zfH I (A:=X.A) c p q hx hy rx ry (by omega)).2 X.prog X.w _ _ ⟨.bl _,H,I,rfl,hq⟩
theorem eqD {K:PySem.W.Frag} {H:Hp} {n:Nat} {d:D} {x y:V} {Q:VK} (p:Dp K H (n+1) d x) (q:Dp K H (n+1) d y) (hx:sc d=none) (hn:n≤50) (h:Q (.bl true) H):zkk K false x y H Q:=
 ⟨n,d,d,p,q,hx,hx,hn,zdn p,by rw [zdD p];exact h⟩
theorem neD {K:PySem.W.Frag} {H:Hp} {n:Nat} {d:D} {x y:V} {Q:VK} (p:Dp K H (n+1) d x) (q:Dp K H (n+1) d y) (hx:sc d=none) (hn:n≤50) (h:Q (.bl false) H):zkk K true x y H Q:=
 ⟨n,d,d,p,q,hx,hx,hn,zdn p,by rw [zdD p];exact h⟩
end
theorem zhk {K:PySem.W.Frag} {H:Hp} {n:Nat} {a:Addr} {ds:List D} {xs:List V} (h:SqT K H a xs) (q:zcN (Dp K H n) ds xs):Dp K H (n+1) (.tup ds) (.ref a):=by
 unfold Dp
 exact ⟨a,xs,rfl,h,q⟩
theorem zeu {K:PySem.W.Frag} {H:Hp} {n:Nat} {a:Addr} {ds:List D} {xs:List V} (h:SqL K H a xs) (q:zcN (Dp K H n) ds xs):Dp K H (n+1) (.lst ds) (.ref a):=by
 unfold Dp
 exact ⟨a,xs,rfl,h,q⟩
theorem zhl {K:PySem.W.Frag} {H:Hp} {n:Nat} {i:Int}:Dp K H n (.int i) (.int i):=by unfold Dp;rfl
theorem zf8 {K:PySem.W.Frag} {H:Hp} {n:Nat} {cs:List Nat}:Dp K H n (.str cs) (.str (SL cs)):=by unfold Dp;rfl
theorem zlk {K:PySem.W.Frag} {H:Hp} {n:Nat}:Dp K H n .non .non:=by unfold Dp;rfl
theorem zfI {K:PySem.W.Frag} {H:Hp} {n:Nat}: ∀is:List Int,zcN (Dp K H n) (is.map D.int) (is.map V.int)
 | []=>trivial
 |_::r=>⟨zhl,zfI r⟩
end L2
namespace L2
open PySem PySem.Spec PyProof.Rows
def New (H:Hp) (o:HO) (Q:VK):Prop:= ∀p H',H p=none→zao H H'→H' p=some o→Q (.ref p) H'
theorem New.at {H:Hp} {o:HO} {Q:VK} (h:New H o Q) {p:Addr} (hp:H p=none):Q (.ref p) (upd H p o):=h p _ hp (zcB hp o) zay
section
variable {X:Cx} {es:List Expr} {t:TA} {pos:Pos}
def zbG (t:TA):TE:=fun σ H Q=>t σ H fun xs H1=>xs.length≤sizeLine∧New H1 (.tup xs) Q
def zbH (t:TA):TE:=fun σ H Q=>t σ H fun xs H1=>xs.length≤sizeLine∧New H1 (.lst xs) Q
theorem zaJ {x1} (h:PA X es t):PE X (.Tuple es x1 pos) (zbG t):=by
 intro pins s σ H Q I hq
 refine wpAny_Tuple_spliced (thn (h pos pins s σ H _ I hq) fun us s1 ⟨xs,H1,I1,r,z,q⟩=>⟨by rw [←r.length];exact z,?_⟩)
 have hf:H1 s1.heap.objs.size=none:=I1.hok.fresh (Nat.le_refl _)
 refine ⟨.ref s1.heap.objs.size,upd H1 s1.heap.objs.size (.tup xs),I1.laid (t':=s1.toks) (fun b u e=>Heap.get?_push_of_some _ e) (Nat.le_refl _) ?_,rfl,q.at hf⟩
 exact ⟨z,us,r,⟨_,Heap.get?_push_size _ rfl,rfl,_,rfl⟩⟩
theorem zbg (h:PA X es t):PE X (.List es pos) (zbH t):=by
 intro pins s σ H Q I hq
 refine wpAny_List_spliced (thn (h pos pins s σ H _ I hq) fun us s1 ⟨xs,H1,I1,r,z,q⟩=>⟨by rw [←r.length];exact z,?_⟩)
 have hf:H1 s1.heap.objs.size=none:=I1.hok.fresh (Nat.le_refl _)
 refine ⟨.ref s1.heap.objs.size,upd H1 s1.heap.objs.size (.lst xs),I1.laid (t':=s1.toks) (fun b u e=>Heap.get?_push_of_some _ e) (Nat.le_refl _) ?_,rfl,q.at hf⟩
 exact ⟨z,us,0,r,Heap.get?_push_size _ rfl⟩
theorem OpR.imp {f:Value→Value→Sem Value} {r r':R2} (h:OpR X f r) (i: ∀x y H Q,r' x y H Q→r x y H Q):OpR X f r':=fun pins s σ H x y v u Q I rx ry q=>h pins s σ H x y v u Q I rx ry (i _ _ _ _ q)
theorem SlR.imp {r r':V→Option Int→Option Int→Hp→VK→Prop} (h:SlR X r) (i: ∀x lo hi H Q,r' x lo hi H Q→r x lo hi H Q):SlR X r':=
 fun pins s σ H x v vl vu lo hi sl Q I rx hs pl pu q=>h pins s σ H x v vl vu lo hi sl Q I rx hs pl pu (i _ _ _ _ _ q)
def zlT:R2:=fun x y H Q=> ∃p q xs ys,x= .ref p∧y= .ref q∧H p=some (.lst xs)∧H q=some (.lst ys)∧xs.length+ys.length≤sizeLine∧New H (.lst (xs++ys)) Q
theorem zh0:OpR X (binaryOp .Add) zlT:=zlf.imp fun _ _ _ _ ⟨p,q,xs,ys,e1,e2,h1,h2,hz,hq⟩=>⟨p,q,xs,ys,e1,e2,h1,h2,hz,fun _ hp=>hq.at hp⟩
def zlU (K:PySem.W.Frag):V→Option Int→Option Int→Hp→VK→Prop:=fun x lo hi H Q=> ∃a xs,x= .ref a∧SqL K H a xs∧New H (.lst (zfm xs lo hi)) Q
theorem zjp:SlR X (zlU X.K):=zkc.imp fun _ _ _ _ _ ⟨a,xs,e,h,q⟩=>⟨a,xs,e,h,fun _ hp=>q.at hp⟩
end
end L2
namespace L2
open PySem PySem.Spec PyProof.Rows
theorem za7 {n:Nat} (h:n≤1000):n<sizeLine:=Nat.lt_of_le_of_lt h (by decide)
theorem zbU {n:Nat} (h:n≤1000):n≤sizeLine:=Nat.le_of_lt (za7 h)
end L2
namespace L2
open PySem PySem.Spec PyProof.Rows
def za3 (t u:TE):TE:=fun σ H Q=>t σ H Q∨u σ H Q
end L2
namespace L2
open PySem PySem.Spec PyProof.Rows
def zlV (g:TG) (tb:TS) (D:Ends) (σ:St) (J:It) (H1:Hp):Prop:= ∃W:Nat→Nat→St→Hp→Prop,(∃m,W 0 m σ H1)∧ ∀i m σ H,W i m σ H→
 (J.stop i H∧D.nx σ H)∨(J.go i H∧ ∃N:St→Hp→Prop,(∀σ' H',N σ' H'→ ∃m',m'<m∧W (i+1) m' σ' H')∧ ∀x H',J.yld i H x H'→g x σ H' fun σ2 H2=>tb {D with nx:=N,ct:=N,bk:=D.nx} σ2 H2)
theorem zbX {wi:TI} {g:TG} {tb:TS} {D:Ends} {σ:St} {H:Hp} (k: ∀R:It→Hp→Prop,(∀J H1,zlV g tb D σ J H1→R J H1)→wi σ H R):zlP wi g tb D σ H:=k _ fun _ _ h=>h
def Itz (K:PySem.W.Frag) (a b:Addr):It:=
 ⟨fun i H=> ∃xs ys x y,SqL K H a xs∧SqL K H b ys∧xs[i]? =some x∧ys[i]? =some y,
  fun i H v H'=> ∃p,v= .ref p∧H p=none∧zao H H'∧ ∃x y,H' p=some (.tup [x,y])∧(∀xs,SqL K H a xs→xs[i]? =some x)∧ ∀ys,SqL K H b ys→ys[i]? =some y,
  fun i H=> ∃xs ys,SqL K H a xs∧SqL K H b ys∧(xs.length≤i∨ys.length≤i)⟩
section
variable {X:Cx} {pins:List (Addr×Obj)} {σ:St} {H:Hp} {s:Shared} {h':Heap} {ch:List Addr} {t':Nat}
theorem Inv.turnedL (I:Inv X pins σ H s) (hf: ∀b∈ch,zeG X pins H b) (k: ∀b o,b∉ch→s.heap.get? b=some o→h'.get? b=some o):Inv X pins σ H {s with heap:=h',toks:=t'}:=by
 have nit: ∀b u,H b=some u→b∉ch:=fun b u e z=>by rw [(hf b z).1] at e;cases e
 refine I.step (g':=s.gens) (d':=s.drawn) (ch:=ch) (fun b hb=> ?_) (fun b o _ _ hc e _=>k b o hc e) (fun b o _ _ hc e _=>⟨o.slots,k b o hc e⟩) (fun _ _ _ _ n=>n)
  (fun b o hc e=>⟨o,k b o hc e⟩) (fun _ _ e=>e) (fun _ _ _ e=>e) (fun b ps e=>⟨#[],by rw [e];simp⟩) (fun m hm=> ?_) (fun b u e=> ?_) I.bare
 ·obtain ⟨_,f1,_,f3,f4,f5⟩:=hf b hb
  exact ⟨f3,f1,f4,f5⟩
 ·obtain ⟨o,es,ep,ho,r⟩:=hm
  exact ⟨o,es,ep,k _ o (fun z=>(hf _ z).2.1 rfl) ho,r⟩
 ·refine (I.hok b u e).stay (fun c v hc q=>k c v ?_ q) (fun _ q=>q) fun _ _ q=>q
  rcases hc with z|z
  ·rw [z];exact nit b u e
  ·exact nit c _ z
theorem Inv.laidL {a:Addr} {o:HO} (I:Inv X pins σ H s) (hf: ∀b∈ch,zeG X pins H b) (k: ∀b o,b∉ch→s.heap.get? b=some o→h'.get? b=some o) (hp:s.heap.objs.size≤a) (new:zbp X.prog X.w (upd H a o) h' a o):
  Inv X pins σ (upd H a o) {s with heap:=h',toks:=t'}:=by
 have hn:=I.hok.fresh hp
 have nit: ∀b u,H b=some u→b∉ch:=fun b u e z=>by rw [(hf b z).1] at e;cases e
 refine I.step (g':=s.gens) (d':=s.drawn) (ch:=ch) (fun b hb=> ?_) (fun b o _ _ hc e _=>k b o hc e) (fun b o _ _ hc e _=>⟨o.slots,k b o hc e⟩)
  (fun b u _ e n=>by rw [zau (Nat.ne_of_lt (Nat.lt_of_lt_of_le (Heap.lt_size e) hp))];exact n)
  (fun b o hc e=>⟨o,k b o hc e⟩) (fun b xs e=>by rw [zau (zbh e hn)];exact e) (fun b o u e=>by rw [zau (zbh e hn)];exact e) (fun b ps e=>⟨#[],by rw [zau (zbh e hn),e];simp⟩) (fun m hm=> ?_) (fun b u e=> ?_) I.bare
 ·obtain ⟨_,f1,_,f3,f4,f5⟩:=hf b hb
  exact ⟨f3,f1,f4,f5⟩
 ·obtain ⟨o,es,ep,ho,r⟩:=hm
  exact ⟨o,es,ep,k _ o (fun z=>(hf _ z).2.1 rfl) ho,r⟩
 ·by_cases hb:b=a
  ·subst hb;rw [zay] at e;cases e;exact new
  ·rw [zau hb] at e
   refine (I.hok b u e).stay (fun c v hc q=>k c v ?_ q) (fun c q=>by rw [zau (zbh q hn)];exact q) fun c xs q=>by rw [zau (zbh q hn)];exact q
   rcases hc with z|z
   ·rw [z];exact nit b u e
   ·exact nit c _ z
end
def zlW (K:PySem.W.Frag) (ta:TA):TI:=fun σ H R=>ta σ H fun vs H1=> ∃a b,vs= [.ref a, .ref b]∧(∃xs,SqL K H1 a xs)∧(∃ys,SqL K H1 b ys)∧R (Itz K a b) H1
section
variable {X:Cx}
end
section
variable {X:Cx} {Ek:St→XK} {k:Nat} {f:Addr} {fd:FuncData} {ps ks:List Str} {sp:Sp} {x:Str} {p pos:Pos} {e:Expr} {es:List Expr} {kws:List Keyword} {t tk:TA} {g:List Value→List Value→List Value} {gV:List V→List V→List V}
def za4 (sp:Sp) (gV:List V→List V→List V) (Ek:St→XK) (t tk:TA):TE:=fun σ H Q=>t σ H fun vs H1=>tk σ H1 fun zs H2=>sp (gV vs zs) H2 Q (Ek σ)
end
structure FunD (K:PySem.W.Frag) (x qual:Str) (st:Stmt) (f:Addr) (fd:FuncData):Prop where
 ex: ∃(dV oc:Value) (od:Option Addr) (kV doc pm:Value) (an:Option Addr) (cdv ct:Value) (osl:Array (Option Value)),
  fd=PySem.W.fnOf x qual (zdL st) (zcX st) (zap st) dV kV doc pm an cdv ct∧K.lookup f=some ⟨oc,od, .func fd,osl⟩∧PySem.W.codeIn K cdv qual=true
 kp:PySem.W.keepIn K (.ref f)=true
def kwG {α:Type} (us ws:List α):List α:=match us,ws with
 | [a], [b]=> [a,b]
 |_,_=> []
theorem za5 {α:Type} (a b:α):kwG [a] [b]= [a,b]:=rfl
end L2
namespace Parts
variable {A s:Int}
end Parts
namespace L2
open PySem
section
variable {env:Env} {es:List Expr} {p:Pos}
theorem zah {c:Const} {j:Nat}:starEach (.Constant c j p::es) env=(false,eval (.Constant c j p) env)::starEach es env:=rfl
theorem zab {x:Str}:starEach (.Name x p::es) env=(false,eval (.Name x p) env)::starEach es env:=rfl
theorem zav {a b:Expr} {o:Operator}:starEach (.BinOp a o b p::es) env=(false,eval (.BinOp a o b p) env)::starEach es env:=rfl
theorem zdp {xs:List Expr} {k}:starEach (.Tuple xs k p::es) env=(false,eval (.Tuple xs k p) env)::starEach es env:=rfl
theorem zak {a b:Expr}:starEach (.Subscript a b p::es) env=(false,eval (.Subscript a b p) env)::starEach es env:=rfl
theorem zaB {f:Expr} {xs:List Expr} {ks:List Keyword}:starEach (.Call f xs ks p::es) env=(false,eval (.Call f xs ks p) env)::starEach es env:=rfl
end
end L2
namespace L2
open PySem PySem.Spec PyProof.Rows
def PSt (X:Cx) (st:Stmt) (t:TS):Prop:=
 ∀(pins:List (Addr×Obj)) (s:Shared) (σ:St) (H:Hp) (D:Ends),0<s.toks→Inv X pins σ H s→t D σ H→wpAny (model X.prog X.w) X.A (exec st X.env) (SP X pins D) X.xe s
def PTt (X:Cx) (e:Expr) (t:TT):Prop:=
 ∀(pins:List (Addr×Obj)) (s:Shared) (σ:St) (H:Hp) (Q:Bool→Hp→Prop),0<s.toks→Inv X pins σ H s→t σ H Q→wpAny (model X.prog X.w) X.A (isTrue e X.env (eval e X.env)) (TP X pins σ Q) X.xe s
def PWt (X:Cx) (e:Expr) (t:TT):Prop:=
 ∀(whole:Sem Value) (pins:List (Addr×Obj)) (s:Shared) (σ:St) (H:Hp) (Q:Bool→Hp→Prop),0<s.toks→Inv X pins σ H s→t σ H Q→wpAny (model X.prog X.w) X.A (isTrue e X.env whole) (TP X pins σ Q) X.xe s
section
variable {X:Cx} {st:Stmt} {sts rest:List Stmt} {e a b:Expr} {es:List Expr} {u v:TS} {te ta tb to:TE} {tc tA tB':TT} {tl:TA} {pos:Pos}
end
def PEm (X:Cx) (e:Expr) (t:TE):Prop:=
 ∀(pins:List (Addr×Obj)) (s:Shared) (σ:St) (H:Hp) (Q:VK),Inv X pins σ H s→t σ H Q→wpAny (model X.prog X.w) X.A (eval e X.env) (fun v s'=>0<s'.toks∧EP X pins σ Q v s') X.xe s
def PSm (X:Cx) (st:Stmt) (t:TS):Prop:=
 ∀(pins:List (Addr×Obj)) (s:Shared) (σ:St) (H:Hp) (D:Ends),Inv X pins σ H s→t D σ H→wpAny (model X.prog X.w) X.A (exec st X.env) (fun f s'=>0<s'.toks∧SP X pins D f s') X.xe s
section
variable {X:Cx} {st:Stmt} {rest:List Stmt} {e a:Expr} {t u:TS} {te ta:TE} {pos cp:Pos}
end
structure FnOkT (P:Program) (w:World) (K:PySem.W.Frag) (mg:Str→Option Value) (base:Heap) (CX:CXT) (k:Nat) (f:Addr) (fd:FuncData) (ps:List Str) (sp:Sp):Prop where
 len: ∀vs H Q E,sp vs H Q E→vs.length=ps.length
 run: ∀(A:Around) (outer:List Env) (s:Shared) (H:Hp) (args:Args) (us:List Value) (vs:List V) (Q:VK) (E:XK),0<s.toks→Room k A→Env0 P w K mg base A outer s H→BindsTo s fd args (ps.zip us)→zaP vs us→sp vs H Q E→
  codeAny (model P w) A (.call (.ref f) args) (CR CX outer P w H s Q E) s
section
variable {P:Program} {w:World} {K:PySem.W.Frag} {mg:Str→Option Value} {base:Heap} {x qual:Str} {st:Stmt} {f:Addr} {fd:FuncData} {N ps:List Str} {k:Nat} {sp:Sp}
end
section
variable {X:Cx} {Ek:St→XK} {k:Nat} {f:Addr} {fd:FuncData} {ps ks:List Str} {sp:Sp} {x:Str} {p pos:Pos} {e:Expr} {es:List Expr} {kws:List Keyword} {t tk:TA} {g:List Value→List Value→List Value} {gV:List V→List V→List V} {dvs:List V} {ds:List Value}
end
section
variable {X:Cx} {body suite:List Stmt} {b₀:Stmt} {n xn:Str} {i:Nat} {C:Addr} {tb:(St→XK)→TS} {ts:TS} {np hpos pos:Pos}
end
end L2
namespace L2
open PySem PySem.Spec PyProof.Rows
section
variable {X:Cx}
end
end L2
namespace L2
open PySem PySem.NumText
theorem zbY {c A B:Prop} [Decidable c] (h1:c→A) (h2: ¬c→B):if c then A else B:=by
 by_cases h:c
 ·rw [if_pos h];exact h1 h
 ·rw [if_neg h];exact h2 h
end L2
namespace L2
open PySem PySem.Spec PyProof.Rows
section
variable {κ:Type} [DecidableEq κ]
def zcF (kvs:List (κ×V)) (k:κ):Option V:=(kvs.find? fun kv=>decide (kv.1=k)).map (·.2)
def zdb (kvs:List (κ×V)) (k:κ) (v:V):List (κ×V):=
 if (kvs.any fun kv=>decide (kv.1=k))=true then kvs.map (fun kv=>if kv.1=k then (kv.1,v) else kv) else kvs++ [(k,v)]
def zeC (kvs:List (κ×V)) (k:κ):List (κ×V):=kvs.filter fun kv=>decide (kv.1≠k)
theorem zb5 {p:κ×V} {r:List (κ×V)} {k:κ} (e:p.1=k):zcF (p::r) k=some p.2:=by simp [zcF,List.find?_cons,e]
theorem zb6 {p:κ×V} {r:List (κ×V)} {k:κ} (e: ¬p.1=k):zcF (p::r) k=zcF r k:=by simp [zcF,List.find?_cons,e]
theorem zdE (k:κ): ∀kvs:List (κ×V),(kvs.any fun kv=>decide (kv.1=k))=(zcF kvs k).isSome
 | []=>rfl
 |p::r=>by
  rw [List.any_cons]
  by_cases e:p.1=k
  ·simp only [zb5 e,decide_eq_true e,Bool.true_or,Option.isSome_some]
  ·rw [zb6 e,decide_eq_false e,Bool.false_or];exact zdE k r
theorem zgH (k j:κ) (y:V): ∀kvs:List (κ×V),zcF (kvs.map fun kv=>if kv.1=k then (kv.1,y) else kv) j=(zcF kvs j).map fun x=>if j=k then y else x
 | []=>rfl
 |p::r=>by
  have ih:=zgH k j y r
  rw [List.map_cons]
  by_cases h:p.1=k
  ·rw [if_pos h]
   by_cases e:p.1=j
   ·rw [zb5 (p:=(p.1,y)) e,zb5 e,Option.map_some,if_pos (e.symm.trans h)]
   ·rw [zb6 (p:=(p.1,y)) e,zb6 e,ih]
  ·rw [if_neg h]
   by_cases e:p.1=j
   ·rw [zb5 (p:=p) e,zb5 e,Option.map_some,if_neg (fun z=>h (e.trans z))]
   ·rw [zb6 (p:=p) e,zb6 e,ih]
theorem zfJ (k j:κ) (y:V): ∀kvs:List (κ×V),zcF kvs k=none→zcF (kvs++ [(k,y)]) j=if j=k then some y else zcF kvs j
 | [],_=>by
  by_cases e:k=j
  ·rw [if_pos e.symm];exact zb5 (p:=(k,y)) e
  ·rw [if_neg (fun z=>e z.symm)];exact zb6 (p:=(k,y)) e
 |p::r,hn=>by
  rw [List.cons_append]
  have hk: ¬p.1=k:=fun z=>by rw [zb5 z] at hn;cases hn
  rw [zb6 hk] at hn
  have ih:=zfJ k j y r hn
  by_cases e:p.1=j
  ·rw [zb5 e,zb5 e,if_neg (fun z=>hk (e.trans z))]
  ·rw [zb6 e,zb6 e,ih]
theorem zgI (kvs:List (κ×V)) (k j:κ) (y:V):zcF (zdb kvs k y) j=if j=k then some y else zcF kvs j:=by
 unfold zdb
 by_cases a:(kvs.any fun kv=>decide (kv.1=k))=true
 ·rw [if_pos a,zgH]
  rw [zdE] at a
  by_cases e:j=k
  ·obtain ⟨x,hx⟩:=Option.isSome_iff_exists.mp a
   rw [if_pos e,e,hx,Option.map_some,if_pos rfl]
  ·rw [if_neg e]
   cases zcF kvs j with
   |none=>rfl
   |some x=>rw [Option.map_some,if_neg e]
 ·rw [if_neg a]
  refine zfJ k j y kvs ?_
  rw [zdE] at a
  cases q:zcF kvs k with
  |none=>rfl
  |some x=>rw [q] at a;exact (a rfl).elim
theorem zcY (kvs:List (κ×V)) (k:κ) (v:V):(zdb kvs k v).length≤kvs.length+1:=by
 unfold zdb
 split
 ·rw [List.length_map];omega
 ·rw [List.length_append,List.length_cons,List.length_nil];omega
theorem zjq {kvs:List (κ×V)} {k:κ} (v:V) (h:zcF kvs k=none):zdb kvs k v=kvs++ [(k,v)]:=by
 unfold zdb
 rw [zdE,h]
 exact if_neg (by decide)
theorem zeF.isSome_eq {o:Option V} {u:Option Value} (r:zeF o u):o.isSome=u.isSome:=by
 cases o with
 |none=>cases u with
  |none=>rfl
  |some _=>exact (show False from r).elim
 |some _=>cases u with
  |none=>exact (show False from r).elim
  |some _=>rfl
theorem KV.val {kvs:List (κ×V)} {vs:List (κ×Value)} (r:KV kvs vs) (k:κ):zeF (zcF kvs k) (valueAt vs k):=by
 unfold KV at r
 induction r with
 |nil=>exact True.intro
 | @cons p q ps qs h t ih=>
  obtain ⟨h1,h2⟩:=h
  by_cases e:p.1=k
  ·have e':q.1=k:=h1.symm.trans e
   have b:valueAt (q::qs) k=some q.2:=by simp [valueAt,List.find?_cons,e']
   rw [zb5 e,b];exact h2
  ·have e': ¬q.1=k:=fun z=>e (h1.trans z)
   have b:valueAt (q::qs) k=valueAt qs k:=by simp [valueAt,List.find?_cons,e']
   rw [zb6 e,b];exact ih
theorem KV.any {kvs:List (κ×V)} {vs:List (κ×Value)} (r:KV kvs vs) (k:κ):(kvs.any fun kv=>decide (kv.1=k))=vs.any fun kv=>decide (kv.1=k):=by
 unfold KV at r
 induction r with
 |nil=>rfl
 |cons h t ih=>rw [List.any_cons,List.any_cons,ih,h.1]
theorem KV.repl {kvs:List (κ×V)} {vs:List (κ×Value)} (r:KV kvs vs) (k:κ) {y:V} {u:Value} (ry:zaL y u):
  KV (kvs.map fun kv=>if kv.1=k then (kv.1,y) else kv) (vs.map fun kv=>if kv.1=k then (kv.1,u) else kv):=by
 unfold KV at r ⊢
 induction r with
 |nil=>exact .nil
 | @cons p q ps qs h t ih=>
  rw [List.map_cons,List.map_cons]
  refine .cons ?_ ih
  obtain ⟨h1,h2⟩:=h
  by_cases e:p.1=k
  ·rw [if_pos e,if_pos (h1.symm.trans e)];exact ⟨h1,ry⟩
  ·rw [if_neg e,if_neg (fun z=>e (h1.trans z))];exact ⟨h1,h2⟩
theorem KV.put {kvs:List (κ×V)} {vs:List (κ×Value)} (r:KV kvs vs) (k:κ) {y:V} {u:Value} (ry:zaL y u):KV (zdb kvs k y) (stored vs k u):=by
 unfold zdb stored
 rw [r.any k]
 by_cases e:(vs.any fun kv=>decide (kv.1=k))=true
 ·rw [if_pos e,if_pos e];exact r.repl k ry
 ·rw [if_neg e,if_neg e];exact Paired.snoc r ⟨rfl,ry⟩
theorem KV.drop {kvs:List (κ×V)} {vs:List (κ×Value)} (r:KV kvs vs) (k:κ):KV (zeC kvs k) (without vs k):=by
 unfold KV at r ⊢
 unfold zeC without
 induction r with
 |nil=>exact .nil
 | @cons p q ps qs h t ih=>
  obtain ⟨h1,h2⟩:=h
  rw [List.filter_cons,List.filter_cons]
  by_cases e:p.1=k
  ·have a: ¬decide (p.1≠k)=true:=by simp [e]
   have b: ¬decide (q.1≠k)=true:=by simp [h1.symm.trans e]
   rw [if_neg a,if_neg b];exact ih
  ·have e': ¬q.1=k:=fun z=>e (h1.trans z)
   have a:decide (p.1≠k)=true:=by simp [e]
   have b:decide (q.1≠k)=true:=by simp [e']
   rw [if_pos a,if_pos b];exact .cons ⟨h1,h2⟩ ih
theorem KV.length {kvs:List (κ×V)} {vs:List (κ×Value)} (r:KV kvs vs):kvs.length=vs.length:=Paired.length r
theorem zjr (kvs:List (κ×V)) (k:κ):(zeC kvs k).length≤kvs.length:=List.length_filter_le _ _
end
theorem zee {P:Program} {w:World} {k:Key} {u:Value} (r:zaL (kV k) u):(zbf P w).is k u=true:=by
 cases k with
 |inl i=>obtain ⟨t,e⟩:=(show∃t,u=Value.int i t from r);subst e;exact zgq P w i t
 |inr x=>obtain ⟨t,e⟩:=(show∃t,u=Value.str x t from r);subst e;exact zgr P w x t
theorem zfK {P:Program} {w:World}: ∀{ks:List Key} {us:List Value},zaP (ks.map kV) us→ItemsAre (zbf P w) ks us
 | [],_,r=>by rw [List.map_nil] at r;cases r;exact .nil
 |k::ks,_,r=>by
  rw [List.map_cons] at r
  cases r with
  |cons h t=>exact .cons (zee h) (zfK t)
abbrev KT (H:Hp):List (List Key×V)→List (List Key×Addr×Value)→Prop:=Paired fun p q=>p.1=q.1∧H q.2.1=some (.tup (p.1.map kV))∧zaL p.2 q.2.2
theorem KT.val {H:Hp} {kvs:List (List Key×V)} {xs:List (List Key×Addr×Value)} (r:KT H kvs xs) (k:List Key):zeF (zcF kvs k) ((atKey xs k).map (·.2)):=by
 induction r with
 |nil=>exact True.intro
 | @cons p q ps qs h t ih=>
  obtain ⟨h1,_,h2⟩:=h
  by_cases e:p.1=k
  ·have e':q.1=k:=h1.symm.trans e
   have b:atKey (q::qs) k=some q.2:=by simp [atKey,List.find?_cons,e']
   rw [zb5 e,b];exact h2
  ·have e': ¬q.1=k:=fun z=>e (h1.trans z)
   have b:atKey (q::qs) k=atKey qs k:=by simp [atKey,List.find?_cons,e']
   rw [zb6 e,b];exact ih
theorem KT.repl {H:Hp} {kvs:List (List Key×V)} {xs:List (List Key×Addr×Value)} (r:KT H kvs xs) (k:List Key) {y:V} {u:Value} (ry:zaL y u):
  KT H (kvs.map fun kv=>if kv.1=k then (kv.1,y) else kv) (xs.map (putAt k u)):=by
 induction r with
 |nil=>exact .nil
 | @cons p q ps qs h t ih=>
  rw [List.map_cons,List.map_cons]
  refine .cons ?_ ih
  obtain ⟨h1,h2,h3⟩:=h
  unfold putAt
  by_cases e:p.1=k
  ·rw [if_pos e,if_pos (h1.symm.trans e)];exact ⟨h1,h2,ry⟩
  ·rw [if_neg e,if_neg (fun z=>e (h1.trans z))];exact ⟨h1,h2,h3⟩
theorem KT.put {H:Hp} {kvs:List (List Key×V)} {xs:List (List Key×Addr×Value)} (r:KT H kvs xs) (k:List Key) {b:Addr} {y:V} {u:Value} (hb:H b=some (.tup (k.map kV))) (ry:zaL y u):
  KT H (zdb kvs k y) (storedH xs k b u):=by
 have e:(kvs.any fun kv=>decide (kv.1=k))=(atKey xs k).isSome:=by
  rw [zdE,(r.val k).isSome_eq,Option.isSome_map]
 unfold zdb storedH
 rw [e]
 by_cases q:(atKey xs k).isSome=true
 ·rw [if_pos q,if_pos q];exact r.repl k ry
 ·rw [if_neg q,if_neg q];exact Paired.snoc r ⟨rfl,hb,ry⟩
theorem KT.keeps {H H':Hp} {kvs:List (List Key×V)} {xs:List (List Key×Addr×Value)} (r:KT H kvs xs) (ht: ∀b ys,H b=some (.tup ys)→H' b=some (.tup ys)):KT H' kvs xs:=
 Paired.mapP r fun _ _ z=>⟨z.1,ht _ _ z.2.1,z.2.2⟩
section
variable {P:Program} {w:World} {H:Hp} {h:Heap} {a:Addr}
theorem zkV {u:HO} (ok:HOk P w H h) (e:Rd H a u):zbp P w H h a u:=e.ok ok
theorem zfL {kvs:List (Key×V)} (ok:HOk P w H h) (e:Rd H a (.dK kvs)):kvs.length≤sizeLine∧(a==sysModules)=false∧ ∃vs,KV kvs vs∧h.DictOf (zbf P w) a vs:=
 show zbp P w H h a (.dK kvs) from zkV ok e
theorem zgJ {kvs:List (Key×V)} (ok:HOk P w H h) (e:H a=some (.dK kvs)):kvs.length≤sizeLine∧(a==sysModules)=false∧ ∃vs,KV kvs vs∧h.DictOf (zbf P w) a vs:=zfL ok (.inl e)
theorem ze1 {ks:List Key} (ok:HOk P w H h) (e:H a=some (.tup (ks.map kV))):(tupleKind (zbf P w)).is h ks a:=by
 obtain ⟨_,its,r,o,h1,h2,n,h3⟩:=(show zbp P w H h a (.tup (ks.map kV)) from ok a _ e)
 exact ⟨o,its.toArray,n,h1,h2,h3,by simpa using zfK r⟩
theorem zfM {kvs:List (List Key×V)} (ok:HOk P w H h) (e:Rd H a (.dT kvs)):kvs.length≤sizeLine∧(a==sysModules)=false∧
  ∃xs,KT H kvs xs∧h.DictOfH (tupleKind (zbf P w)) a xs:=by
 obtain ⟨z,y,xs,r,o,es,ep,h1,h2,h3,h4,h5⟩:=(show zbp P w H h a (.dT kvs) from zkV ok e)
 refine ⟨z,y,xs,r,o,es,ep,h1,h2,h3,h4,fun x hx=> ?_,h5⟩
 have all: ∀{l:List (List Key×V)} {m:List (List Key×Addr×Value)},KT H l m→ ∀x∈m,(tupleKind (zbf P w)).is h x.1 x.2.1:=by
  intro l m q
  induction q with
  |nil=>intro x hx;exact nomatch hx
  | @cons p q ps qs hq t ih=>
   intro x hx
   rcases List.mem_cons.mp hx with e|hx
   ·subst e
    exact ze1 ok (by rw [←hq.1];exact hq.2.1)
   ·exact ih x hx
 exact all r x hx
theorem zlX {kvs:List (List Key×V)} (ok:HOk P w H h) (e:H a=some (.dT kvs)):kvs.length≤sizeLine∧(a==sysModules)=false∧
  ∃xs,KT H kvs xs∧h.DictOfH (tupleKind (zbf P w)) a xs:=zfM ok (.inl e)
end
def zev (H:Hp) (a:Addr) (y:V) (r:Option V):Prop:=
 (∃kvs k,Rd H a (.dK kvs)∧y=kV k∧r=zcF kvs k)∨ ∃kvs k b,Rd H a (.dT kvs)∧y= .ref b∧H b=some (.tup (k.map kV))∧r=zcF kvs k
def zhm (H:Hp) (a:Addr) (y v:V) (H':Hp):Prop:=
 (∃kvs k,H a=some (.dK kvs)∧y=kV k∧kvs.length<sizeLine∧H'=upd H a (.dK (zdb kvs k v)))∨
 ∃kvs k b,H a=some (.dT kvs)∧y= .ref b∧H b=some (.tup (k.map kV))∧kvs.length<sizeLine∧H'=upd H a (.dT (zdb kvs k v))
theorem zev.k {H:Hp} {a:Addr} {kvs:List (Key×V)} {k:Key} (e:H a=some (.dK kvs)):zev H a (kV k) (zcF kvs k):= .inl ⟨kvs,k, .inl e,rfl,rfl⟩
theorem zhm.k {H:Hp} {a:Addr} {kvs:List (Key×V)} {k:Key} {v:V} (e:H a=some (.dK kvs)) (hl:kvs.length<sizeLine):zhm H a (kV k) v (upd H a (.dK (zdb kvs k v))):= .inl ⟨kvs,k,e,rfl,hl,rfl⟩
section
variable {X:Cx} {pins:List (Addr×Obj)} {σ:St} {H:Hp} {s:Shared} {a:Addr} {y v:V} {u r:Value} {o:Option V} {A:Around} {E:Value→Shared→Prop}
theorem Inv.big (I:Inv X pins σ H s):sysModules<s.heap.objs.size:=by
 have h:mainGlobals<s.heap.objs.size:=(I.mod.glob.keeps I.bk).lt
 exact Nat.lt_trans (by decide) h
theorem ziz {Q:Value→Shared→Prop} (hu:A.units+1<cLine) (I:Inv X pins σ H s) (g:zev H a y (some v)) (ry:zaL y u) (h: ∀w' s',Inv X pins σ H s'→zaL v w'→Q w' s'):
  wpAny (model X.prog X.w) A (getItem (.ref a) u) Q E s:=by
 rcases g with ⟨kvs,k,e,ey,l⟩|⟨kvs,k,b,e,ey,eb,l⟩
 ·subst ey
  obtain ⟨z,hd,vs,rel,dd⟩:=zfL I.hok e
  obtain ⟨w',hw,rw'⟩:=zeF.some_of (v:=v) (o:=valueAt vs k) (by rw [l];exact rel.val k)
  exact wpAny_getItem_of (zee ry) dd.mapOf hw (h w' _ (I.tok _) rw')
 ·subst ey
  cases (show u=Value.ref b from ry)
  obtain ⟨z,hd,xs,rel,dd⟩:=zfM I.hok e
  obtain ⟨w',hw,rw'⟩:=zeF.some_of (v:=v) (o:=(atKey xs k).map (·.2)) (by rw [l];exact rel.val k)
  obtain ⟨p,hp,hp2⟩:=Option.map_eq_some_iff.mp hw
  refine wpAny_getItem_heap (tupleKind_room_in1 hu) (ze1 I.hok eb) dd hp ?_
  rw [hp2]
  exact h w' _ (I.tok _) rw'
theorem zmp {Q:Value→Shared→Prop} (hu:A.units+1<cLine) (I:Inv X pins σ H s) (g:zev H a y o) (ry:zaL y u) (h: ∀s',Inv X pins σ H s'→Q (.bool o.isSome) s'):
  wpAny (model X.prog X.w) A (compareOp .In u (.ref a)) Q E s:=by
 rcases g with ⟨kvs,k,e,ey,l⟩|⟨kvs,k,b,e,ey,eb,l⟩
 ·subst ey
  obtain ⟨z,hd,vs,rel,dd⟩:=zfL I.hok e
  refine wpAny_in_of (zee ry) hd dd.mapOf ?_
  rw [←(rel.val k).isSome_eq,←l]
  exact h _ (I.tok _)
 ·subst ey
  cases (show u=Value.ref b from ry)
  obtain ⟨z,hd,xs,rel,dd⟩:=zfM I.hok e
  refine wpAny_in_heap (tupleKind_room_in1 hu) (ze1 I.hok eb) hd dd ?_
  have q:=(rel.val k).isSome_eq
  rw [Option.isSome_map] at q
  rw [←q,←l]
  exact h _ (I.tok _)
theorem zkl {Q:Value→Shared→Prop} (hu:A.units+1<cLine) (I:Inv X pins σ H s) (g:zev H a y o) (ry:zaL y u) (h: ∀s',Inv X pins σ H s'→Q (.bool (!o.isSome)) s'):
  wpAny (model X.prog X.w) A (compareOp .NotIn u (.ref a)) Q E s:=by
 rcases g with ⟨kvs,k,e,ey,l⟩|⟨kvs,k,b,e,ey,eb,l⟩
 ·subst ey
  obtain ⟨z,hd,vs,rel,dd⟩:=zfL I.hok e
  refine wpAny_notIn_of (zee ry) hd dd.mapOf ?_
  rw [←(rel.val k).isSome_eq,←l]
  exact h _ (I.tok _)
 ·subst ey
  cases (show u=Value.ref b from ry)
  obtain ⟨z,hd,xs,rel,dd⟩:=zfM I.hok e
  refine wpAny_notIn_heap (tupleKind_room_in1 hu) (ze1 I.hok eb) hd dd ?_
  have q:=(rel.val k).isSome_eq
  rw [Option.isSome_map] at q
  rw [←q,←l]
  exact h _ (I.tok _)
theorem zeK {h':Heap} {t':Nat} {ob:HO} (I:Inv X pins σ H s) (mu:Mut (H a)) (hs:Heap.SameBut a s.heap h') (he: ∃q,h'.get? a=some q) (new:zbp X.prog X.w (upd H a ob) h' a ob):
  Inv X pins σ (upd H a ob) {s with heap:=h',toks:=t'}:=
 I.write (x:=a) (e:=a) mu (.inl rfl) (fun b q hb z=>(hs.2 b hb).trans z) he new
theorem zhn {P:Program} {w:World} {H':Hp} {h':Heap} {kvs:List (Key×V)} {vs:List (Key×Value)} (z:kvs.length≤sizeLine) (hd:(a==sysModules)=false) (rel:KV kvs vs) (dd:h'.DictOf (zbf P w) a vs):
  zbp P w H' h' a (.dK kvs):=⟨z,hd,vs,rel,dd⟩
theorem ziA {H':Hp} {Q:Unit→Shared→Prop} (hu:A.units+1<cLine) (I:Inv X pins σ H s) (g:zhm H a y v H') (ry:zaL y u) (rv:zaL v r) (h: ∀s',Inv X pins σ H' s'→Q () s'):
  wpAny (model X.prog X.w) A (setItem (.ref a) u r) Q E s:=by
 rcases g with ⟨kvs,k,e,ey,l,eH⟩|⟨kvs,k,b,e,ey,eb,l,eH⟩
 ·subst ey eH
  obtain ⟨z,hd,vs,rel,dd⟩:=zgJ I.hok e
  have hz:vs.length≤sizeLine:=by rw [←rel.length];exact z
  have hl:(zdb kvs k v).length≤sizeLine:=by have:=zcY kvs k v;omega
  refine wpAny_setItem_pairs (hsz:=hz) (zee ry) dd fun h' dd' hs=>h _ ?_
  have he: ∃q,h'.get? a=some q:=let ⟨q,_,_,hq,_⟩:=dd';⟨q,hq⟩
  exact zeK I (by rw [e];exact True.intro) hs he (zhn hl hd (rel.put k rv) dd')
 ·subst ey eH
  cases (show u=Value.ref b from ry)
  obtain ⟨z,hd,xs,rel,dd⟩:=zlX I.hok e
  have hz:xs.length≤sizeLine:=by rw [←Paired.length rel];exact z
  have hl:(zdb kvs k v).length≤sizeLine:=by have:=zcY kvs k v;omega
  refine wpAny_setItem_heap (hsz:=hz) (tupleKind_room_in1 hu) (ze1 I.hok eb) dd fun h' dd' hs=>h _ ?_
  obtain ⟨q,es,ep,hq,h2,h3,h4,_,h5⟩:=dd'
  refine zeK I (by rw [e];exact True.intro) hs ⟨q,hq⟩ ⟨hl,hd,_,(rel.put k eb rv).keeps fun c ys ec=> ?_,q,es,ep,hq,h2,h3,h4,h5⟩
  rw [zau (zlK ec e (fun z=>nomatch z))]
  exact ec
end
section
variable {X:Cx} {pins:List (Addr×Obj)} {σ:St} {H:Hp} {s:Shared} {a:Addr} {kvs:List (Key×V)} {k:Key} {u:Value} {A:Around} {E:Value→Shared→Prop}
theorem zlY {v:V} {more:List Value} {Q:Value→Shared→Prop} (I:Inv X pins σ H s) (e:H a=some (.dK kvs)) (ry:zaL (kV k) u) (l:zcF kvs k=some v) (hm:more= []∨ ∃x,more= [x])
  (h: ∀w' s',Inv X pins σ (upd H a (.dK (zeC kvs k))) s'→zaL v w'→Q w' s'):wpAny (model X.prog X.w) A (call (.builtin "dict.pop") (.ref a::u::more)) Q E s:=by
 obtain ⟨z,hd,vs,rel,dd⟩:=zgJ I.hok e
 obtain ⟨w',hw,rw'⟩:=zeF.some_of (v:=v) (o:=valueAt vs k) (by rw [←l];exact rel.val k)
 have hp:(keyPart u).isSome=true:=by
  cases k with
  |inl i=>obtain ⟨t,q⟩:=(show∃t,u=Value.int i t from ry);subst q;rfl
  |inr x=>obtain ⟨t,q⟩:=(show∃t,u=Value.str x t from ry);subst q;rfl
 have ha:argsOk "dict.pop" ⟨.ref a::u::more, []⟩:=by
  rcases hm with q|⟨x,q⟩
  ·subst q;exact PySem.F.args_dict_pop_2 _ _
  ·subst q;exact PySem.F.args_dict_pop_3 _ _ _
 refine call_meetsIn PySem.F.slot_dict_pop dd.typeIs PySem.F.entry_dict_pop ha (meets_dict_pop_there (zbf X.prog X.w) a (zee ry) more hm hp)
  ⟨vs,w',dd,by rw [←rel.length];exact z,hw,fun h' dd' hs=>h w' _ ?_ rw'⟩
 have he: ∃q,h'.get? a=some q:=let ⟨q,_,_,hq,_⟩:=dd';⟨q,hq⟩
 exact zeK I (by rw [e];exact True.intro) hs he (zhn (Nat.le_trans (zjr kvs k) z) hd (rel.drop k) dd')
end
def zll (i:Expr):Prop:= ∀ov iv,subscripted i false ov iv=operate [ov,iv] (getItem ov iv)
theorem zh1 {prog:Program} {w:World} {A:Around} {E:Value→Shared→Prop} {s:Shared} {env:Env} {value slice:Expr} {pos:Pos} {T id:String} {Q:Value→Shared→Prop}
  (hl:typeLookup (.type T) "__getitem__"=pure (some (.builtin id))) (hs:zll slice)
  (h:wpAny (model prog w) A (eval value env) (fun o s₁=>wpAny (model prog w) A (eval slice env) (fun i s₂=>s₂.TypeIs o T∧wpAny (model prog w) A (getItem o i) Q E s₂) E s₁) E s):
  wpAny (model prog w) A (eval (.Subscript value slice pos) env) Q E s:=by
 refine Subscript_ (wpAny_mono h (fun o s₁ h₁=>wpAny_mono h₁ (fun i s₂ h₂=> ?_) fun _ _ x=>x) fun _ _ x=>x)
 obtain ⟨hT,h₂⟩:=h₂
 unfold subscriptTail
 refine wpAny_bind ?_
 rw [getitemInPython_of_ne hT.not_modules]
 refine wpAny_bind (wpAny_specialOf hT hl ?_)
 have fin:wpAny (model prog w) A (subscripted slice false o i) (fun r s₃=>wpAny (model prog w) A (letTemporaryGo value o r>>=fun _=>pure r) Q E s₃) E s₂:=by
  rw [hs o i]
  exact wpAny_operating (wpAny_mono h₂ (fun r s₃ h₃=>wpAny_bind (wpAny_letTemporaryGo (wpAny_pure h₃))) fun _ _ x=>x)
 first
  |exact wpAny_pure (wpAny_bind fin)
  |exact wpAny_bind (wpAny_pure (wpAny_bind fin))
  |exact wpAny_bind fin
theorem zgK {X:Cx} {pins:List (Addr×Obj)} {σ:St} {H:Hp} {s:Shared} {a:Addr} {y:V} {o:Option V} (I:Inv X pins σ H s) (g:zev H a y o):s.TypeIs (.ref a) "dict":=by
 rcases g with ⟨kvs,k,e,_,_⟩|⟨kvs,k,b,e,_,_,_⟩
 ·obtain ⟨_,_,vs,_,dd⟩:=zfL I.hok e
  exact dd.typeIs
 ·obtain ⟨_,_,xs,_,dd⟩:=zfM I.hok e
  exact dd.typeIs
def zbI (td ty:TE):TE:=fun σ H Q=>td σ H fun x H1=>ty σ H1 fun y H2=> ∃a v,x= .ref a∧zev H2 a y (some v)∧Q v H2
def zcr (ty td:TE):TE:=fun σ H Q=>ty σ H fun y H1=>td σ H1 fun x H2=> ∃a o,x= .ref a∧zev H2 a y o∧Q (.bl o.isSome) H2
def zaS (ty td:TE):TE:=fun σ H Q=>ty σ H fun y H1=>td σ H1 fun x H2=> ∃a o,x= .ref a∧zev H2 a y o∧Q (.bl (!o.isSome)) H2
def zbJ (td ty tv:TE):TS:=fun D σ H=>tv σ H fun v H1=>td σ H1 fun x H2=>ty σ H2 fun y H3=> ∃a H4,x= .ref a∧zhm H3 a y v H4∧D.nx σ H4
section
variable {X:Cx} {o i e value:Expr} {pos pos' tpos:Pos} {td ty tv:TE}
theorem zef (hu:X.A.units+1<cLine) (ho:PE X o td) (hi:PE X i ty) (hs:zll i):PE X (.Subscript o i pos) (zbI td ty):=by
 intro pins s σ H Q I h
 refine zh1 PySem.F.slot_dict_getitem.lookup hs (thn (ho pins s σ H _ I h) fun u s1 ⟨x,H1,I1,rx,q1⟩=>thn (hi pins s1 σ H1 _ I1 q1) fun iv s2 ⟨y,H2,I2,ry,a,v,ex,g,q2⟩=> ?_)
 subst ex
 obtain rfl:u=Value.ref a:=rx
 exact ⟨zgK I2 g,ziz hu I2 g ry fun w' s3 I3 rw'=>⟨v,H2,I3,rw',q2⟩⟩
theorem zf9 (hu:X.A.units+1<cLine) (hi:PE X i ty) (ho:PE X o td):PC X .In i o (zcr ty td):=by
 intro pins s σ H Q I h
 refine thn (hi pins s σ H _ I h) fun iv s1 ⟨y,H1,I1,ry,q1⟩=>thn (ho pins s1 σ H1 _ I1 q1) fun u s2 ⟨x,H2,I2,rx,a,ov,ex,g,q2⟩=> ?_
 subst ex
 obtain rfl:u=Value.ref a:=rx
 exact zmp hu I2 g ry fun s3 I3=>⟨.bl ov.isSome,H2,I3,rfl,q2⟩
theorem ziB (hu:X.A.units+1<cLine) (hi:PE X i ty) (ho:PE X o td):PC X .NotIn i o (zaS ty td):=by
 intro pins s σ H Q I h
 refine thn (hi pins s σ H _ I h) fun iv s1 ⟨y,H1,I1,ry,q1⟩=>thn (ho pins s1 σ H1 _ I1 q1) fun u s2 ⟨x,H2,I2,rx,a,ov,ex,g,q2⟩=> ?_
 subst ex
 obtain rfl:u=Value.ref a:=rx
 exact zkl hu I2 g ry fun s3 I3=>⟨.bl (!ov.isSome),H2,I3,rfl,q2⟩
theorem zh2 (hu:X.A.units+1<cLine) (ho:PE X o td) (hi:PE X i ty) (hv:PE X value tv) (hs:swapsWith value (some (.Subscript o i pos')) pos.line X.env=pure false):
  PS X (.Assign [.Subscript o i pos'] value pos) (zbJ td ty tv):=by
 intro pins s σ H D I h
 refine wpAny_Assign_Subscript (thn (hv pins s σ H _ I h) fun r s1 ⟨v,H1,I1,rv,q1⟩=>thn (ho pins s1 σ H1 _ I1 q1) fun u s2 ⟨x,H2,I2,rx,q2⟩=>thn (hi pins s2 σ H2 _ I2 q2) fun iv s3 ⟨y,H3,I3,ry,a,H4,ex,g,q3⟩=> ?_) hs
 subst ex
 obtain rfl:u=Value.ref a:=rx
 exact ziA hu I3 g ry rv fun s4 I4=>⟨σ,H4,I4,q3⟩
end
theorem zgL {P:Program} {w:World} {H:Hp} (h:Heap) (hb:sysModules<h.objs.size):zbp P w H (h.push {cls:= .type "dict",data:= .dict #[]}) h.objs.size (.dK []):=
 ⟨Nat.zero_le _,beq_eq_false_iff_ne.mpr (Ne.symm (Nat.ne_of_lt hb)), [], .nil,Heap.DictOf.new h⟩
def zlm:TE:=fun _ H Q=> ∀p,H p=none→Q (.ref p) (upd H p (.dK []))
section
variable {X:Cx} {pos:Pos}
theorem zjs:PE X (.Dict [] [] pos) zlm:=fun pins s σ H Q I h=>
 wpAny_Dict_empty ⟨.ref s.heap.objs.size,_,I.laid (a:=s.heap.objs.size) (o:= .dK []) (t':=s.toks) (fun _ _ q=>Heap.get?_push_of_some _ q) (Nat.le_refl _) (zgL s.heap I.big),rfl,h _ (I.hok.fresh (Nat.le_refl _))⟩
end
def zga:List (TE×TE)→St→Hp→(List (V×V)→Hp→Prop)→Prop
 | [],_,H,Q=>Q [] H
 |(tk,tv)::r,σ,H,Q=>tk σ H fun x H1=>tv σ H1 fun y H2=>zga r σ H2 fun ps H3=>Q ((x,y)::ps) H3
abbrev VV:List (V×V)→List (Value×Value)→Prop:=Paired fun p q=>zaL p.1 q.1∧zaL p.2 q.2
def PPs (X:Cx) (pos:Pos) (keys:List (Option Expr)) (values:List Expr) (trs:List (TE×TE)):Prop:=
 ∀(pins:List (Addr×Obj)) (s:Shared) (σ:St) (H:Hp) (Q:List (V×V)→Hp→Prop),Inv X pins σ H s→zga trs σ H Q→
  wpAny (model X.prog X.w) X.A (evalPairs (pairTrees keys values X.env pos)) (fun vs s'=> ∃ps H',Inv X pins σ H' s'∧VV ps vs∧Q ps H') X.xe s
theorem zkm {X:Cx} {pos:Pos}:PPs X pos [] [] []:=fun pins s σ H Q I h=>pairTrees_nil_walk ⟨[],H,I, .nil,h⟩
theorem zeg {X:Cx} {pos:Pos} {k v:Expr} {ks:List (Option Expr)} {vs:List Expr} {tk tv:TE} {trs:List (TE×TE)} (hk:PE X k tk) (hv:PE X v tv) (hr:PPs X pos ks vs trs):
  PPs X pos (some k::ks) (v::vs) ((tk,tv)::trs):=fun pins s σ H Q I h=>
 pairTrees_cons_walk (thn (hk pins s σ H _ I h) fun u s1 ⟨x,H1,I1,rx,q1⟩=>thn (hv pins s1 σ H1 _ I1 q1) fun w2 s2 ⟨y,H2,I2,ry,q2⟩=>
  thn (hr pins s2 σ H2 _ I2 q2) fun ws s3 ⟨ps,H3,I3,rel,q3⟩=>⟨(x,y)::ps,H3,I3, .cons ⟨rx,ry⟩ rel,q3⟩)
def zew (kvs more:List (Key×V)):List (Key×V):=more.foldl (fun acc kv=>zdb acc kv.1 kv.2) kvs
theorem KV.merge: ∀{more:List (Key×V)} {rs:List (Key×Value)} {kvs:List (Key×V)} {vs:List (Key×Value)},KV more rs→KV kvs vs→KV (zew kvs more) (merged vs rs):=by
 intro more rs kvs vs r
 unfold KV at r
 induction r generalizing kvs vs with
 |nil=>intro q;exact q
 | @cons p q ps qs h t ih=>
  intro r0
  have e:KV (zdb kvs p.1 p.2) (stored vs q.1 q.2):=by
   have:=r0.put p.1 h.2
   rw [←h.1];exact this
  exact ih e
theorem zdV: ∀(more kvs:List (Key×V)),(zew kvs more).length≤kvs.length+more.length
 | [],kvs=>by show kvs.length≤kvs.length+0;omega
 |p::r,kvs=>by
  have h1:=zdV r (zdb kvs p.1 p.2)
  have h2:=zcY kvs p.1 p.2
  show (zew (zdb kvs p.1 p.2) r).length≤_
  rw [List.length_cons];omega
theorem ze2 {P:Program} {w:World}: ∀{kvs:List (Key×V)} {ws:List (Value×Value)},VV (kvs.map fun kv=>(kV kv.1,kv.2)) ws→ ∃rs,Carries (zbf P w) ws rs∧KV kvs rs
 | [],_,r=>by rw [List.map_nil] at r;cases r;exact ⟨[],True.intro, .nil⟩
 |p::kvs,_,r=>by
  rw [List.map_cons] at r
  cases r with
  | @cons a b as bs h t=>
   obtain ⟨rs,c,q⟩:=ze2 (P:=P) (w:=w) t
   obtain ⟨b1,b2⟩:=b
   exact ⟨(p.1,b2)::rs,⟨zee h.1,rfl,c⟩, .cons ⟨rfl,h.2⟩ q⟩
def zkW (trs:List (TE×TE)):TE:=fun σ H Q=> ∀p,H p=none→zga trs σ (upd H p (.dK [])) fun ps H2=>H2 p=some (.dK [])∧ ∃kvs:List (Key×V),ps=kvs.map (fun kv=>(kV kv.1,kv.2))∧kvs.length≤15∧Q (.ref p) (upd H2 p (.dK (zew [] kvs)))
theorem zkn {X:Cx} {pos:Pos} {keys:List (Option Expr)} {values:List Expr} {trs:List (TE×TE)} (h:PPs X pos keys values trs) (hall:keys.all (·.isSome)=true) (hl:keys.length=values.length) (h0:keys≠ [])
  (h15:keys.length≤15):PE X (.Dict keys values pos) (zkW trs):=by
 intro pins s σ H Q I q
 have hn:=I.hok.fresh (Nat.le_refl s.heap.objs.size)
 have I1:=I.laid (a:=s.heap.objs.size) (o:= .dK []) (h':=s.heap.push {cls:= .type "dict",data:= .dict #[]}) (t':=s.toks) (fun _ _ q=>Heap.get?_push_of_some _ q) (Nat.le_refl _) (zgL s.heap I.big)
 refine wpAny_Dict_walk (knd:=zbf X.prog X.w) hall hl h0 h15 (thn (h pins _ σ _ _ I1 (q _ hn)) fun ws s2 ⟨ps,H2,I2,rel,e,kvs,ep,lk,q2⟩=> ?_)
 subst ep
 obtain ⟨rs,c,rk⟩:=ze2 (P:=X.prog) (w:=X.w) rel
 obtain ⟨z,hd,vs0,r0,dd⟩:=zgJ I2.hok e
 cases r0
 refine ⟨rs,c,dd,fun h' dd' hs=>⟨.ref s.heap.objs.size,_,?_,rfl,q2⟩⟩
 have hz:(zew [] kvs).length≤sizeLine:=by
  have h1:=zdV kvs []
  rw [List.length_nil] at h1
  rw [sizeLine_eq];omega
 have he: ∃q,h'.get? s.heap.objs.size=some q:=let ⟨q,_,_,hq,_⟩:=dd';⟨q,hq⟩
 exact zeK I2 (by rw [e];exact True.intro) hs he (zhn hz hd (rk.merge .nil) dd')
structure M1 (X:Cx) (o:Expr) (m:Str) (apos:Pos) (e:Expr) (cpos:Pos):Prop where
 base:attributeBase o m X.env (eval o X.env)=eval o X.env
 few:((backTo cpos (starEach [e] X.env)).all (fun x=> !x.1) && (backToKw cpos (keywordEach [] X.env)).all (fun x=>x.1.isSome)
  && decide (([e]:List Expr).length+([]:List Keyword).length+(if ([]:List Keyword).isEmpty then 0 else 1)<30))=true
 line:(apos.endLine==cpos.line)=true
 trees:backTo cpos (starEach [e] X.env)= [(false,eval e X.env)]
structure M2 (X:Cx) (o:Expr) (m:Str) (apos:Pos) (e f:Expr) (cpos:Pos):Prop where
 base:attributeBase o m X.env (eval o X.env)=eval o X.env
 few:((backTo cpos (starEach [e,f] X.env)).all (fun x=> !x.1) && (backToKw cpos (keywordEach [] X.env)).all (fun x=>x.1.isSome)
  && decide (([e,f]:List Expr).length+([]:List Keyword).length+(if ([]:List Keyword).isEmpty then 0 else 1)<30))=true
 line:(apos.endLine==cpos.line)=true
 trees:backTo cpos (starEach [e,f] X.env)= [(false,eval e X.env),(false,eval f X.env)]
def IsD (H:Hp) (a:Addr):Prop:=(∃kvs,Rd H a (.dK kvs))∨ ∃kvs,Rd H a (.dT kvs)
theorem zln {X:Cx} {pins:List (Addr×Obj)} {σ:St} {H:Hp} {s:Shared} {a:Addr} (I:Inv X pins σ H s) (d:IsD H a):
  s.TypeIs (.ref a) "dict"∧(∀b,Value.ref a= .ref b→ ∃ob,s.heap.get? b=some ob∧ob.dict=none)∧(a==sysModules)=false:=by
 rcases d with ⟨kvs,e⟩|⟨kvs,e⟩
 ·obtain ⟨_,hd,vs,_,dd⟩:=zfL I.hok e
  refine ⟨dd.typeIs,fun b q=> ?_,hd⟩
  cases q
  obtain ⟨ob,_,_,h1,h2,_⟩:=dd
  exact ⟨ob,h1,h2.2.1⟩
 ·obtain ⟨_,hd,xs,_,dd⟩:=zfM I.hok e
  refine ⟨dd.typeIs,fun b q=> ?_,hd⟩
  cases q
  obtain ⟨ob,_,_,h1,h2,_⟩:=dd
  exact ⟨ob,h1,h2.2.1⟩
section
variable {X:Cx} {pins:List (Addr×Obj)} {σ:St} {H:Hp} {s:Shared} {a:Addr} {y d:V} {u r:Value} {o:Option V} {A:Around} {E:Value→Shared→Prop}
end
def zbm (td ty tx:TE):TE:=fun σ H Q=>td σ H fun x H1=> ∃a,x= .ref a∧IsD H1 a∧ty σ H1 fun y H2=>tx σ H2 fun z H3=> ∃o,zev H3 a y o∧Q (o.getD z) H3
def zbb (td ty:TE):TE:=fun σ H Q=>td σ H fun x H1=> ∃a,x= .ref a∧IsD H1 a∧ty σ H1 fun y H2=> ∃kvs k v,H2 a=some (.dK kvs)∧y=kV k∧zcF kvs k=some v∧Q v (upd H2 a (.dK (zeC kvs k)))
section
variable {X:Cx} {o e f:Expr} {apos cpos:Pos} {td ty tx:TE}
theorem zjt (ho:PE X o td) (he:PE X e ty) (m:M1 X o "pop" apos e cpos):PE X (.Call (.Attribute o "pop" apos) [e] [] cpos) (zbb td ty):=by
 intro pins s σ H Q I h
 refine wpAny_Call_method m.base m.few m.line PySem.F.plainAttrs_dict PySem.F.slot_dict_pop PySem.F.type_dict_pop (thn (ho pins s σ H _ I h) fun u s1 ⟨x,H1,I1,rx,a,ex,d,q1⟩=> ?_)
 subst ex
 obtain rfl:u=Value.ref a:=rx
 obtain ⟨t1,t2,_⟩:=zln I1 d
 refine ⟨t1,t2,?_⟩
 rw [m.trees]
 refine Calls.callWith_builtin rfl (Calls.evalArgs_plain (Calls.spliced_cons (thn (he pins s1 σ H1 _ I1 q1) fun iv s2 ⟨y,H2,I2,ry,kvs,k,v,ea,ey,l,q2⟩=>Calls.spliced_nil ?_)))
 subst ey
 exact zlY I2 ea ry l (.inl rfl) fun w' s3 I3 rw'=>⟨v,_,I3,rw',q2⟩
end
end L2
namespace L2
open PySem PySem.Spec PyProof.Rows
def zbc:TE:=fun _ H Q=>New H (.dK []) Q
theorem zgM {X:Cx} {pos:Pos}:PE X (.Dict [] [] pos) zbc:=fun pins s σ H Q I h=>zjs pins s σ H Q I fun p hp=>h.at hp
theorem zgN {K:PySem.W.Frag}:PySem.W.kitOne K (.type "str") (.type "int")=some false:=by
 unfold PySem.W.kitOne
 rw [if_neg (by decide)]
 kernel_rfl
def sv:D→V
 | .int i=> .int i
 | .str cs=> .str (SL cs)
 |_=> .non
def zlo (d:D):Prop:=(∃i,d= .int i)∨ ∃cs:List Nat,d= .str cs∧cs.length≤sizeLine
def isI:D→Bool
 | .int _=>true
 |_=>false
def btw (lo hi:Int):D→Bool
 | .int i=>decide (lo≤i) && decide (i≤hi)
 |_=>false
end L2
namespace L2
open PySem PySem.Spec PyProof.Rows
theorem zb0 {J:It} {H1:Hp} {ys:List V} {σ0:St} {g:TG} {tc:TT} {te:TE} {l:Addr} {Q:VK} (Pv:Nat→List V→Hp→Prop) (L:Lists J H1 ys) (hl:H1 l=none) (hz:ys.length<sizeLine)
  (h0: ∀H,zao H1 H→Pv 0 [] H)
  (hs: ∀i x xs H (K1:VK) (K0:Hp→Prop),ys[i]? =some x→zao H1 H→Pv i xs H→H l=some (.lst xs)→
   (∀v H4,zao H H4→(∀H5,(∀b o,b≠l→H4 b=some o→H5 b=some o)→Pv (i+1) (xs++ [v]) H5)→K1 v H4)→(∀H3,zao H H3→Pv (i+1) xs H3→K0 H3)→
   g x σ0 H fun σ2 H2=>Sub σ0 σ2∧tc σ2 H2 fun b H3=>if b=true then te σ2 H3 K1 else K0 H3)
  (hd: ∀xs H,zao H1 H→Pv ys.length xs H→xs.length≤ys.length→H l=some (.lst xs)→Q (.ref l) H):zjj J σ0 g tc te l Q H1:=by
 refine ⟨fun i m xs H=>i≤ys.length∧m=ys.length - i∧zao H1 H∧Pv i xs H∧xs.length≤i∧H l=some (.lst xs),⟨ys.length,Nat.zero_le _,by omega,zcB hl _,h0 _ (zcB hl _),Nat.le_refl _,zay⟩,?_⟩
 rintro i m xs H ⟨hi,rfl,sm,pv,hx,e⟩
 refine ⟨e,Nat.lt_of_le_of_lt hx (by omega),?_⟩
 by_cases hlt:i<ys.length
 ·refine .inr ⟨L.go i H sm hlt,fun x H' y=> ?_⟩
  obtain ⟨rfl,hx'⟩:=L.yld i H x H' sm y hlt
  refine hs i x xs H' _ _ hx' sm pv e (fun v H4 s4 p4=> ?_) (fun H3 s3 p3=> ?_)
  ·exact ⟨s4 _ _ e,ys.length - (i+1),by omega,hlt,rfl,zc8 (sm.trans s4) hl,p4 _ fun b o hb q=>by rw [zau hb];exact q,by rw [List.length_append];simp only [List.length_cons,List.length_nil];omega,zay⟩
  ·exact ⟨ys.length - (i+1),by omega,hlt,rfl,sm.trans s3,p3,by omega,s3 _ _ e⟩
 ·have ei:i=ys.length:=by omega
  subst ei
  exact .inl ⟨L.stop H sm,hd xs H sm pv hx e⟩
end L2
namespace L2
open PySem PySem.Spec PyProof.Rows
abbrev azL:List Nat:= [97,98,99,100,101,102,103,104,105,106,107,108,109,110,111,112,113,114,115,116,117,118,119,120,121,122]
theorem zlZ {r:Int} (h0:0≤r) (h1:r<26):atI azL r=some (97+r.toNat):=by
 obtain ⟨n,rfl⟩:=Int.eq_ofNat_of_zero_le h0
 have: ∀n:Nat,n<26→atI azL (n:Int)=some (97+n):=by decide
 exact this n (by omega)
abbrev Pl:=List Nat×Int×Int
def zko (K:PySem.W.Frag) (H:Hp) (z:V×Pl):Prop:= ∃p,z.1= .ref p∧SqT K H p [.str (SL z.2.1), .int z.2.2.1, .int z.2.2.2]
def zeh (K:PySem.W.Frag) (H:Hp) (zs:List (V×Pl)):Prop:= ∀z∈zs,zko K H z
theorem zko.same {K:PySem.W.Frag} {H H':Hp} {z:V×Pl} (h:zko K H z) (s:zao H H'):zko K H' z:=let ⟨p,e,q⟩:=h;⟨p,e,s.sqT q⟩
theorem zeh.same {K:PySem.W.Frag} {H H':Hp} {zs:List (V×Pl)} (h:zeh K H zs) (s:zao H H'):zeh K H' zs:=fun z hz=>(h z hz).same s
theorem zju {xs:List Int} {i:Int} (h0:0≤i) (h1:i<xs.length):xs.getD i.toNat 0∈xs:=by
 have hl:i.toNat<xs.length:=by omega
 rw [List.getD_eq_getElem?_getD,List.getElem?_eq_getElem hl]
 exact List.getElem_mem hl
theorem zkp {K:PySem.W.Frag} {H:Hp} {p l:Addr} {xs ys:List V} {o:HO} (h:SqT K H p xs) (e:H l=some (.lst ys)):SqT K (upd H l o) p xs:=by
 rcases h with (h|⟨ob,h⟩)|h
 ·have np:p≠l:=fun z=>by rw [z,e] at h;cases h
  exact .inl (.inl (by rw [zau np];exact h))
 ·have np:p≠l:=fun z=>by rw [z,e] at h;cases h
  exact .inl (.inr ⟨ob,by rw [zau np];exact h⟩)
 ·exact .inr h
theorem zdF (w:List Nat): ∀ws:List (List Nat),inV (.str (SL w)) (ws.map fun x=>V.str (SL x))=decide (w∈ws)
 | []=>rfl
 |x::r=>by
  have ih:=zdF w r
  unfold inV at ih ⊢
  rw [List.map_cons,List.any_cons,ih]
  show ((SL x==SL w)||decide (w∈r))=decide (w∈x::r)
  have e:(SL x==SL w)=decide (x=w):=by
   rw [Bool.eq_iff_iff,beq_iff_eq,decide_eq_true_eq,za6]
  rw [e,Bool.eq_iff_iff,Bool.or_eq_true,decide_eq_true_eq,decide_eq_true_eq,decide_eq_true_eq,List.mem_cons]
  constructor
  ·rintro (h|h)
   ·exact .inl h.symm
   ·exact .inr h
  ·rintro (h|h)
   ·exact .inl h.symm
   ·exact .inr h
theorem zh3 (xs:List V) (k:Nat):zfm xs none (some (k:Int))=xs.take k:=by
 unfold zfm
 rw [HT.sIx_none,HT.sIx_nat,List.drop_zero,Nat.sub_zero,←List.take_take,List.take_length]
theorem zh4 {K:PySem.W.Frag} {H H':Hp} {p l:Addr} {xs ys:List V} (h:SqT K H p xs) (e:H l=some (.lst ys)) (k: ∀b o,b≠l→H b=some o→H' b=some o):SqT K H' p xs:=by
 rcases h with (h|⟨ob,h⟩)|h
 ·have np:p≠l:=fun z=>by rw [z,e] at h;cases h
  exact .inl (.inl (k _ _ np h))
 ·have np:p≠l:=fun z=>by rw [z,e] at h;cases h
  exact .inl (.inr ⟨ob,k _ _ np h⟩)
 ·exact .inr h
theorem ze3 {f:D→V→Prop}: ∀{a b:List D} {x y:List V},zcN f a x→zcN f b y→zcN f (a++b) (x++y)
 | [],_, [],_,_,h=>h
 |_::_,_,_::_,_,h,g=>⟨h.1,ze3 h.2 g⟩
 | [],_,_::_,_,h,_=>h.elim
 |_::_,_, [],_,h,_=>h.elim
end L2
namespace L2
open PySem PySem.Spec PyProof.Rows
def Ite (K:PySem.W.Frag) (a:Addr):It:=
 ⟨fun i H=> ∃xs x,SqL K H a xs∧xs[i]? =some x,
  fun i H v H'=> ∃p,v= .ref p∧H p=none∧zao H H'∧ ∃x,H' p=some (.tup [.int i,x])∧ ∀xs,SqL K H a xs→xs[i]? =some x,
  fun i H=> ∃xs,SqL K H a xs∧xs.length≤i⟩
theorem ziC {P:Program} {w:World} {K:PySem.W.Frag} {es:List Expr} {n:Nat} {ps:Pos} (e it l:Addr) (hne:e≠it):
  Turn P w K (.Tuple es n ps) (Ite K l) [e,it] e (fun i h=>(∃old,IsEnum h e it i old)∧h.IsListIter it l i) where
 mem:=by simp
 obj:=fun i h st b hb=>by
  obtain ⟨⟨old,he⟩,⟨o1,e1,_,d1⟩⟩:=st
  have hb':b=e∨b=it:=by simpa using hb
  rcases hb' with rfl|rfl
  ·exact ⟨_,he,fun v q=>by
    have q':Data.fields _=Data.cell v:=q
    cases q'⟩
  ·exact ⟨_,e1,fun v q=>by rw [d1] at q;cases q⟩
 keep:=fun i h h' st k=>by
  obtain ⟨⟨old,he⟩,h1⟩:=st
  exact ⟨⟨old,k e (by simp) _ he⟩,h1.at fun o e=>k it (by simp) o e⟩
 item:=by
  intro X hP hw hK hc i pins s σ H E I hf st hg
  subst hP hw hK
  obtain ⟨xs,x,hx,ex⟩:=hg
  obtain ⟨⟨old,he⟩,h1⟩:=st
  obtain ⟨us,rv,p,_⟩:=I.list hx
  obtain ⟨u,hu,ru⟩:=rv.get ex
  refine wpAny_pyNext_enum_item he h1 p.isList (x:=u) (by simpa using hu) hne fun h' a1 a2 a3 a4 hk=> ?_
  refine ⟨_,rfl,wpAny_letOwnedTupleGo_enum (s:={s with heap:=h',toks:=s.toks+1}) a1 fun h2' hz' sb=> ?_⟩
  have lt: ∀{c o},s.heap.get? c=some o→s.heap.objs.size≠c:=fun e=>Nat.ne_of_gt (Heap.lt_size e)
  have hp:=I.hok.fresh (Nat.le_refl s.heap.objs.size)
  have pr:=sb.extBut _ _ (lt he) a3
  have I1:Inv X pins σ (upd H s.heap.objs.size (.tup [.int i,x])) {s with heap:=h2',toks:=s.toks+1}:=by
   refine I.laidL (ch:= [e,it]) (t':=s.toks+1) (fun b hb=>hf b hb) (fun b o hb e'=> ?_) (Nat.le_refl _) ⟨zbU (by simp), [.int i s.toks,u], .cons ⟨_,rfl⟩ (.cons ru .nil),⟨_,pr,rfl,_,rfl⟩⟩
   have hb': ¬(b=e∨b=it):=fun q=>hb (by simpa using q)
   exact sb.extBut _ _ (fun q=>hb' (.inl q)) (hk b o (fun q=>hb' (.inl q)) (fun q=>hb' (.inr q)) e')
  refine ⟨.ref s.heap.objs.size,_,I1,rfl,⟨_,rfl,hp,zcB hp _,x,zay,fun ws hw=> ?_⟩,⟨⟨_,hz'⟩,a2.extBut sb.extBut hne.symm⟩,fun b hb=> ?_⟩
  ·rw [I.list_inj hw hx];exact ex
  ·have hb':b=e∨b=it:=by simpa using hb
   have hs: ∃o,s.heap.get? b=some o:=by
    rcases hb' with rfl|rfl
    ·exact ⟨_,he⟩
    ·exact ⟨_,h1.choose_spec.1⟩
   obtain ⟨o,e⟩:=hs
   rw [zau (lt e).symm]
   exact (hf b hb).1
 done:=by
  intro X hP hw hK hc i pins s σ H E I hf st hg
  subst hP hw hK
  obtain ⟨xs,hx,hl⟩:=hg
  obtain ⟨⟨old,he⟩,h1⟩:=st
  obtain ⟨us,rv,p,_⟩:=I.list hx
  have e1:=rv.length
  refine wpAny_pyNext_enum_end (I.ok.hd hc) he h1 p.isList (by simp;omega) fun h' hk=>⟨rfl,?_⟩
  refine I.turnedL (ch:= [it]) (t':=s.toks) (fun b hb=>hf b ?_) (fun b o hb e=> ?_)
  ·have hb':b=it:=by simpa using hb
   simp [hb']
  ·exact hk b o (fun q=>hb (by simpa using q)) e
 self:=fun _ _ _ _ _ st h=>wpAny_pyIter_enum st.1.choose_spec h
def zjv (K:PySem.W.Frag) (ta:TA):TI:=fun σ H R=>ta σ H fun vs H1=> ∃a,vs= [.ref a]∧(∃xs,SqL K H1 a xs)∧R (Ite K a) H1
theorem zh5 {X:Cx} {es:List Expr} {n:Nat} {ps:Pos} {a:Expr} {ta:TA} {p pos:Pos} (hg:Gl X "enumerate") (hm:X.mg "enumerate"=none) (ha:PA X [a] ta) (hs:starEach [a] X.env= [(false,eval a X.env)]:=by rfl):
  PI X (.Tuple es n ps) (.Call (.Name "enumerate" p) [a] [] pos) (zjv X.K ta):=by
 intro pins s σ H R I h
 refine Call_ (zdi I hg hm boot_enumerate (PyProof.Rows.callWith_type1 (thn (ha pos pins s σ H _ I h) fun us s1 ⟨vs,H1,I1,r1,q1⟩=> ?_) (by rw [hs];rfl) (by rfl)))
 obtain ⟨i,e,⟨xs,hx⟩,q⟩:=q1
 subst e
 cases r1 with
 |cons r rr=>
  cases rr
  cases r
  obtain ⟨us,rv,pl,_⟩:=I1.list hx
  refine call_enumerate_list pl.isList fun h' hz hi1 hsz hk=>wpAny_pyIter_enum hz ?_
  refine ⟨_, [s1.heap.objs.size+1,s1.heap.objs.size],_,_,H1,rfl,I1.kept (t':=s1.toks) hk,ziC _ _ _ (Nat.succ_ne_self _),⟨⟨_,hz⟩,hi1⟩,fun b hb=> ?_,q⟩
  have hb':b=s1.heap.objs.size+1∨b=s1.heap.objs.size:=by simpa using hb
  have le:s1.heap.objs.size≤b:=by
   rcases hb' with rfl|rfl
   ·exact Nat.le_add_right _ _
   ·exact Nat.le_refl _
  exact I1.fpOk le (I1.hok.fresh le)
theorem zgO {K:PySem.W.Frag} {a:Addr} {xs:List V} {j k:Nat} {tb:TS} {D:Ends} {σ:St} {H:Hp} (Pv:Nat→St→Hp→Prop) (h0:Pv 0 σ H) (hl: ∀i σ H,i≤xs.length→Pv i σ H→SqL K H a xs)
  (hp: ∀i σ H H',Pv i σ H→zao H H'→Pv i σ H')
  (hs: ∀i x σ H,xs[i]? =some x→Pv i σ H→tb {D with nx:=Pv (i+1),ct:=Pv (i+1),bk:=D.nx} ((σ.set j (some (.int i))).set k (some x)) H) (hd: ∀σ H,Pv xs.length σ H→D.nx σ H):
  zlV (zlN K 2 (zbt (zbq j) (zbt (zbq k) zcf))) tb D σ (Ite K a) H:=by
 refine ⟨fun i m σ H=>m=xs.length - i∧i≤xs.length∧Pv i σ H,⟨xs.length,by simp,Nat.zero_le _,h0⟩,?_⟩
 rintro i m σ H ⟨rfl,hi,p⟩
 have q1:=hl i σ H hi p
 by_cases hlt:i<xs.length
 ·refine .inr ⟨⟨xs,xs[i],q1,by simp [hlt]⟩,Pv (i+1),fun σ' H' p'=>⟨xs.length - (i+1),by omega,rfl,hlt,p'⟩,fun v H' yl=> ?_⟩
  obtain ⟨pp,rfl,_,sm,x,e,ex⟩:=yl
  exact ⟨pp, [.int i,x],rfl,SqT.of e,rfl, .int i, [x],rfl,x, [],rfl,rfl,hs i x σ H' (ex xs q1) (hp i σ H H' p sm)⟩
 ·have e:i=xs.length:=by omega
  subst e
  exact .inl ⟨⟨xs,q1,Nat.le_refl _⟩,hd σ H p⟩
def isK (k:Int):Value→Bool
 | .int a _=>decide (a=k)
 |_=>false
theorem zfN: ∀(ns:List Int) (j:Nat),(ns.eraseIdx j).map V.int=(ns.map V.int).eraseIdx j
 | [],_=>rfl
 |_::_,0=>rfl
 |x::r,j+1=>congrArg (V.int x:: ·) (zfN r j)
theorem zho {ns:List Int} {us:List Value} (r:zaP (ns.map V.int) us) {i:Nat} (h:i<us.length): ∃(hn:i<ns.length) (t:Tok),us[i]= .int ns[i] t:=by
 have hl:=r.length
 rw [List.length_map] at hl
 have hn:i<ns.length:=by omega
 obtain ⟨u,hu,t,rfl⟩:=r.get (i:=i) (x:= .int ns[i]) (by rw [List.getElem?_map,List.getElem?_eq_getElem hn];rfl)
 exact ⟨hn,t,by rw [List.getElem?_eq_getElem h] at hu;exact Option.some.inj hu⟩
def zh6:V→List V→Hp→VK→Prop:=fun x vs H Q=> ∃l,∃(ns:List Int) (k:Int),x= .ref l∧vs= [.int k]∧H l=some (.lst (ns.map V.int))∧k∈ns∧ns.length≤sizeLine∧Q .non (upd H l (.lst ((ns.erase k).map V.int)))
theorem ziD {X:Cx}:MtM X "list.remove" zh6:=by
 intro pins s σ H x vs v us Q I rx rv h
 obtain ⟨l,ns,k,rfl,rfl,hH,hk,hz,q⟩:=h
 cases rx
 obtain ⟨u,rfl,t,rfl⟩:=rv.one
 obtain ⟨z,its,n,r,hl,e⟩:=I.lstM hH
 have len:=r.length
 rw [List.length_map] at len
 have jl:ns.idxOf k<ns.length:=List.idxOf_lt_length_iff.mpr hk
 have jk:ns[ns.idxOf k]=k:=List.getElem_idxOf jl
 refine call_meets F.slot_list_remove ⟨_,e,rfl⟩ F.entry_list_remove (F.args_list_remove_2 _ _) (MeetsSeq.list_remove l its.toArray n (.int k t) (isK k) (fun y hy=> ?_) (ns.idxOf k) (by rw [List.size_toArray];omega) ?_ (fun m hm hlt=> ?_) (by rw [List.size_toArray];omega)) ⟨e,?_⟩
 ·obtain ⟨i,hi,rfl⟩:=List.mem_iff_getElem.mp (List.mem_toArray.mp hy)
  obtain ⟨hn,t',e'⟩:=zho r hi
  rw [e']
  exact MeetsSeq.EqGives.int _ k _ t
 ·obtain ⟨hn,t',e'⟩:=zho r (i:=ns.idxOf k) (by omega)
  rw [List.getElem_toArray,e']
  exact decide_eq_true jk
 ·obtain ⟨hn,t',e'⟩:=zho r (i:=m) (by rw [List.size_toArray] at hm;exact hm)
  rw [List.getElem_toArray,e']
  refine decide_eq_false fun z=> ?_
  exact absurd (beq_iff_eq.mpr z) (by have:=List.not_of_lt_findIdx (p:=(· ==k)) (xs:=ns) (i:=m) hlt;simpa using this)
 ·refine ⟨.non,_,I.lset (its':=its.eraseIdx (ns.idxOf k)) hH e ?_ ?_ ?_,rfl,q⟩
  ·rw [List.eraseIdxIfInBounds_toArray]
  ·rw [List.erase_eq_eraseIdx_of_idxOf rfl,zfN]
   exact r.eraseIdx _
  ·rw [List.length_map]
   exact Nat.le_trans (List.length_erase_le ..) hz
end L2
namespace L2
open PySem
inductive Ch where
 |plan (d:Int) (nm:List Nat)
 |seats (d n:Int)
 |word (w:Nat) (d:Int)
 |undo (k:Int)
 |grant (a:Int)
 |back
def zcD:Nat→List Nat
 |0=> [104,111,108,100]
 |1=> [103,111]
 |2=> [115,116,111,112]
 |_=> [108,97,115,116]
def chD:Ch→List D
 | .plan d nm=> [.str [112,108,97,110], .int d, .str nm]
 | .seats d n=> [.str [115,101,97,116,115], .int d, .int n]
 | .word w d=> [.str (zcD w), .int d]
 | .undo k=> [.str [117,110,100,111], .int k]
 | .grant a=> [.str [103,114,97,110,116], .int a]
 | .back=> [.str [98,97,99,107]]
theorem zbr {c:Prop} [Decidable c] {a b:Prop} (h:c) (x:a):if c then a else b:=by rw [if_pos h];exact x
theorem zaT {c:Prop} [Decidable c] {a b:Prop} (h: ¬c) (x:b):if c then a else b:=by rw [if_neg h];exact x
theorem zbo {a b:List Nat} (h:a≠b): ¬V.str (SL a)=V.str (SL b):=fun z=>h (by rw [V.str.injEq,za6] at z;exact z)
theorem zao.put {H H':Hp} {a:Addr} (s:zao H H') (n:H a=none) (o:HO):zao H (upd H' a o):=fun b u e=>by
 rw [zau (zbh e n)]
 exact s b u e
abbrev En:=V×Addr×Int×Ch
def zbs:Ch→Bool
 | .plan _ _=>true
 | .seats _ _=>true
 | .word _ _=>true
 |_=>false
def zcZ (n:Nat) (L:List Int):Ch→List Int
 | .undo k=>L.erase k
 | .grant _=>L
 | .back=>L
 |_=>L++ [(n:Int)]
def ze4 (cs:List Ch) (s:Nat×List Int):Nat×List Int:=cs.foldl (fun s c=>(s.1+1,zcZ s.1 s.2 c)) s
def zaQ (cs:List Ch):List Int:=(ze4 cs (0, [])).2
theorem ze5 (P:Nat→List Int→Prop) (hs: ∀n L c,P n L→P (n+1) (zcZ n L c)): ∀(cs:List Ch) (s:Nat×List Int),P s.1 s.2→P (ze4 cs s).1 (ze4 cs s).2
 | [],_,h=>h
 |c::r,s,h=>ze5 P hs r (s.1+1,zcZ s.1 s.2 c) (hs _ _ _ h)
theorem zdP: ∀(cs:List Ch) (s:Nat×List Int),(ze4 cs s).1=s.1+cs.length
 | [],_=>rfl
 |c::r,s=>by
  show (ze4 r (s.1+1,_)).1=_
  rw [zdP r,List.length_cons]
  omega
theorem zdY (cs:List Ch) (c:Ch):zaQ (cs++ [c])=zcZ cs.length (zaQ cs) c:=by
 unfold zaQ ze4
 rw [List.foldl_append]
 show zcZ (ze4 cs (0, [])).1 _ c=_
 rw [zdP]
 show zcZ (0+cs.length) _ c=_
 rw [Nat.zero_add]
theorem zdc (cs:List Ch):(zaQ cs).Nodup∧ ∀k∈zaQ cs,0≤k∧k<cs.length:=by
 have h:=ze5 (fun n L=>L.Nodup∧ ∀k∈L,0≤k∧k<(n:Int)) (fun n L c ⟨h1,h2⟩=>by
  have old: ∀k∈L,0≤k∧k<((n+1:Nat):Int):=fun k hk=>⟨(h2 k hk).1,by have:=(h2 k hk).2;omega⟩
  have new:(L++ [(n:Int)]).Nodup∧ ∀k∈L++ [(n:Int)],0≤k∧k<((n+1:Nat):Int):=by
   refine ⟨List.nodup_append.mpr ⟨h1,List.nodup_cons.mpr ⟨fun z=>(nomatch z),List.nodup_nil⟩,fun a ha b hb e=> ?_⟩,fun k hk=> ?_⟩
   ·rw [List.mem_singleton.mp hb] at e
    have:=(h2 a ha).2
    omega
   ·rcases List.mem_append.mp hk with z|z
    ·exact old k z
    ·rw [List.mem_singleton.mp z]
     omega
  cases c with
  |plan=>exact new
  |seats=>exact new
  |word=>exact new
  |undo k=>exact ⟨h1.erase k,fun k' hk=>old k' (List.mem_of_mem_erase hk)⟩
  |grant=>exact ⟨h1,old⟩
  |back=>exact ⟨h1,old⟩) cs (0, []) ⟨List.nodup_nil,fun k hk=>(nomatch hk)⟩
 refine ⟨h.1,fun k hk=> ?_⟩
 have:=h.2 k hk
 rw [zdP] at this
 have e:(0,([]:List Int)).1+cs.length=cs.length:=Nat.zero_add _
 rw [e] at this
 exact this
theorem zcH (cs:List Ch):(zaQ cs).length≤cs.length:=by
 have h:=ze5 (fun n L=>L.length≤n) (fun n L c h=>by
  cases c with
  |plan=>show (L++ [(n:Int)]).length≤n+1;rw [List.length_append,List.length_singleton];omega
  |seats=>show (L++ [(n:Int)]).length≤n+1;rw [List.length_append,List.length_singleton];omega
  |word=>show (L++ [(n:Int)]).length≤n+1;rw [List.length_append,List.length_singleton];omega
  |undo k=>exact Nat.le_trans (Nat.le_trans (List.length_erase_le ..) h) (Nat.le_succ n)
  |grant=>exact Nat.le_succ_of_le h
  |back=>exact Nat.le_succ_of_le h) cs (0, []) (Nat.le_refl 0)
 rw [zdP] at h
 have e:(0,([]:List Int)).1+cs.length=cs.length:=Nat.zero_add _
 rw [e] at h
 exact h
def kvG (g:Int→V) (L:List Int):List (Key×V):=L.map fun k=>((Sum.inl k:Key),g k)
theorem zgb (g:Int→V) (x:Int): ∀L:List Int,zcF (kvG g L) (Sum.inl x)=if x∈L then some (g x) else none
 | []=>rfl
 |k::r=>by
  unfold kvG
  rw [List.map_cons]
  by_cases e:k=x
  ·subst e
   rw [zb5 rfl,if_pos List.mem_cons_self]
  ·rw [zb6 (by intro z;exact e (Sum.inl.inj z))]
   have ih:=zgb g x r
   unfold kvG at ih
   rw [ih]
   by_cases h:x∈r
   ·rw [if_pos h,if_pos (List.mem_cons_of_mem _ h)]
   ·rw [if_neg h,if_neg (fun z=>(List.mem_cons.mp z).elim (fun q=>e q.symm) h)]
theorem zlp (g:Int→V) {x:Int} {L:List Int} (h:x∉L):zdb (kvG g L) (Sum.inl x) (g x)=kvG g (L++ [x]):=by
 rw [zjq _ (by rw [zgb,if_neg h])]
 unfold kvG
 rw [List.map_append]
 rfl
theorem zh7 (g:Int→V) (x:Int): ∀{L:List Int},L.Nodup→zeC (kvG g L) (Sum.inl x)=kvG g (L.erase x)
 | [],_=>rfl
 |k::r,h=>by
  obtain ⟨h1,h2⟩:=List.nodup_cons.mp h
  have ih:=zh7 g x h2
  unfold kvG zeC at ih ⊢
  rw [List.map_cons,List.filter_cons]
  by_cases e:k=x
  ·subst e
   rw [if_neg (by simp),List.erase_cons_head,ih,List.erase_of_not_mem h1]
  ·rw [if_pos (by simpa using e),List.erase_cons_tail (by simpa using e),List.map_cons,ih]
def zmq (K:PySem.W.Frag) (H:Hp) (z:En):Prop:= ∃p,z.1= .ref p∧SqT K H p [.int z.2.2.1, .ref z.2.1]∧SqT K H z.2.1 ((chD z.2.2.2).map sv)
def zbV (K:PySem.W.Frag) (H:Hp) (zs:List En):Prop:= ∀z∈zs,zmq K H z
theorem zbV.same {K:PySem.W.Frag} {H H':Hp} {zs:List En} (h:zbV K H zs) (s:zao H H'):zbV K H' zs:=fun z hz=>
 let ⟨p,e,q1,q2⟩:=h z hz;⟨p,e,s.sqT q1,s.sqT q2⟩
theorem zbV.take {K:PySem.W.Frag} {H:Hp} {zs:List En} (h:zbV K H zs) (n:Nat):zbV K H (zs.take n):=fun z hz=>h z (List.mem_of_mem_take hz)
theorem zbV.off {K:PySem.W.Frag} {H H':Hp} {zs:List En} {l:Addr} {ys:List V} (h:zbV K H zs) (e:H l=some (.lst ys)) (k: ∀b o,b≠l→H b=some o→H' b=some o):zbV K H' zs:=fun z hz=>
 let ⟨p,e1,q1,q2⟩:=h z hz;⟨p,e1,zh4 q1 e k,zh4 q2 e k⟩
def zgc (nms:List (List Nat)) (f e:Int) (L:List Int):Ch→Prop
 | .plan d nm=>f≤d∧d<e∧nm∈nms
 | .seats d n=>f≤d∧d<e∧0≤n∧n≤1000000
 | .word w d=>w<4∧f≤d∧d<e
 | .undo k=>k∈L
 | .grant a=>1≤a∧a<10 ^ 30
 | .back=>True
def chs (zs:List En):List Ch:=zs.map fun z=>z.2.2.2
theorem zcE (zs:List En) (n:Nat):chs (zs.take n)=(chs zs).take n:=List.map_take
theorem zbW (zs:List En):(chs zs).length=zs.length:=List.length_map ..
def zcd (nms:List (List Nat)) (f e:Int) (zs:List En):Prop:= ∀i z,zs[i]? =some z→f≤z.2.2.1∧z.2.2.1<e∧(∀y∈zs.take i,y.2.2.1≤z.2.2.1)∧zgc nms f e (zaQ (chs (zs.take i))) z.2.2.2
theorem zhp {zs:List En} {i:Nat} {z:En} (h:zs[i]? =some z):zaQ (chs (zs.take (i+1)))=zcZ i (zaQ (chs (zs.take i))) z.2.2.2:=by
 have hi:=(List.getElem?_eq_some_iff.mp h).1
 have e:chs (zs.take (i+1))=chs (zs.take i)++ [z.2.2.2]:=by
  unfold chs
  rw [List.take_add_one,h,List.map_append]
  rfl
 rw [e,zdY,zbW,List.length_take,Nat.min_eq_left (by omega)]
theorem zcd.nil {nms:List (List Nat)} {f e:Int}:zcd nms f e []:=fun i z h=>by rw [List.getElem?_nil] at h;cases h
theorem zcd.take {nms:List (List Nat)} {f e:Int} {zs:List En} (h:zcd nms f e zs) (n:Nat):zcd nms f e (zs.take n):=fun i z hz=>by
 rw [List.getElem?_take] at hz
 split at hz
 ·rename_i hi
  rw [List.take_take,Nat.min_eq_left (by omega)]
  exact h i z hz
 ·cases hz
theorem zcd.snoc {nms:List (List Nat)} {f e:Int} {zs:List En} {z:En} (h:zcd nms f e zs) (h1:f≤z.2.2.1) (h2:z.2.2.1<e) (h3: ∀y∈zs,y.2.2.1≤z.2.2.1) (h4:zgc nms f e (zaQ (chs zs)) z.2.2.2):zcd nms f e (zs++ [z]):=fun i y hy=>by
 by_cases hi:i<zs.length
 ·rw [List.getElem?_append_left hi] at hy
  rw [List.take_append_of_le_length (by omega)]
  exact h i y hy
 ·rw [List.getElem?_append_right (by omega)] at hy
  have e0:i=zs.length:=by
   have:=(List.getElem?_eq_some_iff.mp hy).1
   rw [List.length_singleton] at this
   omega
  subst e0
  rw [Nat.sub_self] at hy
  cases hy
  rw [List.take_append_of_le_length (Nat.le_refl _),List.take_length]
  exact ⟨h1,h2,h3,h4⟩
theorem zcS {K:PySem.W.Frag} {H H':Hp} {p l m:Addr} {xs ys ws:List V} (h:SqT K H p xs) (e:H l=some (.lst ys)) (e2:H m=some (.lst ws)) (k: ∀b o,b≠l→b≠m→H b=some o→H' b=some o):SqT K H' p xs:=by
 rcases h with (h|⟨ob,h⟩)|h
 ·exact .inl (.inl (k _ _ (fun z=>by rw [z,e] at h;cases h) (fun z=>by rw [z,e2] at h;cases h) h))
 ·exact .inl (.inr ⟨ob,k _ _ (fun z=>by rw [z,e] at h;cases h) (fun z=>by rw [z,e2] at h;cases h) h⟩)
 ·exact .inr h
structure EnInv (K:PySem.W.Frag) (H0 H:Hp) (le ll:Addr) (nms:List (List Nat)) (f e:Int) (zs:List En):Prop where
 same:zao H0 H
 n1:H0 le=none
 n2:H0 ll=none
 ne:le≠ll
 e1:H le=some (.lst (zs.map (·.1)))
 e2:H ll=some (.lst ((zaQ (chs zs)).map V.int))
 at':zbV K H zs
 ok:zcd nms f e zs
theorem EnInv.same' {K:PySem.W.Frag} {H0 H H':Hp} {le ll:Addr} {nms:List (List Nat)} {f e:Int} {zs:List En} (I:EnInv K H0 H le ll nms f e zs) (s:zao H H'):EnInv K H0 H' le ll nms f e zs:=
 ⟨I.same.trans s,I.n1,I.n2,I.ne,s _ _ I.e1,s _ _ I.e2,I.at'.same s,I.ok⟩
theorem EnInv.step {K:PySem.W.Frag} {H0 H H':Hp} {le ll:Addr} {nms:List (List Nat)} {f e:Int} {zs:List En} {pe p:Addr} {en:Int} {ch:Ch} (I:EnInv K H0 H le ll nms f e zs) (ep:H pe=some (.tup [.int en, .ref p])) (ec:H p=some (.tup ((chD ch).map sv)))
  (kp: ∀b o,b≠le→b≠ll→H b=some o→H' b=some o) (e1:H' le=some (.lst (zs.map (·.1)++ [.ref pe]))) (e2:H' ll=some (.lst ((zcZ zs.length (zaQ (chs zs)) ch).map V.int)))
  (h1:f≤en) (h2:en<e) (h3: ∀y∈zs,y.2.2.1≤en) (h4:zgc nms f e (zaQ (chs zs)) ch):EnInv K H0 H' le ll nms f e (zs++ [(.ref pe,p,en,ch)]):=by
 refine ⟨fun b o eb=>kp b o (zbh eb I.n1) (zbh eb I.n2) (I.same b o eb),I.n1,I.n2,I.ne,by rw [e1,List.map_append];rfl,?_,fun z hz=> ?_,I.ok.snoc h1 h2 h3 h4⟩
 ·have ec:chs (zs++ [(V.ref pe,p,en,ch)])=chs zs++ [ch]:=by unfold chs;rw [List.map_append];rfl
  rw [e2,ec,zdY,zbW]
 ·rcases List.mem_append.mp hz with y|y
  ·obtain ⟨q,ez,q1,q2⟩:=I.at' z y
   exact ⟨q,ez,zcS q1 I.e1 I.e2 kp,zcS q2 I.e1 I.e2 kp⟩
  ·rw [List.mem_singleton.mp y]
   exact ⟨pe,rfl,zcS (SqT.of ep) I.e1 I.e2 kp,zcS (SqT.of ec) I.e1 I.e2 kp⟩
def chW:Ch→List Nat
 | .plan _ _=> [112,108,97,110]
 | .seats _ _=> [115,101,97,116,115]
 | .word w _=>zcD w
 | .undo _=> [117,110,100,111]
 | .grant _=> [103,114,97,110,116]
 | .back=> [98,97,99,107]
theorem zcT (c:Ch): ∃r,(chD c).map sv= .str (SL (chW c))::r:=by
 cases c<;>exact ⟨_,rfl⟩
theorem zh8 (v:V) (r:List V):atI (v::r) 0=some v:=zbw (j:=0) rfl
theorem zl0 (u v:V) (r:List V):atI (u::v::r) 1=some v:=zbw (j:=1) rfl
theorem zgP {ch:Ch} (h:chW ch= [117,110,100,111]): ∃k,ch= .undo k:=by
 cases ch with
 |undo k=>exact ⟨k,rfl⟩
 |word w d=>
  exfalso
  match w,h with
  |0,h=>exact absurd h (by decide: ¬ [104,111,108,100]= [117,110,100,111])
  |1,h=>exact absurd h (by decide: ¬ [103,111]= [117,110,100,111])
  |2,h=>exact absurd h (by decide: ¬ [115,116,111,112]= [117,110,100,111])
  |n+3,h=>exact absurd h (by decide: ¬ [108,97,115,116]= [117,110,100,111])
 |plan d nm=>exact absurd h (by decide: ¬ [112,108,97,110]= [117,110,100,111])
 |seats d n=>exact absurd h (by decide: ¬ [115,101,97,116,115]= [117,110,100,111])
 |grant a=>exact absurd h (by decide: ¬ [103,114,97,110,116]= [117,110,100,111])
 |back=>exact absurd h (by decide: ¬ [98,97,99,107]= [117,110,100,111])
theorem zjw (ch:Ch) (h:chW ch≠ [117,110,100,111]) (n:Nat) (Ls:List Int):decide (chW ch∈ [[103,114,97,110,116], [98,97,99,107]])= !zbs ch∧zcZ n Ls ch=if zbs ch=true then Ls++ [(n:Int)] else Ls:=by
 cases ch with
 |undo k=>exact absurd rfl h
 |word w d=>
  refine ⟨decide_eq_false ?_,rfl⟩
  show¬zcD w∈_
  match w with
  |0=>exact (by decide: ¬ [104,111,108,100]∈ [[103,114,97,110,116], [98,97,99,107]])
  |1=>exact (by decide: ¬ [103,111]∈ [[103,114,97,110,116], [98,97,99,107]])
  |2=>exact (by decide: ¬ [115,116,111,112]∈ [[103,114,97,110,116], [98,97,99,107]])
  |n+3=>exact (by decide: ¬ [108,97,115,116]∈ [[103,114,97,110,116], [98,97,99,107]])
 |plan d nm=>exact ⟨(by decide:decide ([112,108,97,110]∈ [[103,114,97,110,116], [98,97,99,107]])=false),rfl⟩
 |seats d n=>exact ⟨(by decide:decide ([115,101,97,116,115]∈ [[103,114,97,110,116], [98,97,99,107]])=false),rfl⟩
 |grant a=>exact ⟨(by decide:decide ([103,114,97,110,116]∈ [[103,114,97,110,116], [98,97,99,107]])=true),rfl⟩
 |back=>exact ⟨(by decide:decide ([98,97,99,107]∈ [[103,114,97,110,116], [98,97,99,107]])=true),rfl⟩
end L2
namespace L2
open PySem PySem.Spec PyProof.Rows
section
variable {X:Cx} {pins:List (Addr×Obj)} {σ:St} {H H':Hp} {s:Shared} {h':Heap} {t':Nat}
theorem Inv.laidAll (I:Inv X pins σ H s) (k: ∀b o,s.heap.get? b=some o→h'.get? b=some o) (ext: ∀b u,H b=some u→H' b=some u) (new: ∀b u,H' b=some u→H b=none→s.heap.objs.size≤b∧zbp X.prog X.w H' h' b u):
  Inv X pins σ H' {s with heap:=h',toks:=t'}:=by
 refine I.step (g':=s.gens) (d':=s.drawn) (ch:= []) (fun b hb=>(nomatch hb)) (fun b o _ _ hc e _=>k b o e) (fun b o _ _ hc e _=>⟨o.slots,k b o e⟩)
  (fun b u _ e n=> ?_)
  (fun b o hc e=>⟨o,k b o e⟩) (fun b xs e=>ext _ _ e) (fun b o u e=>ext _ _ e) (fun b ps e=>⟨#[],by rw [ext _ _ e];simp⟩) (fun m hm=> ?_) (fun b u e=> ?_) I.bare
 ·rcases q:H' b with _|v
  ·rfl
  ·exact absurd (Heap.lt_size e) (Nat.not_lt.mpr (new b v q n).1)
 ·obtain ⟨o,es,ep,ho,r⟩:=hm
  exact ⟨o,es,ep,k _ o ho,r⟩
 ·rcases q:H b with _|v
  ·exact (new b u e q).2
  ·have e2:=ext b v q
   rw [e] at e2
   cases e2
   exact (I.hok b u q).stay (fun c v hc q=>k c v q) (fun c q=>ext _ _ q) fun c xs q=>ext _ _ q
end
def zcw:List Addr→List (Key×V)→Hp→Hp
 |a::as,kv::kvs,H=>upd (zcw as kvs H) a (.tup [kV kv.1,kv.2])
 |_,_,H=>H
theorem ze6 {H:Hp} {b:Addr}: ∀{as:List Addr} {kvs:List (Key×V)},b∉as→zcw as kvs H b=H b
 | [],_,_=>by unfold zcw;rfl
 |_::_, [],_=>by unfold zcw;rfl
 |a::as,kv::kvs,h=>by
  unfold zcw
  rw [zau (fun z=>h (by rw [z];exact List.mem_cons_self)),ze6 fun z=>h (List.mem_cons_of_mem _ z)]
theorem zfO {H:Hp}: ∀{as:List Addr} {kvs:List (Key×V)} {i:Nat} {p:Addr} {kv:Key×V},as.Pairwise (· < ·)→as[i]? =some p→kvs[i]? =some kv→zcw as kvs H p=some (.tup [kV kv.1,kv.2])
 |a::as,kv::kvs,0,_,_,_,h1,h2=>by
  cases h1
  cases h2
  unfold zcw
  exact zay
 |a::as,kv::kvs,i+1,p,kv',hp,h1,h2=>by
  obtain ⟨q1,q2⟩:=List.pairwise_cons.mp hp
  have h1':as[i]? =some p:=by simpa using h1
  unfold zcw
  rw [zau (Nat.ne_of_gt (q1 p (List.mem_of_getElem? h1')))]
  exact zfO q2 h1' (by simpa using h2)
theorem zfP {H:Hp} {b:Addr} {u:HO}: ∀{as:List Addr} {kvs:List (Key×V)},as.Pairwise (· < ·)→zcw as kvs H b=some u→H b=some u∨ ∃(i:Nat) (kv:Key×V),as[i]? =some b∧kvs[i]? =some kv∧u= .tup [kV kv.1,kv.2]
 | [],_,_,h=>by unfold zcw at h;exact .inl h
 |_::_, [],_,h=>by unfold zcw at h;exact .inl h
 |a::as,kv::kvs,hp,h=>by
  unfold zcw at h
  by_cases e:b=a
  ·subst e
   rw [zay] at h
   exact .inr ⟨0,kv,rfl,rfl,(Option.some.inj h).symm⟩
  ·rw [zau e] at h
   rcases zfP (List.pairwise_cons.mp hp).2 h with q|⟨i,kv',q1,q2,q3⟩
   ·exact .inl q
   ·exact .inr ⟨i+1,kv',by simpa using q1,by simpa using q2,q3⟩
theorem zh9 {kvs:List (Key×V)} {vs:List (Key×Value)} (h:KV kvs vs): ∀{i:Nat} {kv:Key×V} {k:Key} {y:Value},kvs[i]? =some kv→vs[i]? =some (k,y)→kv.1=k∧zaL kv.2 y:=by
 unfold KV at h
 induction h with
 |nil=>intro i kv k y h1;rw [List.getElem?_nil] at h1;cases h1
 |cons r t ih=>
  intro i kv k y h1 h2
  cases i with
  |zero=>cases h1;cases h2;exact r
  |succ i=>exact ih (i:=i) (by simpa using h1) (by simpa using h2)
theorem ze7: ∀as:List Addr,zaP (as.map V.ref) (as.map Value.ref)
 | []=> .nil
 |_::r=> .cons rfl (ze7 r)
def zbd (td:TE):TE:=fun σ H Q=>td σ H fun x H1=> ∃a kvs,x= .ref a∧H1 a=some (.dK kvs)∧ ∀l H2 (as:List Addr),H1 l=none→zao H1 H2→as.length=kvs.length→(∀(i:Nat) (kv:Key×V) (p:Addr),kvs[i]? =some kv→as[i]? =some p→H2 p=some (.tup [kV kv.1,kv.2]))→H2 l=some (.lst (as.map V.ref))→Q (.ref l) H2
theorem zgd {X:Cx} {o:Expr} {td:TE} {p pos ap cp:Pos} (hc:X.calm=true) (hg:Gl X "list") (hm:X.mg "list"=none) (ho:PE X o td) (hb:attributeBase o "items" X.env (eval o X.env)=eval o X.env) (hline:(ap.endLine==cp.line)=true):
  PE X (.Call (.Name "list" p) [.Call (.Attribute o "items" ap) [] [] cp] [] pos) (zbd td):=by
 intro pins s σ H Q I h
 refine wpAny_Call_Name_kw (zdi I hg hm zkh ?_ (by decide) (by decide))
 refine PyProof.Rows.callWith_type1 ?_ zaB rfl
 show wpAny _ _ (spliced ((false,eval (.Call (.Attribute o "items" ap) [] [] cp) X.env)::backTo pos (starEach [] X.env))) _ _ s
 refine Calls.spliced_cons ?_
 refine wpAny_Call_method (T:="dict") (id:="dict.items") hb rfl hline PySem.F.plainAttrs_dict PySem.F.slot_dict_items PySem.F.type_dict_items (thn (ho pins s σ H _ I h) fun u s1 ⟨x,H1,I1,rx,a,kvs,ex,ea,q⟩=> ?_)
 subst ex
 obtain rfl:u=Value.ref a:=rx
 obtain ⟨z,hd,vs,rel,dd⟩:=zgJ I1.hok ea
 refine ⟨dd.typeIs,dd.mapOf.noDict,?_⟩
 show wpAny _ _ (callWith cp (.builtin "dict.items") [.ref a] [] []) _ _ s1
 refine method_meetsIn PySem.F.slot_dict_items PySem.F.entry_dict_items rfl (PySem.evalArgs_none ⟨rfl,dd.typeIs,PySem.F.args_dict_items_1 _,_,meets_dict_items _ a hd,⟨vs,dd⟩,?_⟩)
 refine Calls.spliced_nil ?_
 obtain ⟨ep,hat⟩:=dd.dictAt
 have kp0: ∀b o,s1.heap.get? b=some o→(s1.heap.push {cls:= .type "dict_items",data:= .fields #[.ref a]}).get? b=some o:=fun b o e=>Heap.get?_push_of_some _ e
 refine PySem.W.kdx_call (knd:=zbf X.prog X.w) (kvs:=vs) (ep:=ep) (I.ok.hd hc) ⟨_,Heap.get?_push_size _ rfl,rfl,rfl⟩ (hat.at' fun o e=>Heap.get?_push_of_some _ e) (by rw [←rel.length];exact z) fun h' tk acc c as hk hS hl hG hacc=> ?_
 obtain ⟨l,hl0⟩: ∃l,l=s1.heap.objs.size+1:=⟨_,rfl⟩
 have el:(s1.heap.push {cls:= .type "dict_items",data:= .fields #[.ref a]}).objs.size=l:=by rw [Heap.size_push,hl0]
 replace hS:h'.get? l=some {cls:= .type "list",dict:=none,data:= .seq acc c,slots:= #[]}:=by rw [←el];exact hS
 replace hG:PySem.W.KdxG (zbf X.prog X.w) vs l h' as:=by rw [←el];exact hG
 have kp: ∀b o,s1.heap.get? b=some o→h'.get? b=some o:=fun b o e=>hk b o (kp0 b o e)
 have lkv:as.length=kvs.length:=hl.trans (show kvs.length=vs.length from rel.length).symm
 have la:l∉as:=fun m=>Nat.lt_irrefl _ (hG.above l m)
 have fresh: ∀b,s1.heap.objs.size≤b→H1 b=none:=fun b hb=>I1.hok.fresh hb
 have ext: ∀b u,H1 b=some u→upd (zcw as kvs H1) l (.lst (as.map V.ref)) b=some u:=fun b u e=>by
  have b1:b≠l:=fun z=>by rw [z,fresh l (by omega)] at e;cases e
  have b2:b∉as:=fun m=>by rw [fresh b (Nat.le_of_lt (Nat.lt_trans (hl0 ▸ Nat.lt_succ_self _) (hG.above b m)))] at e;cases e
  rw [zau b1,ze6 b2]
  exact e
 have new: ∀b u,upd (zcw as kvs H1) l (.lst (as.map V.ref)) b=some u→H1 b=none→s1.heap.objs.size≤b∧zbp X.prog X.w (upd (zcw as kvs H1) l (.lst (as.map V.ref))) h' b u:=fun b u e n=>by
  by_cases b1:b=l
  ·subst b1
   rw [zay] at e
   cases e
   refine ⟨by omega,show zbp X.prog X.w _ h' _ (.lst (as.map V.ref)) from ⟨by rw [List.length_map,lkv];exact z,as.map Value.ref,c,ze7 as,?_⟩⟩
   rw [←hacc,Array.toArray_toList]
   exact hS
  ·rw [zau b1] at e
   rcases zfP hG.rise e with e1|⟨i,kv,q1,q2,rfl⟩
   ·rw [n] at e1;cases e1
   ·obtain ⟨key,k,x,v1,v2,v3⟩:=hG.pairs i b q1
    obtain ⟨r1,r2⟩:=zh9 rel q2 v1
    have rk:zaL (kV kv.1) key:=by
     rw [r1]
     rcases zbz v2 with ⟨j,t,rfl,ej⟩|⟨y,t,rfl,ej⟩
     ·rw [ej];exact ⟨t,rfl⟩
     ·rw [ej];exact ⟨t,rfl⟩
    refine ⟨Nat.le_of_lt (Nat.lt_trans (hl0 ▸ Nat.lt_succ_self _) (hG.above b (List.mem_of_getElem? q1))),show zbp X.prog X.w _ h' _ (.tup [kV kv.1,kv.2]) from ⟨zbU (by simp), [key,x], .cons rk (.cons r2 .nil),⟨_,v3,rfl,_,rfl⟩⟩⟩
 have ev:(s1.heap.push {cls:= .type "dict_items",data:= .fields #[.ref a]}).objs.size=l:=el
 show EP X pins σ Q (Value.ref (s1.heap.push {cls:= .type "dict_items",data:= .fields #[.ref a]}).objs.size) {s1 with heap:=h',toks:=tk}
 rw [ev]
 exact ⟨.ref l,_,I1.laidAll (t':=tk) kp ext new,rfl,q l _ as (fresh l (by omega)) ext lkv (fun i kv p' h1 h2=>by rw [zau (fun z=>la (by rw [←z];exact List.mem_of_getElem? h2))];exact zfO hG.rise h2 h1) zay⟩
def zcx (K:PySem.W.Frag) (te:TE) (th:TO):TE:=fun σ H Q=>te σ H fun x H1=>th σ H1 fun u H2=>u=some (-1)∧ ∃a xs,x= .ref a∧SqL K H2 a xs∧New H2 (.lst xs.reverse) Q
end L2
namespace L2
open PySem
def enL (mo:Int) (z:En):Bool:=decide (z.2.2.1≤mo)
def mOf (zs:List En) (mo:Int):Nat:=(zs.filter (enL mo)).length
theorem zdZ (mo:Int): ∀{zs:List En},zs.Pairwise (fun a b=>a.2.2.1≤b.2.2.1)→zs.filter (enL mo)=zs.take (mOf zs mo)∧ ∀(j:Nat) (z:En),zs[j]? =some z→(z.2.2.1≤mo↔j<mOf zs mo)
 | [],_=>⟨rfl,fun j z h=>by rw [List.getElem?_nil] at h;cases h⟩
 |z::r,h=>by
  obtain ⟨h1,h2⟩:=List.pairwise_cons.mp h
  obtain ⟨e,ih⟩:=zdZ mo h2
  unfold mOf at e ih ⊢
  by_cases q:z.2.2.1≤mo
  ·rw [List.filter_cons_of_pos (show enL mo z=true from decide_eq_true q),List.length_cons]
   refine ⟨by rw [List.take_succ_cons,←e],fun j y hy=> ?_⟩
   cases j with
   |zero=>cases hy;exact ⟨fun _=>Nat.succ_pos _,fun _=>q⟩
   |succ j=>
    have:=ih j y (by simpa using hy)
    rw [this]
    omega
  ·rw [List.filter_cons_of_neg (show¬enL mo z=true from by unfold enL;simpa using q)]
   have nil:r.filter (enL mo)= []:=by
    rw [List.filter_eq_nil_iff]
    intro y hy
    have:=h1 y hy
    unfold enL
    simp only [decide_eq_true_eq]
    omega
   rw [nil]
   refine ⟨rfl,fun j y hy=>⟨fun le=> ?_,fun z0=>absurd z0 (Nat.not_lt_zero _)⟩⟩
   cases j with
   |zero=>cases hy;exact absurd le q
   |succ j=>
    have:=h1 y (List.mem_of_getElem? (show r[j]? =some y by simpa using hy))
    omega
theorem zcd.pair {nms:List (List Nat)} {f e:Int} {zs:List En} (h:zcd nms f e zs):zs.Pairwise (fun a b=>a.2.2.1≤b.2.2.1):=by
 rw [List.pairwise_iff_getElem]
 intro i j hi hj lt
 refine (h j zs[j] (List.getElem?_eq_getElem hj)).2.2.1 zs[i] ?_
 rw [List.mem_take_iff_getElem]
 exact ⟨i,by omega,rfl⟩
def zaO:List Ch→List Int
 | []=> []
 | .undo k::r=>k::zaO r
 |_::r=>zaO r
theorem zdG: ∀a b:List Ch,zaO (a++b)=zaO a++zaO b
 | [],_=>rfl
 |c::r,b=>by
  have ih:=zdG r b
  cases c with
  |undo k=>show k::zaO (r++b)=k::zaO r++zaO b;rw [ih];rfl
  |plan=>exact ih
  |seats=>exact ih
  |word=>exact ih
  |grant=>exact ih
  |back=>exact ih
def zdd (o:Option Ch):Bool:=(o.map zbs).getD false
def zdv (cs:List Ch) (gs:List Int) (n:Nat):List Int:=((List.range n).filter (fun j:Nat=>zdd cs[j]? && !decide ((j:Int)∈gs))).map fun j:Nat=>(j:Int)
theorem zdH (cs:List Ch) (gs:List Int) (n:Nat):zdv cs gs (n+1)=zdv cs gs n++(if (zdd cs[n]? && !decide ((n:Int)∈gs))=true then [(n:Int)] else []):=by
 unfold zdv
 rw [List.range_succ,List.filter_append,List.map_append]
 congr 1
 by_cases h:(zdd cs[n]? && !decide ((n:Int)∈gs))=true
 ·rw [if_pos h,List.filter_cons]
  exact congrArg (List.map _) (if_pos h)
 ·rw [if_neg h,List.filter_cons]
  exact congrArg (List.map _) (if_neg h)
def zbQ (cs:List Ch):Prop:= ∀(i:Nat) (k:Int),cs[i]? =some (.undo k)→k∈zaQ (cs.take i)
theorem zbQ.take {cs:List Ch} (h:zbQ cs) (n:Nat):zbQ (cs.take n):=fun i k hi=>by
 rw [List.getElem?_take] at hi
 split at hi
 ·rw [List.take_take,Nat.min_eq_left (by omega)]
  exact h i k hi
 ·cases hi
theorem zcI (cs:List Ch) (ok:zbQ cs): ∀n,n≤cs.length→zaQ (cs.take n)=zdv cs (zaO (cs.take n)) n∧ ∀k∈zaO (cs.take n),k<n
 |0,_=>by
  rw [List.take_zero]
  exact ⟨rfl,fun k h=>(nomatch h)⟩
 |n+1,h=>by
  obtain ⟨ih,lt⟩:=zcI cs ok n (by omega)
  obtain ⟨c,hc⟩: ∃c,cs[n]? =some c:=⟨cs[n],List.getElem?_eq_getElem (by omega)⟩
  have et:cs.take (n+1)=cs.take n++ [c]:=by rw [List.take_add_one,hc];rfl
  have ln:(cs.take n).length=n:=by rw [List.length_take];omega
  have sn:zaQ (cs.take (n+1))=zcZ n (zaQ (cs.take n)) c:=by rw [et,zdY,ln]
  have gn:zaO (cs.take (n+1))=zaO (cs.take n)++zaO [c]:=by rw [et,zdG]
  rw [sn,gn,zdH,hc]
  have nin:(n:Int)∉zaO (cs.take n):=fun z=>by have:=lt _ z;omega
  have up: ∀k∈zaO (cs.take n),k<((n+1:Nat):Int):=fun k hk=>by have:=lt k hk;omega
  have term:zbs c=true→zaO [c]= []→zcZ n (zaQ (cs.take n)) c=zaQ (cs.take n)++ [(n:Int)]→zcZ n (zaQ (cs.take n)) c=zdv cs (zaO (cs.take n)++zaO [c]) n++(if (zdd (some c) && !decide ((n:Int)∈zaO (cs.take n)++zaO [c]))=true then [(n:Int)] else [])∧ ∀k∈zaO (cs.take n)++zaO [c],k<((n+1:Nat):Int):=fun h1 h2 h3=>by
   rw [h2,List.append_nil,h3,ih]
   refine ⟨?_,up⟩
   rw [if_pos (by show (zbs c && !decide _)=true;rw [h1,decide_eq_false nin];rfl)]
  have other:zbs c=false→zaO [c]= []→zcZ n (zaQ (cs.take n)) c=zaQ (cs.take n)→zcZ n (zaQ (cs.take n)) c=zdv cs (zaO (cs.take n)++zaO [c]) n++(if (zdd (some c) && !decide ((n:Int)∈zaO (cs.take n)++zaO [c]))=true then [(n:Int)] else [])∧ ∀k∈zaO (cs.take n)++zaO [c],k<((n+1:Nat):Int):=fun h1 h2 h3=>by
   rw [h2,List.append_nil,h3,ih]
   refine ⟨?_,up⟩
   rw [if_neg (by show¬(zbs c && _)=true;rw [h1,Bool.false_and];exact Bool.false_ne_true),List.append_nil]
  cases c with
  |plan=>exact term rfl rfl rfl
  |seats=>exact term rfl rfl rfl
  |word=>exact term rfl rfl rfl
  |grant=>exact other rfl rfl rfl
  |back=>exact other rfl rfl rfl
  |undo k=>
   have hk:=ok n k hc
   have nd:=(zdc (cs.take n)).1
   have kb:=(zdc (cs.take n)).2 k hk
   rw [ln] at kb
   refine ⟨?_,fun k' hk'=> ?_⟩
   ·rw [if_neg (by show¬(false && _)=true;rw [Bool.false_and];exact Bool.false_ne_true),List.append_nil]
    show (zaQ (cs.take n)).erase k=_
    rw [nd.erase_eq_filter,ih]
    unfold zdv
    rw [List.filter_map,List.filter_filter]
    congr 1
    refine List.filter_congr fun j _=> ?_
    show ((j:Int) !=k && (zdd cs[j]? && !decide ((j:Int)∈zaO (cs.take n))))=(zdd cs[j]? && !decide ((j:Int)∈zaO (cs.take n)++ [k]))
    have e1:decide ((j:Int)∈zaO (cs.take n)++ [k])=(decide ((j:Int)∈zaO (cs.take n))||decide ((j:Int)=k)):=by
     rw [Bool.eq_iff_iff,decide_eq_true_eq,Bool.or_eq_true,decide_eq_true_eq,decide_eq_true_eq,List.mem_append,List.mem_singleton]
    rw [e1]
    have e2:((j:Int) !=k)= !decide ((j:Int)=k):=by
     rw [bne,Bool.beq_eq_decide_eq]
    rw [e2]
    cases zdd cs[j]? <;>cases decide ((j:Int)∈zaO (cs.take n))<;>cases decide ((j:Int)=k)<;>rfl
   ·rcases List.mem_append.mp hk' with q|q
    ·exact up _ q
    ·have:k'=k:=List.mem_singleton.mp q
     omega
theorem zgQ {cs:List Ch} {gs:List Int} {m:Nat} (hc:cs.length=m): ∀n,m≤n→zdv cs gs n=zdv cs gs m
 |0,h=>by
        have:m=0:=by omega
        rw [this]
 |n+1,h=>by
  by_cases e:m=n+1
  ·rw [e]
  ·rw [zdH,zgQ hc n (by omega),List.getElem?_eq_none (by omega)]
   show _++(if (false && _)=true then _ else _)=_
   rw [Bool.false_and,if_neg Bool.false_ne_true,List.append_nil]
theorem ziE (c:Ch):decide (chW c∈ [[117,110,100,111], [103,114,97,110,116], [98,97,99,107]])= !zbs c:=by
 cases c with
 |undo k=>exact (by decide:decide ([117,110,100,111]∈ [[117,110,100,111], [103,114,97,110,116], [98,97,99,107]])=true)
 |grant a=>exact (by decide:decide ([103,114,97,110,116]∈ [[117,110,100,111], [103,114,97,110,116], [98,97,99,107]])=true)
 |back=>exact (by decide:decide ([98,97,99,107]∈ [[117,110,100,111], [103,114,97,110,116], [98,97,99,107]])=true)
 |plan d nm=>exact (by decide:decide ([112,108,97,110]∈ [[117,110,100,111], [103,114,97,110,116], [98,97,99,107]])=false)
 |seats d n=>exact (by decide:decide ([115,101,97,116,115]∈ [[117,110,100,111], [103,114,97,110,116], [98,97,99,107]])=false)
 |word w d=>
  refine decide_eq_false ?_
  show¬zcD w∈_
  match w with
  |0=>exact (by decide: ¬ [104,111,108,100]∈ [[117,110,100,111], [103,114,97,110,116], [98,97,99,107]])
  |1=>exact (by decide: ¬ [103,111]∈ [[117,110,100,111], [103,114,97,110,116], [98,97,99,107]])
  |2=>exact (by decide: ¬ [115,116,111,112]∈ [[117,110,100,111], [103,114,97,110,116], [98,97,99,107]])
  |n+3=>exact (by decide: ¬ [108,97,115,116]∈ [[117,110,100,111], [103,114,97,110,116], [98,97,99,107]])
theorem ziF {mo:Int} {zs:List En} {j:Nat} {z:En} (h:zs[j]? =some z):zaO (chs ((zs.take (j+1)).filter (enL mo)))=zaO (chs ((zs.take j).filter (enL mo)))++(if z.2.2.1≤mo then zaO [z.2.2.2] else []):=by
 rw [List.take_add_one,h,Option.toList_some,List.filter_append]
 unfold chs
 rw [List.map_append,zdG]
 congr 1
 by_cases e:z.2.2.1≤mo
 ·rw [if_pos e,List.filter_cons_of_pos (show enL mo z=true from decide_eq_true e)]
  rfl
 ·rw [if_neg e,List.filter_cons_of_neg (show¬enL mo z=true from by unfold enL;simpa using e)]
  rfl
theorem zgR (k:Int): ∀ks:List Int,inV (.int k) (ks.map V.int)=decide (k∈ks)
 | []=>rfl
 |x::r=>by
  have ih:=zgR k r
  unfold inV at ih ⊢
  rw [List.map_cons,List.any_cons,ih]
  show ((x==k)||decide (k∈r))=decide (k∈x::r)
  rw [Bool.eq_iff_iff,Bool.or_eq_true,beq_iff_eq,decide_eq_true_eq,decide_eq_true_eq,List.mem_cons]
  exact ⟨fun h=>h.imp Eq.symm id,fun h=>h.imp Eq.symm id⟩
theorem zjx {c:Ch} (h:chW c≠ [117,110,100,111]):zaO [c]= []:=by
 cases c with
 |undo k=>exact absurd rfl h
 |plan=>rfl
 |seats=>rfl
 |word=>rfl
 |grant=>rfl
 |back=>rfl
end L2
namespace L2.So
open PySem PySem.W PyProof.Rows
def Ev (n:Nat) (r:Nat→Int) {α:Type}:KasT α→(α→Prop)→Prop
 | .ret a,Q=>Q a
 | .ask i j k,Q=>(i<n∧j<n∧i≠j)∧Ev n r (k (decide (r i<r j))) Q
theorem Ev.bind {n:Nat} {r:Nat→Int} {α β:Type} {f:α→KasT β} {Q:β→Prop}: ∀{t:KasT α},Ev n r t (fun a=>Ev n r (f a) Q)→Ev n r (t.bind f) Q
 | .ret _,h=>h
 | .ask _ _ k,h=>⟨h.1,Ev.bind (t:=k _) h.2⟩
theorem Ev.mono {n:Nat} {r:Nat→Int} {α:Type} {Q Q':α→Prop} (hq: ∀a,Q a→Q' a): ∀{t:KasT α},Ev n r t Q→Ev n r t Q'
 | .ret a,h=>hq a h
 | .ask _ _ k,h=>⟨h.1,Ev.mono hq (t:=k _) h.2⟩
theorem Ev.wp {n:Nat} {r:Nat→Int} {α:Type} {cmp:Nat→Nat→(Bool→Shared→Prop)→Shared→Prop} {s:Shared} (hc: ∀i j C,i<n→j<n→i≠j→C (decide (r i<r j)) s→cmp i j C s) {Q:α→Prop} {G:α→Shared→Prop} (hq: ∀a,Q a→G a s): ∀{t:KasT α},Ev n r t Q→t.kasWp cmp G s
 | .ret a,h=>hq a h
 | .ask i j k,h=>hc i j _ h.1.1 h.1.2.1 h.1.2.2 (Ev.wp hc hq (t:=k _) h.2)
theorem Ev.yes {n:Nat} {r:Nat→Int} {α:Type} {i j:Nat} {k:Bool→KasT α} {Q:α→Prop} (hi:i<n) (hj:j<n) (h:r i<r j) (e:Ev n r (k true) Q):Ev n r (.ask i j k) Q:=⟨⟨hi,hj,fun z=>by rw [z] at h;omega⟩,by rw [decide_eq_true h];exact e⟩
theorem Ev.no {n:Nat} {r:Nat→Int} {α:Type} {i j:Nat} {k:Bool→KasT α} {Q:α→Prop} (hi:i<n) (hj:j<n) (hn:i≠j) (h: ¬r i<r j) (e:Ev n r (k false) Q):Ev n r (.ask i j k) Q:=⟨⟨hi,hj,hn⟩,by rw [decide_eq_false h];exact e⟩
def fv (r:Nat→Int) (p:Array Nat) (k:Nat):Int:=r (p.getD k 0)
def Ok (n:Nat) (p:Array Nat):Prop:=p.Perm (List.range n).toArray
def Up (r:Nat→Int) (p:Array Nat) (m:Nat):Prop:= ∀i j,i<j→j<m→fv r p i<fv r p j
def Dn (r:Nat→Int) (p:Array Nat) (m:Nat):Prop:= ∀i j,i<j→j<m→fv r p j<fv r p i
theorem Ok.size {n:Nat} {p:Array Nat} (h:Ok n p):p.size=n:=by
 have:=h.size_eq
 simpa using this
theorem Ok.lt {n:Nat} {p:Array Nat} (h:Ok n p) {k:Nat} (hk:k<n):p.getD k 0<n:=by
 have hs:=h.size
 have e:p.getD k 0=p[k]:=by simp [Array.getD,hs,hk]
 have m:p[k]∈p:=Array.getElem_mem _
 rw [e]
 have:=(h.mem_iff).mp m
 simpa using this
theorem Ok.ne {n:Nat} {p:Array Nat} (h:Ok n p) {i j:Nat} (hij:i<j) (hj:j<n):p.getD i 0≠p.getD j 0:=by
 have hs:=h.size
 have e1:p.getD i 0=p.toList[i]'(by simp;omega):=by simp [Array.getD,hs,show i<n by omega]
 have e2:p.getD j 0=p.toList[j]'(by simp;omega):=by simp [Array.getD,hs,hj]
 have nd:p.toList.Nodup:=(h.toList.nodup_iff).mpr (by simpa using List.nodup_range)
 rw [e1,e2]
 exact List.pairwise_iff_getElem.mp nd i j _ _ hij
def Inj (n:Nat) (r:Nat→Int):Prop:= ∀i j,i<n→j<n→i≠j→r i≠r j
theorem Ok.fne {n:Nat} {r:Nat→Int} (hr:Inj n r) {p:Array Nat} (h:Ok n p) {i j:Nat} (hij:i<j) (hj:j<n):fv r p i≠fv r p j:=hr _ _ (h.lt (by omega)) (h.lt hj) (h.ne hij hj)
theorem Up.one {r:Nat→Int} {p:Array Nat} {m:Nat} (h:Up r p m) (h1:1≤m) (hl:fv r p (m - 1)<fv r p m):Up r p (m+1):=fun i j hij hj=>by
 by_cases e:j=m
 ·subst e
  by_cases e2:i=j - 1
  ·rw [e2];exact hl
  ·exact Int.lt_trans (h i (j - 1) (by omega) (by omega)) hl
 ·exact h i j hij (by omega)
theorem Dn.one {r:Nat→Int} {p:Array Nat} {m:Nat} (h:Dn r p m) (h1:1≤m) (hl:fv r p m<fv r p (m - 1)):Dn r p (m+1):=fun i j hij hj=>by
 by_cases e:j=m
 ·subst e
  by_cases e2:i=j - 1
  ·rw [e2];exact hl
  ·exact Int.lt_trans hl (h i (j - 1) (by omega) (by omega))
 ·exact h i j hij (by omega)
section
variable {n:Nat} {r:Nat→Int} (hr:Inj n r)
include hr
theorem asc_ {p:Array Nat} (ho:Ok n p): ∀(f m:Nat),m+f=n→1≤m→Up r p m→Ev n r (kas_asc p f m) (fun x=>1≤x∧m≤x∧x≤n∧Up r p x∧(x=n∨fv r p x<fv r p (x - 1)))
 |0,m,hm,h1,hu=>⟨h1,Nat.le_refl _,by omega,hu, .inl (by omega)⟩
 |f+1,m,hm,h1,hu=>by
  unfold kas_asc
  by_cases c:fv r p m<fv r p (m - 1)
  ·refine Ev.yes (ho.lt (by omega)) (ho.lt (by omega)) c ?_
   rw [if_pos rfl]
   exact ⟨h1,Nat.le_refl _,by omega,hu, .inr c⟩
  ·refine Ev.no (ho.lt (by omega)) (ho.lt (by omega)) (ho.ne (by omega) (by omega)).symm c ?_
   rw [if_neg (by decide)]
   have:=ho.fne hr (i:=m - 1) (j:=m) (by omega) (by omega)
   exact (asc_ ho f (m+1) (by omega) (by omega) (hu.one h1 (by omega))).mono fun x h=>⟨h.1,by omega,h.2.2⟩
theorem desc_ {p:Array Nat} (ho:Ok n p): ∀(f m:Nat),m+f=n→1≤m→Dn r p m→Ev n r (kas_desc f p m 0) (fun x=>x.1=p∧x.2.2=0∧m≤x.2.1∧x.2.1≤n∧Dn r p x.2.1)
 |0,m,hm,h1,hu=>⟨rfl,rfl,Nat.le_refl _,by show m≤n;omega,hu⟩
 |f+1,m,hm,h1,hu=>by
  unfold kas_desc
  by_cases c:fv r p m<fv r p (m - 1)
  ·refine Ev.yes (ho.lt (by omega)) (ho.lt (by omega)) c ?_
   rw [if_pos rfl,if_neg (by decide)]
   exact (desc_ ho f (m+1) (by omega) (by omega) (hu.one h1 c)).mono fun x h=>⟨h.1,h.2.1,by omega,h.2.2.2⟩
  ·have:=ho.fne hr (i:=m - 1) (j:=m) (by omega) (by omega)
   refine Ev.no (ho.lt (by omega)) (ho.lt (by omega)) (ho.ne (by omega) (by omega)).symm c ?_
   rw [if_neg (by decide)]
   refine Ev.yes (ho.lt (by omega)) (ho.lt (by omega)) (show fv r p (m - 1)<fv r p m by omega) ?_
   rw [if_pos rfl]
   exact ⟨rfl,rfl,Nat.le_refl _,by show m≤n;omega,hu⟩
theorem zjy {p:Array Nat} (ho:Ok n p) (i j:Nat):Ok n (kas_rev p i j):=(mirror_perm p i j _).trans ho
theorem zjz {p:Array Nat} (ho:Ok n p) {m:Nat} (hm:m≤n) {k:Nat} (hk:k<m):fv r (kas_rev p 0 m) k=fv r p (m - 1 - k):=by
 have e:=getElem?_mirror_all (xs:=p) (i:=0) (j:=m) (by rw [ho.size];exact hm) k
 rw [if_pos ⟨by omega,hk⟩] at e
 unfold fv kas_rev
 rw [Array.getD_eq_getD_getElem?,Array.getD_eq_getD_getElem?,e,Nat.zero_add]
theorem tail_ {p:Array Nat} (ho:Ok n p) {m:Nat} (h1:1≤m) (hm:m≤n) (hd:Dn r p m):Ev n r (kas_tail3 m n p) (fun x=>1≤x.1∧x.1≤n∧Ok n x.2∧Up r x.2 x.1):=by
 unfold kas_tail3
 refine Ev.bind ((asc_ hr (zjy hr ho 0 m) (n - m) m (by omega) h1 fun i j hij hj=> ?_).mono fun x h=>⟨h.1,h.2.2.1,zjy hr ho 0 m,h.2.2.2.1⟩)
 rw [zjz hr ho hm (by omega),zjz hr ho hm hj]
 exact hd _ _ (by omega) (by omega)
theorem count_ {p:Array Nat} (ho:Ok n p) (h1:1≤n):Ev n r (kas_count n p) (fun x=>1≤x.1∧x.1≤n∧Ok n x.2∧Up r x.2 x.1):=by
 unfold kas_count
 refine Ev.bind ((asc_ hr ho (n - 1) 1 (by omega) (Nat.le_refl _) fun i j hij hj=>by omega).mono fun x h=> ?_)
 obtain ⟨a1,_,a2,hu,hx⟩:=h
 by_cases e:x=n
 ·rw [if_pos (by simp [e])]
  exact ⟨a1,a2,ho,hu⟩
 rw [if_neg (by simp [e])]
 by_cases e1:x>1
 ·rw [if_pos e1]
  refine Ev.yes (ho.lt (by omega)) (ho.lt (by omega)) (hu 0 (x - 1) (by omega) (by omega)) ?_
  rw [if_pos rfl]
  exact ⟨a1,a2,ho,hu⟩
 rw [if_neg e1]
 obtain rfl:x=1:=by omega
 have c:fv r p 1<fv r p 0:=hx.resolve_left e
 unfold kas_descPart
 refine Ev.bind ((desc_ hr ho (n - 2) 2 (by omega) (by omega) fun i j hij hj=> ?_).mono fun y h=> ?_)
 ·obtain rfl:i=0:=by omega
  obtain rfl:j=1:=by omega
  exact c
 ·obtain ⟨y1,y2,y3⟩:=y
  obtain ⟨b1,b2,b3,b4,b5⟩:=h
  dsimp only at b1 b2 b3 b4 b5 ⊢
  subst b1 b2
  rw [if_neg (by decide)]
  exact tail_ hr ho (by omega) b4 b5
theorem place_ {p:Array Nat} (ho:Ok n p) {k:Nat} (hk:k<n) (hu:Up r p k): ∀(f a b:Nat),b - a≤f→a≤b→b≤k→(∀i,i<a→fv r p i<fv r p k)→(∀i,b≤i→i<k→fv r p k<fv r p i)→Ev n r (kas_place p k f a b) (fun l=>l≤k∧(∀i,i<l→fv r p i<fv r p k)∧ ∀i,l≤i→i<k→fv r p k<fv r p i)
 |0,a,b,hf,ab,bk,h1,h2=>by
  obtain rfl:a=b:=by omega
  exact ⟨bk,h1,h2⟩
 |f+1,a,b,hf,ab,bk,h1,h2=>by
  unfold kas_place
  by_cases e:a≥b
  ·rw [if_pos e]
   obtain rfl:a=b:=by omega
   exact ⟨bk,h1,h2⟩
  rw [if_neg e]
  by_cases c:fv r p k<fv r p ((a+b) / 2)
  ·refine Ev.yes (ho.lt hk) (ho.lt (by omega)) c ?_
   rw [if_pos rfl]
   refine place_ ho hk hu f a ((a+b) / 2) (by omega) (by omega) (by omega) h1 fun i hi ik=> ?_
   by_cases z:i=(a+b) / 2
   ·rw [z];exact c
   ·exact Int.lt_trans c (hu _ _ (by omega) ik)
  ·refine Ev.no (ho.lt hk) (ho.lt (by omega)) (ho.ne (by omega) hk).symm c ?_
   rw [if_neg (by decide)]
   have:=ho.fne hr (i:=(a+b) / 2) (j:=k) (by omega) hk
   refine place_ ho hk hu f ((a+b) / 2+1) b (by omega) (by omega) bk (fun i hi=> ?_) h2
   by_cases z:i=(a+b) / 2
   ·rw [z];omega
   ·exact Int.lt_trans (hu i ((a+b) / 2) (by omega) (by omega)) (by omega)
theorem bin_: ∀(f k:Nat) {p:Array Nat},Ok n p→k+f=n→Up r p k→Ev n r (kas_bin f p k) (fun q=>Ok n q∧Up r q n)
 |0,k,p,ho,hk,hu=>⟨ho,by
  obtain rfl:k=n:=by omega
  exact hu⟩
 |f+1,k,p,ho,hk,hu=>by
  unfold kas_bin
  refine Ev.bind ((place_ hr ho (by omega) hu k 0 k (by omega) (by omega) (Nat.le_refl _) (fun i hi=>by omega) fun i h1 h2=>by omega).mono fun l h=> ?_)
  obtain ⟨lk,h1,h2⟩:=h
  have ho':Ok n (bubble p k (k - l)):=(bubble_perm p k _).trans ho
  refine bin_ f (k+1) ho' (by omega) fun i j hij hj=> ?_
  have at_: ∀x,fv r (bubble p k (k - l)) x=if x=l then fv r p k else if l<x∧x≤k then fv r p (x - 1) else fv r p x:=fun x=>by
   have e:=getElem?_bubble (xs:=p) (src:=k) (by rw [ho.size];omega) (k - l) (by omega) x
   rw [show k - (k - l)=l by omega] at e
   unfold fv
   rw [Array.getD_eq_getD_getElem?,e]
   by_cases z1:x=l
   ·rw [if_pos z1,if_pos z1,Array.getD_eq_getD_getElem?]
   ·rw [if_neg z1,if_neg z1]
    by_cases z2:l<x∧x≤k
    ·rw [if_pos z2,if_pos z2,Array.getD_eq_getD_getElem?]
    ·rw [if_neg z2,if_neg z2,Array.getD_eq_getD_getElem?]
  rw [at_,at_]
  by_cases z1:i=l
  ·rw [if_pos z1,if_neg (by omega),if_pos (by omega)]
   exact h2 _ (by omega) (by omega)
  ·rw [if_neg z1]
   by_cases z2:l<i
   ·rw [if_pos (by omega),if_neg (by omega),if_pos (by omega)]
    exact hu _ _ (by omega) (by omega)
   ·rw [if_neg (by omega)]
    by_cases z3:j=l
    ·rw [if_pos z3]
     exact h1 i (by omega)
    ·rw [if_neg z3]
     by_cases z4:l<j
     ·rw [if_pos (by omega)]
      exact hu _ _ (by omega) (by omega)
     ·rw [if_neg (by omega)]
      exact hu _ _ hij (by omega)
theorem sort_ (h1:1≤n):Ev n r (kas_sort n) (fun p=>Ok n p∧Up r p n):=by
 unfold kas_sort
 refine Ev.bind ((count_ hr (Array.Perm.refl _) h1).mono fun x h=> ?_)
 obtain ⟨a1,a2,ho,hu⟩:=h
 by_cases e:x.1<n
 ·rw [if_pos e,Nat.max_eq_left a1]
  exact bin_ hr (n - x.1) x.1 ho (by omega) hu
 ·rw [if_neg e]
  obtain e2:x.1=n:=by omega
  rw [e2] at hu
  exact ⟨ho,hu⟩
end
end L2.So
namespace L2.So
open PySem PySem.W PySem.Calls PyProof.Rows
def Tr (h:Heap) (v:Value) (a b c:Int):Prop:= ∃ad o xs k t1 t2 t3 rest,v= .ref ad∧h.get? ad=some o∧o.cls= .type "tuple"∧o.data= .seq xs k∧xs.toList= .int a t1:: .int b t2:: .int c t3::rest
theorem Tr.keep {h h':Heap} {v:Value} {a b c:Int} (k: ∀b o,h.get? b=some o→h'.get? b=some o):Tr h v a b c→Tr h' v a b c
 |⟨ad,o,xs,n,t1,t2,t3,rest,e1,e2,r⟩=>⟨ad,o,xs,n,t1,t2,t3,rest,e1,k _ _ e2,r⟩
section
variable {prog:Program} {w:World} {A:Around} {E:Value→Shared→Prop} {s:Shared}
theorem go_int {b fin:Bool} {Q:Bool→Shared→Prop} {x y:Int} {t u:Tok} {r:List (Value×Value)} {i:Nat} (h1:x=y→KatLex prog w A b fin Q r (i+1) s) (h2:x≠y→wpAny (model prog w) A (oneLt' (b && i==0) (.int x t) (.int y u)) Q (fun _ _=>False) s):KatLex prog w A b fin Q ((.int x t, .int y u)::r) i s:=by
 refine kat_cons (wpAny_eqBool_int (kat_go (fun e=>kat_yes (h1 (by simpa using e))) fun e=>kat_no (h2 (by simpa using e))))
theorem zl1 {v v':Value} {a b c a' b' c':Int} {Q:Bool→Shared→Prop} {R R':Int} (h:Tr s.heap v a b c) (h':Tr s.heap v' a' b' c') (hc:c≠c') (hR:R<R'↔a<a'∨a=a'∧(b<b'∨b=b'∧c<c')) (q:Q (decide (R<R')) s):wpAny (model prog w) A (keyLt' (tuples' true) v v') Q E s:=by
 obtain ⟨ad,o,xs,n,t1,t2,t3,rest,rfl,e2,_,e4,e5⟩:=h
 obtain ⟨ad',o',xs',n',u1,u2,u3,rest',rfl,f2,_,f4,f5⟩:=h'
 refine kat_lt e2 e4 f2 f4 ?_
 rw [e5,f5]
 refine go_int (fun z1=>go_int (fun z2=>go_int (fun z3=>absurd z3 hc) fun z3=> ?_) fun z2=> ?_) fun z1=> ?_
 ·refine kat_one _ _ (PyProof.Rows.lt_int (show Q (decide (c<c')) s from ?_))
  rw [show (decide (c<c'))=decide (R<R') from decide_eq_decide.mpr (by rw [hR];omega)]
  exact q
 ·refine kat_one _ _ (PyProof.Rows.lt_int (show Q (decide (b<b')) s from ?_))
  rw [show (decide (b<b'))=decide (R<R') from decide_eq_decide.mpr (by rw [hR];omega)]
  exact q
 ·refine oneLt_int ?_
  rw [show (decide (a<a'))=decide (R<R') from decide_eq_decide.mpr (by rw [hR];omega)]
  exact q
end
end L2.So
namespace L2.So
open PySem PySem.W PySem.Calls PyProof.Rows
section
variable {prog:Program} {w:World} {A:Around} {E:Value→Shared→Prop} {s:Shared} {vs:List Value} {r:Nat→Int} {ka kb kc:Nat→Int}
structure Keys (h:Heap) (vs:List Value) (r ka kb kc:Nat→Int):Prop where
 tup: ∀i,i<vs.length→Tr h (vs.getD i Value.none) (ka i) (kb i) (kc i)
 num: ∀i j,i<vs.length→j<vs.length→i≠j→kc i≠kc j
 rank: ∀i j,i<vs.length→j<vs.length→(r i<r j↔ka i<ka j∨ka i=ka j∧(kb i<kb j∨kb i=kb j∧kc i<kc j))
theorem Keys.keep {h h':Heap} (k: ∀b o,h.get? b=some o→h'.get? b=some o) (H:Keys h vs r ka kb kc):Keys h' vs r ka kb kc:=⟨fun i hi=>(H.tup i hi).keep k,H.num,H.rank⟩
theorem Keys.inj {h:Heap} (H:Keys h vs r ka kb kc):Inj vs.length r:=fun i j hi hj hn e=>by
 have:=H.num i j hi hj hn
 have h1:=H.rank i j hi hj
 have h2:=H.rank j i hj hi
 rcases Int.lt_trichotomy (kc i) (kc j) with z|z|z
 ·omega
 ·exact this z
 ·omega
theorem zia {h:Heap} {ka kb kc:Nat→Int}: ∀(vs:List Value) (o:Nat),(∀i,i<vs.length→Tr h (vs.getD i Value.none) (ka (o+i)) (kb (o+i)) (kc (o+i)))→ ∃fs,KatTups h vs fs∧fs.length=vs.length∧ ∀v∈fs,∃x t,v=Value.int x t
 | [],_,_=>⟨[],trivial,rfl,fun _ hv=>nomatch hv⟩
 |v::vs,o,H=>by
  obtain ⟨fs,h1,h2,h3⟩:=zia (ka:=ka) (kb:=kb) (kc:=kc) vs (o+1) fun i hi=>by
   have:=H (i+1) (by rw [List.length_cons];omega)
   rwa [List.getD_cons_succ,show o+(i+1)=o+1+i by omega] at this
  obtain ⟨ad,ob,xs,k,t1,t2,t3,rest,e1,e2,e3,e4,e5⟩:=H 0 (by rw [List.length_cons];omega)
  rw [List.getD_cons_zero] at e1
  subst e1
  refine ⟨.int (ka (o+0)) t1::fs,KatTups.cons e2 e3 e4 ?_ h1,by rw [List.length_cons,List.length_cons,h2],fun v hv=> ?_⟩
  ·rw [←Array.getElem?_toList,e5];rfl
  ·rcases List.mem_cons.mp hv with rfl|hv
   ·exact ⟨_,_,rfl⟩
   ·exact h3 v hv
theorem zhq {a:Addr} {n:Nat} {P:PySem.Fin→Shared→Prop} (ho:s.heap.get? a=some (seqObj "list" vs.toArray n)) (hK:Keys s.heap vs r ka kb kc) (hna: ∀i,i<vs.length→vs.getD i Value.none≠ .ref a) (h2:2≤vs.length) (h64:vs.length<64)
  (h: ∀p:Array Nat,Ok vs.length p→Up r p vs.length→P (.done (.ret .none)) {s with heap:=sortedHeap s.heap a vs (List.toArray (p.toList.map fun i=>vs.getD i Value.none))}):wpAny (model prog w) A (Builtin.«list.sort» ⟨[.ref a], []⟩) P E s:=by
 have ha:a<s.heap.objs.size:=Heap.lt_size ho
 obtain ⟨e1,g1⟩: ∃e1,(s.heap.update a (Obj.mapSeq fun _=>(#[]:Array Value))).get? a=some (seqObj "list" #[] e1):=⟨_,get?_update_seq ho fun _=> #[]⟩
 obtain ⟨h3,hh3⟩: ∃h3,h3=((s.heap.update a (Obj.mapSeq fun _=>(#[]:Array Value))).push (seqObj "tuple" vs.toArray 0)).push (seqObj "list" #[] 0):=⟨_,rfl⟩
 have g3:h3.get? a=some (seqObj "list" #[] e1):=by rw [hh3];exact Heap.get?_push_of_some _ (Heap.get?_push_of_some _ g1)
 have K3:Keys h3 vs r ka kb kc:=⟨fun i hi=>by
  obtain ⟨ad,o,xs,k,t1,t2,t3,rest,q1,q2,q3⟩:=hK.tup i hi
  refine ⟨ad,o,xs,k,t1,t2,t3,rest,q1,?_,q3⟩
  rw [hh3]
  refine Heap.get?_push_of_some _ (Heap.get?_push_of_some _ ?_)
  rw [Heap.get?_update_ne _ _ _ _ fun z=>hna i hi (by rw [q1,z])]
  exact q2,hK.num,hK.rank⟩
 rw [list_sort_plain]
 refine wpAny_bind (listItems_at ho rfl (wpAny_bind (listUpdate_at ho rfl ?_ (by rw [List.size_toArray,sizeLine_eq];omega) (Nat.zero_le _))))
 refine wpAny_bind (seqEpoch_at g1 rfl (wpAny_bind (wpAny_newTuple ?_ (by show vs.length≤_;rw [sizeLine_eq];omega))))
 refine wpAny_bind (wpAny_newList (wpAny_holding ?_) (Nat.zero_le _))
 show wpAny (model prog w) A _ P E {s with heap:=((s.heap.update a (Obj.mapSeq fun _=> #[])).push (seqObj "tuple" vs.toArray 0)).push (seqObj "list" #[] 0)}
 rw [←hh3]
 dsimp only
 have n2: ¬vs.toArray.size<2:=by rw [List.size_toArray];omega
 rw [if_neg n2,if_neg n2]
 obtain ⟨fs,f1,f2,f3⟩:=zia (ka:=ka) (kb:=kb) (kc:=kc) vs 0 (fun i hi=>by rw [Nat.zero_add];exact K3.tup i hi)
 refine wpAny_bind (kat_kind (s:={s with heap:=h3}) (T:= .type "int") f1 (by omega) (fun v hv=> ?_) (by decide) ?_)
 ·obtain ⟨x,t,rfl⟩:=f3 v hv
  exact .now
 refine wpAny_bind (wpAny_mono (kat_run (Q:=fun st' s'=> ∃p:Array Nat,Ok vs.length p∧Up r p vs.length∧arrOf st'=p.map (kas_item (vs.toArray.zip vs.toArray))∧failedOf st'=none∧s'={s with heap:=h3})
  (G:=fun p s'=>Ok vs.length p∧Up r p vs.length∧s'={s with heap:=h3}) rfl h2 h64 (fun p st' s' a1 a2 a3 a4=>⟨p,a4.1,a4.2.1,a2,a3,a4.2.2⟩) (Ev.wp (fun i j C hi hj hn q=> ?_) (fun p q=>⟨q.1,q.2,rfl⟩) (sort_ K3.inj (by omega)))) ?_ fun _ _ e=>e)
 ·exact zl1 (K3.tup i hi) (K3.tup j hj) (K3.num i j hi hj hn) (K3.rank i j hi hj) q
 rintro ⟨⟨⟩,st'⟩ s' ⟨p,a1,a2,a3,a4,rfl⟩
 dsimp only
 have hout:=kat_snds rfl a3
 have hsz:(List.toArray (p.toList.map fun i=>vs.getD i Value.none)).size=vs.length:=by rw [List.size_toArray,List.length_map,Array.length_toList,a1.size]
 rw [hout]
 refine wpAny_bind (seqEpoch_at g3 rfl (wpAny_bind (listUpdate_at g3 rfl ?_ (Nat.zero_le _) (Nat.le_trans (Nat.le_of_eq hsz) (by rw [sizeLine_eq];omega)))))
 rw [a4]
 simp only [bne_self_eq_false,Bool.false_eq_true,if_false]
 refine wpAny_pure ?_
 have:=h p a1 a2
 unfold sortedHeap at this
 rw [←hh3] at this
 exact this
theorem sorted_tups {l:Addr} {Q:Value→Shared→Prop} (hl:s.heap.IsList l vs.toArray) (hK:Keys s.heap vs r ka kb kc) (h2:2≤vs.length) (h64:vs.length<64)
  (h: ∀p:Array Nat,Ok vs.length p→Up r p vs.length→Q (.ref (s.heap.objs.size+1)) {s with heap:=sortedAll s.heap vs (List.toArray (p.toList.map fun i=>vs.getD i Value.none))}):wpAny (model prog w) A (call (.builtin "sorted") [.ref l]) Q E s:=by
 obtain ⟨h2',hh2⟩: ∃h2',h2'=((s.heap.push (seqObj "list" #[] 0)).update s.heap.objs.size (Obj.mapSeq (· ++vs.toArray))).push (seqObj "list" vs.toArray 0):=⟨_,rfl⟩
 have hsz:((s.heap.push (seqObj "list" #[] 0)).update s.heap.objs.size (Obj.mapSeq (· ++vs.toArray))).objs.size=s.heap.objs.size+1:=by rw [Heap.size_update];exact size_push' ..
 have g2:h2'.get? (s.heap.objs.size+1)=some (seqObj "list" vs.toArray 0):=by rw [hh2,←hsz];exact Heap.get?_push_size _ rfl
 have keep: ∀b o,s.heap.get? b=some o→h2'.get? b=some o:=fun b o q=>by
  have hlt:b<s.heap.objs.size:=Heap.lt_size q
  rw [hh2]
  refine Heap.get?_push_of_some _ ?_
  rw [Heap.get?_update_ne _ _ _ _ (Nat.ne_of_lt hlt)]
  exact Heap.get?_push_of_some _ q
 refine Calls.call_function_entry kind_sorted plain_sorted entry_sorted (args_sorted1 _) ?_
 unfold Builtin.«sorted»
 refine wpAny_bind (m:=checkCount "sorted" 1 1 _) (wpAny_pure (wpAny_bind (collect_list hl (wpAny_bind (wpAny_newList ?_ (by rw [sizeLine_eq];omega))) (by rw [sizeLine_eq];omega))))
 show wpAny _ _ _ _ _ {s with heap:=((s.heap.push (seqObj "list" #[] 0)).update s.heap.objs.size (Obj.mapSeq (· ++vs.toArray))).push _}
 rw [hsz,←hh2]
 refine wpAny_bind (wpAny_holding (wpAny_call_entry slot_list_sort ⟨_,g2,rfl⟩ entry_list_sort (zhq (s:={s with heap:=h2'}) g2 (hK.keep keep) (fun i hi z=> ?_) h2 h64 fun p a1 a2=>⟨_,rfl,wpAny_pure ⟨_,rfl,?_⟩⟩) (args_list_sort _)))
 ·obtain ⟨ad,o,xs,k,t1,t2,t3,rest,q1,q2,q3⟩:=hK.tup i hi
  rw [z] at q1
  cases q1
  exact absurd (Heap.lt_size q2) (Nat.not_lt.mpr (Nat.le_succ _))
 ·have:=h p a1 a2
  unfold sortedAll at this
  rw [←hh2] at this
  exact this
end
end L2.So
namespace L2
open PySem PySem.Spec PyProof.Rows
abbrev Tz:=Addr×Int×Int×Int
def rkT (z:Tz):Int:=(z.2.1*4000000+z.2.2.1)*64+z.2.2.2
def zjA (z:Tz):Prop:=(0≤z.2.1∧z.2.1<4000000)∧(0≤z.2.2.1∧z.2.2.1<4000000)∧0≤z.2.2.2∧z.2.2.2<64
theorem zfQ: ∀as:List Addr,zaP (as.map V.ref) (as.map Value.ref)
 | []=> .nil
 |_::r=> .cons rfl (zfQ r)
theorem zd0: ∀{zs:List Tz} {its:List Value},zaP (zs.map fun z=>V.ref z.1) its→its=zs.map fun z=>Value.ref z.1
 | [],_,h=>by cases h;rfl
 |z::zs,_,h=>by
  cases h with
  |cons r t=>
   rw [zd0 t]
   rw [show _=Value.ref z.1 from r]
   rfl
theorem zbN {x:V} {xs:List V} {its:List Value} (h:zaP (x::xs) its): ∃u us,its=u::us∧zaL x u∧zaP xs us:=by
 cases h with
 |cons r t=>exact ⟨_,_,rfl,r,t⟩
theorem zcJ {α:Type} {l:List α} {i:Nat} {d:α} (h:i<l.length):l.getD i d∈l:=by
 rw [List.getD_eq_getElem?_getD,List.getElem?_eq_getElem h]
 exact List.getElem_mem h
theorem zcU {α:Type} (d:α) (l:List α):(List.range l.length).map (fun i=>l.getD i d)=l:=by
 refine List.ext_getElem (by simp) fun i h1 h2=> ?_
 simp [List.getD_eq_getElem?_getD,List.getElem?_eq_getElem h2]
theorem zge {X:Cx}:zc5 X (.builtin "sorted") (fun xs H Q=> ∃(p:Addr) (zs:List Tz),xs= [.ref p]∧H p=some (.lst (zs.map fun z=>V.ref z.1))∧2≤zs.length∧zs.length<64∧(∀z∈zs,zjA z∧ ∃r,H z.1=some (.tup (.int z.2.1:: .int z.2.2.1:: .int z.2.2.2::r)))∧zs.Pairwise (fun x y=>x.2.2.2≠y.2.2.2)∧ ∀ws:List Tz,ws.Perm zs→ws.Pairwise (fun x y=>x.2.1≤y.2.1∧rkT x<rkT y)→New H (.lst (ws.map fun z=>V.ref z.1)) Q):=by
 intro pins s σ H xs us Q I r h
 obtain ⟨p,zs,rfl,hp,h2,h64,hz,hn,q⟩:=h
 obtain ⟨u,rfl,ru⟩:=zcW r
 obtain rfl:u=Value.ref p:=ru
 obtain ⟨hln,its,n,rv,pl⟩:=I.hok _ _ hp
 have ei:its=zs.map fun z=>Value.ref z.1:=by
  have:=zd0 rv
  exact this
 subst ei
 have hl:(zs.map fun z=>Value.ref z.1).length=zs.length:=List.length_map ..
 have gz: ∀i,i<zs.length→(zs.map fun z=>Value.ref z.1).getD i Value.none=Value.ref (zs.getD i (0,0,0,0)).1:=fun i hi=>by
  rw [List.getD_eq_getElem?_getD,List.getElem?_map,List.getD_eq_getElem?_getD,List.getElem?_eq_getElem hi]
  rfl
 have inb: ∀i,i<zs.length→zjA (zs.getD i (0,0,0,0)):=fun i hi=>(hz _ (zcJ hi)).1
 have hK:So.Keys s.heap (zs.map fun z=>Value.ref z.1) (fun i=>((zs.getD i (0,0,0,0)).2.1*4000000+(zs.getD i (0,0,0,0)).2.2.1)*64+(zs.getD i (0,0,0,0)).2.2.2) (fun i=>(zs.getD i (0,0,0,0)).2.1) (fun i=>(zs.getD i (0,0,0,0)).2.2.1) (fun i=>(zs.getD i (0,0,0,0)).2.2.2):=by
  refine ⟨fun i hi=> ?_,fun i j hi hj hij=> ?_,fun i j hi hj=> ?_⟩
  ·rw [hl] at hi
   rw [gz i hi]
   obtain ⟨_,rest,e⟩:=hz _ (zcJ (d:=(0,0,0,0)) hi)
   obtain ⟨_,ts,tv,o,e1,e2,k,e3⟩:=I.hok _ _ e
   obtain ⟨x1,ts1,rfl,⟨t1,rfl⟩,tv1⟩:=zbN tv
   obtain ⟨x2,ts2,rfl,⟨t2,rfl⟩,tv2⟩:=zbN tv1
   obtain ⟨x3,ts3,rfl,⟨t3,rfl⟩,tv3⟩:=zbN tv2
   exact ⟨_,o,_,k,t1,t2,t3,ts3,rfl,e1,e2,e3,rfl⟩
  ·rw [hl] at hi hj
   show (zs.getD i (0,0,0,0)).2.2.2≠(zs.getD j (0,0,0,0)).2.2.2
   rw [List.getD_eq_getElem?_getD,List.getD_eq_getElem?_getD,List.getElem?_eq_getElem hi,List.getElem?_eq_getElem hj]
   rcases Nat.lt_or_gt_of_ne hij with z|z
   ·exact List.pairwise_iff_getElem.mp hn i j hi hj z
   ·exact (List.pairwise_iff_getElem.mp hn j i hj hi z).symm
  ·rw [hl] at hi hj
   have b1:=inb i hi
   have b2:=inb j hj
   unfold zjA at b1 b2
   generalize zs.getD i (0,0,0,0)=u at b1 ⊢
   generalize zs.getD j (0,0,0,0)=v at b2 ⊢
   omega
 refine So.sorted_tups ⟨_,pl,rfl,_,rfl⟩ hK (by rw [hl];exact h2) (by rw [hl];exact h64) fun pm a1 a2=> ?_
 rw [hl] at a1 a2
 obtain ⟨ws,hw⟩: ∃ws,ws=pm.toList.map fun i=>zs.getD i (0,0,0,0):=⟨_,rfl⟩
 have pz:pm.toList.length=zs.length:=by rw [Array.length_toList,a1.size]
 have inp: ∀i∈pm.toList,i<zs.length:=fun i hi=>by
  have:=a1.toList.mem_iff.mp hi
  simpa using this
 have ew:(pm.toList.map fun i=>(zs.map fun z=>Value.ref z.1).getD i Value.none)=ws.map fun z=>Value.ref z.1:=by
  rw [hw,List.map_map]
  exact List.map_congr_left fun i hi=>gz i (inp i hi)
 rw [ew]
 have wp:ws.Perm zs:=by
  have:=(a1.toList.map fun i=>zs.getD i (0,0,0,0))
  rw [←hw] at this
  rw [show (List.range zs.length).toArray.toList=List.range zs.length from rfl,zcU] at this
  exact this
 have wl:ws.length=zs.length:=wp.length_eq
 have wo:ws.Pairwise (fun x y=>x.2.1≤y.2.1∧rkT x<rkT y):=by
  rw [hw,List.pairwise_map,List.pairwise_iff_getElem]
  intro i j hi hj hij
  have e:=a2 i j hij (by omega)
  unfold So.fv at e
  have g: ∀(k:Nat) (hk:k<pm.toList.length),pm.getD k 0=pm.toList[k]:=fun k hk=>by
   have:k<pm.size:=by simpa using hk
   simp [Array.getD,this]
  rw [g i hi,g j hj] at e
  dsimp only at e
  have b1:=inb _ (inp _ (List.getElem_mem hi))
  have b2:=inb _ (inp _ (List.getElem_mem hj))
  unfold zjA at b1 b2
  unfold rkT
  generalize zs.getD pm.toList[i] (0,0,0,0)=u at e b1 ⊢
  generalize zs.getD pm.toList[j] (0,0,0,0)=v at e b2 ⊢
  omega
 obtain ⟨ep,at_⟩:=sortedAll_at s.heap (zs.map fun z=>Value.ref z.1) (List.toArray (ws.map fun z=>Value.ref z.1))
 have hf:H (s.heap.objs.size+1)=none:=I.hok.fresh (Nat.le_succ _)
 refine ⟨.ref (s.heap.objs.size+1),upd H (s.heap.objs.size+1) (.lst (ws.map fun z=>V.ref z.1)),I.laid (t':=s.toks) (fun b u e=>sortedAll_old e) (Nat.le_succ _) ?_,rfl,(q ws wp wo).at hf⟩
 refine ⟨by rw [List.length_map,wl];rw [List.length_map] at hln;exact hln,ws.map fun z=>Value.ref z.1,ep,?_,at_⟩
 have:=zfQ (ws.map (·.1))
 rw [List.map_map,List.map_map] at this
 exact this
end L2
namespace L2
open PySem PySem.Spec PyProof.Rows
def zkq (w:World):List DictEntry→List (Str×V)→Prop
 | [], []=>True
 |e::es,kv::r=>(∃t,e.key= .str kv.1 t)∧e.hash=PyData.keyHash w.params kv.1∧zaL kv.2 e.val∧zkq w es r
 |_,_=>False
theorem zkX (P:Program) {w:World}: ∀{es:List DictEntry} {kvs:List (Str×V)},zkq w es kvs→ ∃vs:List (Key×Value),vs.map (·.1)=kvs.map (fun kv=>Sum.inr kv.1)∧(∀e∈es,∃k,(zbf P w).is k e.key=true∧e.hash=(zbf P w).hash k)∧Pairs (zbf P w) es vs∧ ∀k v,kvs.lookup k=some v→ ∃u,valueAt vs (Sum.inr k)=some u∧zaL v u
 | [], [],_=>⟨[],rfl,(fun _ h=>nomatch h), .nil,(fun _ _ h=>nomatch h)⟩
 |e::es,kv::r,h=>by
  obtain ⟨⟨t,h1⟩,h2,h3,h4⟩:=h
  obtain ⟨vs,a1,a2,a3,a4⟩:=zkX P h4
  have ki:(zbf P w).is (Sum.inr kv.1) e.key=true:=by rw [h1];exact zee (k:=Sum.inr kv.1) ⟨t,rfl⟩
  refine ⟨(Sum.inr kv.1,e.val)::vs,by rw [List.map_cons,List.map_cons,a1],fun x hx=> ?_, .cons ki rfl a3,fun k v hk=> ?_⟩
  ·rcases List.mem_cons.mp hx with rfl|hx
   ·exact ⟨Sum.inr kv.1,ki,h2⟩
   ·exact a2 x hx
  ·obtain ⟨kn,kd⟩:=kv
   rw [List.lookup_cons] at hk
   by_cases z:k=kn
   ·subst z
    rw [beq_self_eq_true] at hk
    cases hk
    exact ⟨e.val,by unfold valueAt;rw [List.find?_cons_of_pos (by simp)];rfl,h3⟩
   ·rw [beq_false_of_ne z] at hk
    obtain ⟨u,b1,b2⟩:=a4 k v hk
    refine ⟨u,?_,b2⟩
    unfold valueAt at b1 ⊢
    rw [List.find?_cons_of_neg (by simp only [decide_eq_true_eq];exact fun q=>z (Sum.inr.inj q).symm)]
    exact b1
 | [],_::_,h=>h.elim
 |_::_, [],h=>h.elim
def tDc (kvs:List (Str×V)) (ty:TE):TE:=fun σ H Q=>ty σ H fun y H1=> ∃k v,y= .str k∧kvs.lookup k=some v∧Q v H1
def zl2 (w:World) (K:PySem.W.Frag) (mg:Str→Option Value) (x:Str) (kvs:List (Str×V)):Prop:= ∃(a:Addr) (es:Array DictEntry) (ep:Nat),mg x=some (.ref a)∧K.lookup a=some ⟨.type "dict",none, .dict es ep, #[]⟩∧zkq w es.toList kvs∧(kvs.map (·.1)).Nodup
theorem zjB {X:Cx} {x:Str} {i:Expr} {ty:TE} {kvs:List (Str×V)} {p pos:Pos} (hg:Gl X x) (hc:zl2 X.w X.K X.mg x kvs) (hi:PE X i ty) (hs:zll i) (hd:(x==("__debug__":Str))=false:=by decide):PE X (.Subscript (.Name x p) i pos) (tDc kvs ty):=by
 obtain ⟨a,es,ep,hm,hl,he,hn⟩:=hc
 intro pins s σ H Q I h
 refine zh1 PySem.F.slot_dict_getitem.lookup hs (zeJ I hg hm (thn (hi pins s σ H _ I h) fun iv s2 ⟨y,H2,I2,ry,k,v,ey,hk,q2⟩=> ?_) hd)
 subst ey
 have ha:=I2.kIn a _ hl
 obtain ⟨vs,a1,a2,a3,a4⟩:=zkX X.prog he
 obtain ⟨u,b1,b2⟩:=a4 k v hk
 have nd:(vs.map (·.1)).Nodup:=by
  rw [a1,show (kvs.map fun kv=>(Sum.inr kv.1:Key))=(kvs.map (·.1)).map Sum.inr by rw [List.map_map];rfl]
  exact hn.map _ fun _ _ h q=>h (Sum.inr.inj q)
 have dd:s2.heap.DictOf (zbf X.prog X.w) a vs:=⟨_,es,ep,ha,⟨rfl,rfl,rfl⟩,rfl,fun e he=>a2 e (Array.mem_toList_iff.mpr he),a3,nd⟩
 exact ⟨dd.typeIs,wpAny_getItem_of (zee (k:=Sum.inr k) ry) dd.mapOf b1 ⟨v,H2,I2.tok _,b2,q2⟩⟩
end L2
namespace L2.So
open PySem PySem.W PySem.Calls PyProof.Rows
section
variable {prog:Program} {w:World} {A:Around} {E:Value→Shared→Prop} {s:Shared} {vs:List Value}
theorem zgS {a:Addr} {n:Nat} {P:PySem.Fin→Shared→Prop} (ho:s.heap.get? a=some (seqObj "list" vs.toArray n)) (h2:vs.length<2) (h:P (.done (.ret .none)) {s with heap:=sortedHeap s.heap a vs vs.toArray}):wpAny (model prog w) A (Builtin.«list.sort» ⟨[.ref a], []⟩) P E s:=by
 obtain ⟨e1,g1⟩: ∃e1,(s.heap.update a (Obj.mapSeq fun _=>(#[]:Array Value))).get? a=some (seqObj "list" #[] e1):=⟨_,get?_update_seq ho fun _=> #[]⟩
 obtain ⟨h3,hh3⟩: ∃h3,h3=((s.heap.update a (Obj.mapSeq fun _=>(#[]:Array Value))).push (seqObj "tuple" vs.toArray 0)).push (seqObj "list" #[] 0):=⟨_,rfl⟩
 have g3:h3.get? a=some (seqObj "list" #[] e1):=by rw [hh3];exact Heap.get?_push_of_some _ (Heap.get?_push_of_some _ g1)
 rw [list_sort_plain]
 refine wpAny_bind (listItems_at ho rfl (wpAny_bind (listUpdate_at ho rfl ?_ (by rw [List.size_toArray,sizeLine_eq];omega) (Nat.zero_le _))))
 refine wpAny_bind (seqEpoch_at g1 rfl (wpAny_bind (wpAny_newTuple ?_ (by show vs.length≤_;rw [sizeLine_eq];omega))))
 refine wpAny_bind (wpAny_newList (wpAny_holding ?_) (Nat.zero_le _))
 show wpAny (model prog w) A _ P E {s with heap:=((s.heap.update a (Obj.mapSeq fun _=> #[])).push (seqObj "tuple" vs.toArray 0)).push (seqObj "list" #[] 0)}
 rw [←hh3]
 dsimp only
 have n2:vs.toArray.size<2:=by rw [List.size_toArray];omega
 rw [if_pos n2,if_pos n2]
 refine wpAny_bind (wpAny_pure ?_)
 rw [StateT.run_pure]
 refine wpAny_bind (wpAny_pure ?_)
 dsimp only
 have eo:(arrOf (SortSt.mk' general' (vs.toArray.zip vs.toArray) #[] 7 none)).map (·.2)=vs.toArray:=by
  show (vs.toArray.zip vs.toArray).map (·.2)=vs.toArray
  rw [Array.map_snd_zip (Nat.le_refl _)]
 rw [eo]
 refine wpAny_bind (seqEpoch_at g3 rfl (wpAny_bind (listUpdate_at g3 rfl ?_ (Nat.zero_le _) (by rw [List.size_toArray,sizeLine_eq];omega))))
 simp only [bne_self_eq_false,Bool.false_eq_true,if_false]
 refine wpAny_pure ?_
 unfold sortedHeap at h
 rw [←hh3] at h
 exact h
theorem sorted_short {l:Addr} {Q:Value→Shared→Prop} (hl:s.heap.IsList l vs.toArray) (h2:vs.length<2) (h:Q (.ref (s.heap.objs.size+1)) {s with heap:=sortedAll s.heap vs vs.toArray}):wpAny (model prog w) A (call (.builtin "sorted") [.ref l]) Q E s:=by
 obtain ⟨h2',hh2⟩: ∃h2',h2'=((s.heap.push (seqObj "list" #[] 0)).update s.heap.objs.size (Obj.mapSeq (· ++vs.toArray))).push (seqObj "list" vs.toArray 0):=⟨_,rfl⟩
 have hsz:((s.heap.push (seqObj "list" #[] 0)).update s.heap.objs.size (Obj.mapSeq (· ++vs.toArray))).objs.size=s.heap.objs.size+1:=by rw [Heap.size_update];exact size_push' ..
 have g2:h2'.get? (s.heap.objs.size+1)=some (seqObj "list" vs.toArray 0):=by rw [hh2,←hsz];exact Heap.get?_push_size _ rfl
 refine Calls.call_function_entry kind_sorted plain_sorted entry_sorted (args_sorted1 _) ?_
 unfold Builtin.«sorted»
 refine wpAny_bind (m:=checkCount "sorted" 1 1 _) (wpAny_pure (wpAny_bind (collect_list hl (wpAny_bind (wpAny_newList ?_ (by rw [sizeLine_eq];omega))) (by rw [sizeLine_eq];omega))))
 show wpAny _ _ _ _ _ {s with heap:=((s.heap.push (seqObj "list" #[] 0)).update s.heap.objs.size (Obj.mapSeq (· ++vs.toArray))).push _}
 rw [hsz,←hh2]
 refine wpAny_bind (wpAny_holding (wpAny_call_entry slot_list_sort ⟨_,g2,rfl⟩ entry_list_sort (zgS (s:={s with heap:=h2'}) g2 h2 ⟨_,rfl,wpAny_pure ⟨_,rfl,?_⟩⟩) (args_list_sort _)))
 unfold sortedAll at h
 rw [←hh2] at h
 exact h
end
end L2.So
namespace L2
open PySem PySem.Spec PyProof.Rows
theorem zgf {X:Cx}:zc5 X (.builtin "sorted") (fun xs H Q=> ∃(p:Addr) (zs:List Tz),xs= [.ref p]∧H p=some (.lst (zs.map fun z=>V.ref z.1))∧zs.length<64∧(∀z∈zs,zjA z∧ ∃r,H z.1=some (.tup (.int z.2.1:: .int z.2.2.1:: .int z.2.2.2::r)))∧zs.Pairwise (fun x y=>x.2.2.2≠y.2.2.2)∧ ∀ws:List Tz,ws.Perm zs→ws.Pairwise (fun x y=>x.2.1≤y.2.1∧rkT x<rkT y)→New H (.lst (ws.map fun z=>V.ref z.1)) Q):=by
 intro pins s σ H xs us Q I r h
 obtain ⟨p,zs,rfl,hp,h64,hz,hn,q⟩:=h
 by_cases h2:2≤zs.length
 ·exact zge pins s σ H _ us Q I r ⟨p,zs,rfl,hp,h2,h64,hz,hn,q⟩
 obtain ⟨u,rfl,ru⟩:=zcW r
 obtain rfl:u=Value.ref p:=ru
 obtain ⟨hln,its,n,rv,pl⟩:=I.hok _ _ hp
 have ei:its=zs.map fun z=>Value.ref z.1:=zd0 rv
 subst ei
 refine So.sorted_short ⟨_,pl,rfl,_,rfl⟩ (by rw [List.length_map];omega) ?_
 obtain ⟨ep,at_⟩:=sortedAll_at s.heap (zs.map fun z=>Value.ref z.1) (List.toArray (zs.map fun z=>Value.ref z.1))
 have hf:H (s.heap.objs.size+1)=none:=I.hok.fresh (Nat.le_succ _)
 have so:zs.Pairwise (fun x y=>x.2.1≤y.2.1∧rkT x<rkT y):=by
  match zs,h2 with
  | [],_=>exact .nil
  | [z],_=>exact List.pairwise_singleton ..
  |_::_::r,h=>exact absurd (by rw [List.length_cons,List.length_cons];omega) h
 exact ⟨.ref (s.heap.objs.size+1),upd H (s.heap.objs.size+1) (.lst (zs.map fun z=>V.ref z.1)),I.laid (t':=s.toks) (fun b u e=>sortedAll_old e) (Nat.le_succ _) ⟨hln,zs.map fun z=>Value.ref z.1,ep,rv,at_⟩,rfl,(q zs (.refl _) so).at hf⟩
end L2
namespace L2
open PySem PySem.Spec PyProof.Rows
section
variable {prog:Program} {w:World} {A:Around} {E:Value→Shared→Prop} {s:Shared}
def lt3 (a b c a' b' c':Int):Bool:=decide (a<a'∨a=a'∧(b<b'∨b=b'∧c<c'))
theorem zjC {p q:Addr} {o o':Obj} {n n':Nat} {a b c a' b' c':Int} {t1 t2 t3 u1 u2 u3:Tok} {P:PySem.Fin→Shared→Prop} (hp:s.heap.get? p=some o) (dp:o.data= .seq #[.int a t1, .int b t2, .int c t3] n) (hq:s.heap.get? q=some o') (tq:s.TypeIs (.ref q) "tuple") (dq:o'.data= .seq #[.int a' u1, .int b' u2, .int c' u3] n') (hc: ¬(a=a'∧b=b'∧c=c'))
  (h:P (.done (.ret (.bool (lt3 a b c a' b' c')))) s):wpAny (model prog w) A (Builtin.«tuple.__lt__» ⟨[.ref p, .ref q], []⟩) P E s:=by
 show wpAny _ _ (isInstance (.ref q) (.type "tuple")>>=_) _ _ s
 refine wpAny_bind (wpAny_isInstance tq isSubtype_tuple_tuple ?_)
 simp only [Bool.not_true,Bool.false_eq_true,if_false]
 refine wpAny_bind (wpAny_tupleItemsOf hp dp (wpAny_bind (wpAny_tupleItemsOf hq dq (wpAny_bind ?_))))
 have gt: ∀(x y:Int),x≠y→(x==y)=false:=fun x y h=>by simp [h]
 show wpAny _ _ (forIn [(Value.int a t1,Value.int a' u1),(Value.int b t2,Value.int b' u2),(Value.int c t3,Value.int c' u3)] (none,()) _) _ _ s
 rw [List.forIn_cons]
 refine wpAny_bind (wpAny_bind (wpAny_eqBool_int ?_))
 by_cases ha:a=a'
 ·subst ha
  rw [beq_self_eq_true,if_neg (by decide)]
  refine wpAny_pure ?_
  dsimp only
  rw [List.forIn_cons]
  refine wpAny_bind (wpAny_bind (wpAny_eqBool_int ?_))
  by_cases hb:b=b'
  ·subst hb
   rw [beq_self_eq_true,if_neg (by decide)]
   refine wpAny_pure ?_
   dsimp only
   rw [List.forIn_cons]
   refine wpAny_bind (wpAny_bind (wpAny_eqBool_int ?_))
   have hcc:c≠c':=fun z=>hc ⟨rfl,rfl,z⟩
   rw [gt _ _ hcc,if_pos (show (!false)=true from rfl)]
   refine wpAny_bind (wpAny_rule (wpAny_bind (PyProof.Rows.lt_int (wpAny_bind (wpAny_pure (wpAny_pure (wpAny_pure (wpAny_pure ?_))))))))
   rw [show decide (c<c')=lt3 a b c a b c' from decide_eq_decide.mpr (by omega)]
   exact h
  ·rw [gt _ _ hb,if_pos (show (!false)=true from rfl)]
   refine wpAny_bind (wpAny_rule (wpAny_bind (PyProof.Rows.lt_int (wpAny_bind (wpAny_pure (wpAny_pure (wpAny_pure (wpAny_pure ?_))))))))
   rw [show decide (b<b')=lt3 a b c a b' c' from decide_eq_decide.mpr (by omega)]
   exact h
 ·rw [gt _ _ ha,if_pos (show (!false)=true from rfl)]
  refine wpAny_bind (wpAny_rule (wpAny_bind (PyProof.Rows.lt_int (wpAny_bind (wpAny_pure (wpAny_pure (wpAny_pure (wpAny_pure ?_))))))))
  rw [show decide (a<a')=lt3 a b c a' b' c' from decide_eq_decide.mpr (by omega)]
  exact h
end
def zmr (K:PySem.W.Frag):R2:=fun x y H Q=> ∃(p q:Addr) (a b c a' b' c':Int),x= .ref p∧y= .ref q∧H p=some (.tup [.int a, .int b, .int c])∧H q=some (.tup [.int a', .int b', .int c'])∧ ¬(a=a'∧b=b'∧c=c')∧Q (.bl (lt3 a b c a' b' c')) H
theorem zlq {X:Cx} {k:Nat} (hr:Room k X.A):OpR X (compareOp .Lt) (zmr X.K):=by
 intro pins s σ H x y v u Q I rx ry h
 obtain ⟨p,q,a,b,c,a',b',c',rfl,rfl,hp,hq,hc,hQ⟩:=h
 obtain rfl:v=Value.ref p:=rx
 obtain rfl:u=Value.ref q:=ry
 obtain ⟨_,ts,tv,o,e1,e2,k1,e3⟩:=I.hok _ _ hp
 obtain ⟨x1,ts1,rfl,⟨t1,rfl⟩,tv1⟩:=zbN tv
 obtain ⟨x2,ts2,rfl,⟨t2,rfl⟩,tv2⟩:=zbN tv1
 obtain ⟨x3,ts3,rfl,⟨t3,rfl⟩,tv3⟩:=zbN tv2
 cases tv3
 obtain ⟨_,us,uv,o',f1,f2,k2,f3⟩:=I.hok _ _ hq
 obtain ⟨y1,us1,rfl,⟨u1,rfl⟩,uv1⟩:=zbN uv
 obtain ⟨y2,us2,rfl,⟨u2,rfl⟩,uv2⟩:=zbN uv1
 obtain ⟨y3,us3,rfl,⟨u3,rfl⟩,uv3⟩:=zbN uv2
 cases uv3
 have tq:s.TypeIs (.ref q) "tuple":=⟨_,f1,f2⟩
 exact wpAny_richCompare_same_room (op:= .Lt) ⟨_,e1,e2⟩ tq F.slot_tuple_lt (wpAny_call_entry F.slot_tuple_lt ⟨_,e1,e2⟩ F.entry_tuple_lt (zjC e1 e3 f1 tq f3 hc ⟨_,rfl,(fun e=>nomatch e),⟨.bl _,H,I,rfl,hQ⟩⟩) (F.args_tuple_lt_2 _ _)) (by have:=hr.units;omega)
end L2
namespace L2
open PySem PySem.Spec PyProof.Rows
theorem zei: ∀{zs:List Int} {us:List Value},zaP (zs.map V.int) us→IntsAre us zs
 | [], [],_=> .nil
 |_::_,_::_, .cons ⟨_,e⟩ t=>by subst e;exact .cons _ _ (zei t)
theorem zej: ∀{us:List Value} {zs:List Int},IntsAre us zs→zaP (zs.map V.int) us
 | [], [],_=> .nil
 |_::_,_::_,h=>by
  cases h with
  |cons a b c=>exact .cons ⟨_,rfl⟩ (zej (by assumption))
theorem zgg {X:Cx}:zc5 X (.builtin "sorted") (fun xs H Q=> ∃(p:Addr) (zs:List Int),xs= [.ref p]∧H p=some (.lst (zs.map V.int))∧zs.length<64∧ ∀ws:List Int,ws.Perm zs→ws.Pairwise (· ≤ ·)→New H (.lst (ws.map V.int)) Q):=by
 intro pins s σ H xs us Q I r h
 obtain ⟨p,zs,rfl,hp,h64,q⟩:=h
 obtain ⟨u,rfl,ru⟩:=zcW r
 obtain rfl:u=Value.ref p:=ru
 obtain ⟨hln,its,n,rv,pl⟩:=I.hok _ _ hp
 have il:its.length=zs.length:=by rw [←rv.length,List.length_map]
 refine sorted_ints ⟨_,pl,rfl,_,rfl⟩ (zei rv) (by rw [il];exact h64) fun out ns' a1 a2 a3=> ?_
 obtain ⟨ep,at_⟩:=sortedAll_at s.heap its out
 have hf:H (s.heap.objs.size+1)=none:=I.hok.fresh (Nat.le_succ _)
 refine ⟨.ref (s.heap.objs.size+1),upd H (s.heap.objs.size+1) (.lst (ns'.map V.int)),I.laid (t':=s.toks) (fun b u e=>sortedAll_old e) (Nat.le_succ _) ?_,rfl,(q ns' a2 a3).at hf⟩
 exact ⟨by rw [List.length_map,a2.length_eq];rw [List.length_map] at hln;exact hln,out.toList,ep,zej a1,by rw [Array.toArray_toList];exact at_⟩
end L2
namespace L2.Sk
open PySem PySem.W PyProof.Rows L2.So
def Ek (n:Nat) (k:Nat→Int) {α:Type}:KasT α→(α→Prop)→Prop
 | .ret a,Q=>Q a
 | .ask i j f,Q=>(i<n∧j<n)∧Ek n k (f (decide (k i<k j))) Q
theorem Ek.bind {n:Nat} {k:Nat→Int} {α β:Type} {f:α→KasT β} {Q:β→Prop}: ∀{t:KasT α},Ek n k t (fun a=>Ek n k (f a) Q)→Ek n k (t.bind f) Q
 | .ret _,h=>h
 | .ask _ _ g,h=>⟨h.1,Ek.bind (t:=g _) h.2⟩
theorem Ek.mono {n:Nat} {k:Nat→Int} {α:Type} {Q Q':α→Prop} (hq: ∀a,Q a→Q' a): ∀{t:KasT α},Ek n k t Q→Ek n k t Q'
 | .ret a,h=>hq a h
 | .ask _ _ g,h=>⟨h.1,Ek.mono hq (t:=g _) h.2⟩
theorem Ek.wp {n:Nat} {k:Nat→Int} {α:Type} {cmp:Nat→Nat→(Bool→Shared→Prop)→Shared→Prop} {s:Shared} (hc: ∀i j C,i<n→j<n→C (decide (k i<k j)) s→cmp i j C s) {Q:α→Prop} {G:α→Shared→Prop} (hq: ∀a,Q a→G a s): ∀{t:KasT α},Ek n k t Q→t.kasWp cmp G s
 | .ret a,h=>hq a h
 | .ask i j g,h=>hc i j _ h.1.1 h.1.2 (Ek.wp hc hq (t:=g _) h.2)
theorem Ek.yes {n:Nat} {k:Nat→Int} {α:Type} {i j:Nat} {f:Bool→KasT α} {Q:α→Prop} (hi:i<n) (hj:j<n) (h:k i<k j) (e:Ek n k (f true) Q):Ek n k (.ask i j f) Q:=⟨⟨hi,hj⟩,by rw [decide_eq_true h];exact e⟩
theorem Ek.no {n:Nat} {k:Nat→Int} {α:Type} {i j:Nat} {f:Bool→KasT α} {Q:α→Prop} (hi:i<n) (hj:j<n) (h: ¬k i<k j) (e:Ek n k (f false) Q):Ek n k (.ask i j f) Q:=⟨⟨hi,hj⟩,by rw [decide_eq_false h];exact e⟩
def rk (k:Nat→Int) (i:Nat):Int:=k i*64+i
abbrev G0 (p:Array Nat) (x:Nat):Nat:=p.getD x 0
def Tl (n m:Nat) (p:Array Nat):Prop:= ∀x,m≤x→x<n→G0 p x=x
theorem Tl.up {n m m':Nat} {p:Array Nat} (h:Tl n m p) (hm:m≤m'):Tl n m' p:=fun x h1 h2=>h x (Nat.le_trans hm h1) h2
theorem Tl.lt {n m:Nat} {p:Array Nat} (ho:Ok n p) (ht:Tl n m p) (hm:m≤n) {x:Nat} (hx:x<m):G0 p x<m:=by
 have h1:G0 p x<n:=ho.lt (show x<n by omega)
 by_cases c:G0 p x<m
 ·exact c
 ·exact absurd (ht (G0 p x) (by omega) h1).symm (ho.ne (i:=x) (j:=G0 p x) (by omega) h1)
theorem zc4 {n:Nat} {p:Array Nat} (ho:Ok n p) {a m:Nat} (hm:m≤n) (x:Nat):G0 (kas_rev p a m) x=if a≤x∧x<m then G0 p (a+m - 1 - x) else G0 p x:=by
 have e:=getElem?_mirror_all (xs:=p) (i:=a) (j:=m) (by rw [ho.size];exact hm) x
 unfold G0 kas_rev
 rw [Array.getD_eq_getD_getElem?,e]
 by_cases c:a≤x∧x<m
 ·rw [if_pos c,if_pos c,Array.getD_eq_getD_getElem?]
 ·rw [if_neg c,if_neg c,Array.getD_eq_getD_getElem?]
theorem zek {n:Nat} {p:Array Nat} (ho:Ok n p) (i j:Nat):Ok n (kas_rev p i j):=(mirror_perm p i j _).trans ho
theorem ze8 {n m a:Nat} {p:Array Nat} (ho:Ok n p) (hm:m≤n) (ht:Tl n m p):Tl n m (kas_rev p a m):=fun x h1 h2=>by
 rw [zc4 ho hm,if_neg (by omega)]
 exact ht x h1 h2
section
variable {n:Nat} {k:Nat→Int} (h64:n≤64)
include h64
theorem asc_ {p:Array Nat} (ho:Ok n p): ∀(f m:Nat),m+f=n→1≤m→Tl n m p→Up (rk k) p m→Ek n k (kas_asc p f m) (fun x=>1≤x∧m≤x∧x≤n∧Up (rk k) p x∧(x=n∨k (G0 p x)<k (G0 p (x - 1))))
 |0,m,hm,h1,_,hu=>⟨h1,Nat.le_refl _,by omega,hu, .inl (by omega)⟩
 |f+1,m,hm,h1,ht,hu=>by
  unfold kas_asc
  by_cases c:k (G0 p m)<k (G0 p (m - 1))
  ·refine Ek.yes (ho.lt (by omega)) (ho.lt (by omega)) c ?_
   rw [if_pos rfl]
   exact ⟨h1,Nat.le_refl _,by omega,hu, .inr c⟩
  ·refine Ek.no (ho.lt (by omega)) (ho.lt (by omega)) c ?_
   rw [if_neg (by decide)]
   have e1:=ht m (Nat.le_refl _) (by omega)
   have e2:=Tl.lt ho ht (by omega) (x:=m - 1) (by omega)
   refine (asc_ ho f (m+1) (by omega) (by omega) (ht.up (by omega)) (hu.one h1 ?_)).mono fun x h=>⟨h.1,by omega,h.2.2⟩
   show rk k (G0 p (m - 1))<rk k (G0 p m)
   unfold rk
   omega
structure Fl (n:Nat) (k:Nat→Int) (b m:Nat) (p:Array Nat):Prop where
 ok:Ok n p
 tl:Tl n m p
 mn:m≤n
 bm:b<m
 b0: ∀i j,i<j→j<b→rk k (G0 p j)<rk k (G0 p i)
 b1: ∀i j,i<b→b≤j→j<m→k (G0 p j)<k (G0 p i)
 b2: ∀i j,b≤i→i<j→j<m→k (G0 p i)=k (G0 p j)∧G0 p i<G0 p j
theorem Fl.turn {b m:Nat} {p:Array Nat} (h:Fl n k b m p):Dn (rk k) (kas_rev p b m) m∧(∀i,i<m→k (G0 p (m - 1))≤k (G0 (kas_rev p b m) i)):=by
 obtain ⟨ok,tl,mn,bm,b0,b1,b2⟩:=h
 have at1: ∀i,i<b→G0 (kas_rev p b m) i=G0 p i:=fun i hi=>by rw [zc4 ok mn,if_neg (by omega)]
 have at2: ∀i,b≤i→i<m→G0 (kas_rev p b m) i=G0 p (b+m - 1 - i):=fun i h1 h2=>by rw [zc4 ok mn,if_pos ⟨h1,h2⟩]
 refine ⟨fun i j hij hj=> ?_,fun i hi=> ?_⟩
 ·show rk k (G0 _ j)<rk k (G0 _ i)
  by_cases c1:j<b
  ·rw [at1 i (by omega),at1 j c1]
   exact b0 i j hij c1
  ·rw [at2 j (by omega) hj]
   by_cases c2:i<b
   ·rw [at1 i c2]
    have q:=b1 i (b+m - 1 - j) c2 (by omega) (by omega)
    have l1:=ok.lt (k:=i) (by omega)
    have l2:=ok.lt (k:=b+m - 1 - j) (by omega)
    unfold rk
    unfold G0 at q ⊢
    omega
   ·rw [at2 i (by omega) (by omega)]
    have q:=b2 (b+m - 1 - j) (b+m - 1 - i) (by omega) (by omega) (by omega)
    unfold rk
    omega
 ·by_cases c:i<b
  ·rw [at1 i c]
   exact Int.le_of_lt (b1 i (m - 1) c (by omega) (by omega))
  ·rw [at2 i (by omega) hi]
   by_cases e:b+m - 1 - i=m - 1
   ·rw [e];exact Int.le_refl _
   ·exact Int.le_of_eq (b2 (b+m - 1 - i) (m - 1) (by omega) (by omega) (by omega)).1.symm
omit h64 in
theorem Fl.flat {b m:Nat} {p:Array Nat} (h:Fl n k b m p) (hb:b+1=m):kas_rev p b m=p:=by
 have e:(m - b) / 2=0:=by omega
 unfold kas_rev mirror
 rw [e]
 rfl
theorem Fl.less {b m:Nat} {p:Array Nat} (h:Fl n k b m p) (hm:m<n) (c:k (G0 p m)<k (G0 p (m - 1))):Fl n k m (m+1) (kas_rev p b m):=by
 have t:=h.turn h64
 refine ⟨zek h.ok _ _,(ze8 h.ok h.mn h.tl).up (by omega),by omega,by omega,fun i j hij hj=>t.1 i j hij hj,fun i j hi h1 h2=> ?_,fun i j h1 h2 h3=>by omega⟩
 obtain rfl:j=m:=by omega
 have:=t.2 i hi
 rw [zc4 h.ok h.mn j,if_neg (by omega)]
 omega
theorem desc_: ∀(f m q:Nat) {p:Array Nat},m+f=n→q+1≤m→Fl n k (m - (q+1)) m p→Ek n k (kas_desc f p m q) (fun x=>x.2.2+1≤x.2.1∧Fl n k (x.2.1 - (x.2.2+1)) x.2.1 x.1)
 |0,m,q,p,hm,hq,h=>⟨hq,h⟩
 |f+1,m,q,p,hm,hq,h=>by
  unfold kas_desc
  have ho:=h.ok
  by_cases c:k (G0 p m)<k (G0 p (m - 1))
  ·refine Ek.yes (ho.lt (by omega)) (ho.lt (by omega)) c ?_
   rw [if_pos rfl]
   have h':=h.less h64 (by omega) c
   by_cases e:q>0
   ·rw [if_pos e]
    exact desc_ f (m+1) 0 (by omega) (by omega) h'
   ·rw [if_neg e]
    obtain rfl:q=0:=by omega
    rw [h.flat (by omega)] at h'
    exact desc_ f (m+1) 0 (by omega) (by omega) h'
  ·refine Ek.no (ho.lt (by omega)) (ho.lt (by omega)) c ?_
   rw [if_neg (by decide)]
   by_cases d:k (G0 p (m - 1))<k (G0 p m)
   ·refine Ek.yes (ho.lt (by omega)) (ho.lt (by omega)) d ?_
    rw [if_pos rfl]
    exact ⟨hq,h⟩
   ·refine Ek.no (ho.lt (by omega)) (ho.lt (by omega)) d ?_
    rw [if_neg (by decide)]
    refine desc_ f (m+1) (q+1) (by omega) (by omega) ?_
    rw [show m+1 - (q+1+1)=m - (q+1) by omega]
    have em:=h.tl m (Nat.le_refl _) (by omega)
    refine ⟨ho,h.tl.up (by omega),by omega,by omega,h.b0,fun i j hi h1 h2=> ?_,fun i j h1 h2 h3=> ?_⟩
    ·by_cases z:j=m
     ·subst z
      have:=h.b1 i (j - 1) hi (by omega) (by omega)
      omega
     ·exact h.b1 i j hi h1 (by omega)
    ·by_cases z:j=m
     ·subst z
      have lt:=Tl.lt ho h.tl h.mn (x:=i) (by omega)
      refine ⟨?_,by omega⟩
      by_cases y:i=j - 1
      ·subst y;omega
      ·have:=(h.b2 i (j - 1) h1 (by omega) (by omega)).1
       omega
     ·exact h.b2 i j h1 h2 (by omega)
theorem tail_ {p:Array Nat} (ho:Ok n p) {m:Nat} (h1:1≤m) (hm:m≤n) (ht:Tl n m p) (hd:Dn (rk k) p m):Ek n k (kas_tail3 m n p) (fun x=>1≤x.1∧x.1≤n∧Ok n x.2∧Tl n x.1 x.2∧Up (rk k) x.2 x.1):=by
 unfold kas_tail3
 refine Ek.bind ((asc_ h64 (zek ho 0 m) (n - m) m (by omega) h1 (ze8 ho hm ht) fun i j hij hj=> ?_).mono fun x h=>⟨h.1,h.2.2.1,zek ho 0 m,(ze8 ho hm ht).up h.2.1,h.2.2.2.1⟩)
 show rk k (G0 _ i)<rk k (G0 _ j)
 rw [zc4 ho hm,zc4 ho hm,if_pos (by omega),if_pos (by omega)]
 exact hd _ _ (by omega) (by omega)
theorem zkY {p:Array Nat} {m:Nat} (hm:m+1≤n) (h:Fl n k m (m+1) p):Ek n k (kas_descPart m n p) (fun x=>1≤x.1∧x.1≤n∧Ok n x.2∧Tl n x.1 x.2∧Up (rk k) x.2 x.1):=by
 unfold kas_descPart
 refine Ek.bind ((desc_ h64 (n - (m+1)) (m+1) 0 (by omega) (by omega) h).mono fun y hy=> ?_)
 obtain ⟨y1,y2,y3⟩:=y
 obtain ⟨b1,b2⟩:=hy
 dsimp only at b1 b2 ⊢
 have t:=b2.turn h64
 by_cases e:y3>0
 ·rw [if_pos e]
  exact tail_ h64 (zek b2.ok _ _) (by omega) b2.mn (ze8 b2.ok b2.mn b2.tl) t.1
 ·rw [if_neg e]
  obtain rfl:y3=0:=by omega
  rw [b2.flat (by omega)] at t
  exact tail_ h64 b2.ok (by omega) b2.mn b2.tl t.1
theorem count_ {p:Array Nat} (ho:Ok n p) (h1:1≤n) (ht:Tl n 0 p):Ek n k (kas_count n p) (fun x=>1≤x.1∧x.1≤n∧Ok n x.2∧Tl n x.1 x.2∧Up (rk k) x.2 x.1):=by
 unfold kas_count
 refine Ek.bind ((asc_ h64 ho (n - 1) 1 (by omega) (Nat.le_refl _) (ht.up (by omega)) fun i j hij hj=>by omega).mono fun x h=> ?_)
 obtain ⟨a1,_,a2,hu,hx⟩:=h
 by_cases e:x=n
 ·rw [if_pos (by simp [e])]
  exact ⟨a1,a2,ho,ht.up (by omega),hu⟩
 rw [if_neg (by simp [e])]
 have c:=hx.resolve_left e
 by_cases e1:x>1
 ·rw [if_pos e1]
  by_cases d:k (G0 p 0)<k (G0 p (x - 1))
  ·refine Ek.yes (ho.lt (by omega)) (ho.lt (by omega)) d ?_
   rw [if_pos rfl]
   exact ⟨a1,a2,ho,ht.up (by omega),hu⟩
  ·refine Ek.no (ho.lt (by omega)) (ho.lt (by omega)) d ?_
   rw [if_neg (by decide)]
   have up: ∀i j,i≤j→j<x→k (G0 p i)≤k (G0 p j):=fun i j hij hj=>by
    by_cases z:i=j
    ·rw [z];exact Int.le_refl _
    ·have q:rk k (G0 p i)<rk k (G0 p j):=hu i j (by omega) hj
     have l1:=ho.lt (k:=i) (by omega)
     have l2:=ho.lt (k:=j) (by omega)
     unfold rk at q
     unfold G0 at q ⊢
     omega
   have eqk: ∀i,i<x→k (G0 p i)=k (G0 p (x - 1)):=fun i hi=>by
    have q1:=up 0 i (by omega) hi
    have q2:=up i (x - 1) (by omega) (by omega)
    omega
   refine zkY h64 (by omega) ⟨zek ho _ _,(ze8 ho (by omega) (ht.up (by omega))).up (by omega),by omega,by omega,fun i j hij hj=> ?_,fun i j hi h1 h2=> ?_,fun i j h1 h2 h3=>by omega⟩
   ·rw [zc4 ho (by omega),zc4 ho (by omega),if_pos (by omega),if_pos (by omega)]
    exact hu _ _ (by omega) (by omega)
   ·obtain rfl:j=x:=by omega
    rw [zc4 ho (by omega) j,zc4 ho (by omega) i,if_neg (by omega),if_pos (by omega),eqk (0+j - 1 - i) (by omega)]
    exact c
 rw [if_neg e1]
 obtain rfl:x=1:=by omega
 refine zkY h64 (by omega) ⟨ho,ht.up (by omega),by omega,by omega,fun i j hij hj=>by omega,fun i j hi h1 h2=> ?_,fun i j h1 h2 h3=>by omega⟩
 obtain rfl:j=1:=by omega
 obtain rfl:i=0:=by omega
 exact c
theorem place_ {p:Array Nat} (ho:Ok n p) {m:Nat} (hm:m<n) (ht:Tl n m p) (hu:Up (rk k) p m): ∀(f a b:Nat),b - a≤f→a≤b→b≤m→(∀i,i<a→fv (rk k) p i<fv (rk k) p m)→(∀i,b≤i→i<m→fv (rk k) p m<fv (rk k) p i)→Ek n k (kas_place p m f a b) (fun l=>l≤m∧(∀i,i<l→fv (rk k) p i<fv (rk k) p m)∧ ∀i,l≤i→i<m→fv (rk k) p m<fv (rk k) p i)
 |0,a,b,hf,ab,bk,h1,h2=>by
  obtain rfl:a=b:=by omega
  exact ⟨bk,h1,h2⟩
 |f+1,a,b,hf,ab,bk,h1,h2=>by
  unfold kas_place
  by_cases e:a≥b
  ·rw [if_pos e]
   obtain rfl:a=b:=by omega
   exact ⟨bk,h1,h2⟩
  rw [if_neg e]
  have em:=ht m (Nat.le_refl _) hm
  have lt:=Tl.lt ho ht (by omega) (x:=(a+b) / 2) (by omega)
  by_cases c:k (G0 p m)<k (G0 p ((a+b) / 2))
  ·refine Ek.yes (ho.lt hm) (ho.lt (by omega)) c ?_
   rw [if_pos rfl]
   have c':fv (rk k) p m<fv (rk k) p ((a+b) / 2):=by
    show rk k (G0 p m)<rk k (G0 p ((a+b) / 2))
    unfold rk
    omega
   refine place_ ho hm ht hu f a ((a+b) / 2) (by omega) (by omega) (by omega) h1 fun i hi ik=> ?_
   by_cases z:i=(a+b) / 2
   ·rw [z];exact c'
   ·exact Int.lt_trans c' (hu _ _ (by omega) ik)
  ·refine Ek.no (ho.lt hm) (ho.lt (by omega)) c ?_
   rw [if_neg (by decide)]
   have c':fv (rk k) p ((a+b) / 2)<fv (rk k) p m:=by
    show rk k (G0 p ((a+b) / 2))<rk k (G0 p m)
    unfold rk
    omega
   refine place_ ho hm ht hu f ((a+b) / 2+1) b (by omega) (by omega) bk (fun i hi=> ?_) h2
   by_cases z:i=(a+b) / 2
   ·rw [z];exact c'
   ·exact Int.lt_trans (hu i ((a+b) / 2) (by omega) (by omega)) c'
theorem bin_: ∀(f m:Nat) {p:Array Nat},Ok n p→m+f=n→Tl n m p→Up (rk k) p m→Ek n k (kas_bin f p m) (fun q=>Ok n q∧Up (rk k) q n)
 |0,m,p,ho,hk,_,hu=>⟨ho,by
  obtain rfl:m=n:=by omega
  exact hu⟩
 |f+1,m,p,ho,hk,ht,hu=>by
  unfold kas_bin
  refine Ek.bind ((place_ h64 ho (by omega) ht hu m 0 m (by omega) (by omega) (Nat.le_refl _) (fun i hi=>by omega) fun i h1 h2=>by omega).mono fun l h=> ?_)
  obtain ⟨lk,h1,h2⟩:=h
  have ho':Ok n (bubble p m (m - l)):=(bubble_perm p m _).trans ho
  have gt: ∀x,G0 (bubble p m (m - l)) x=if x=l then G0 p m else if l<x∧x≤m then G0 p (x - 1) else G0 p x:=fun x=>by
   have e:=getElem?_bubble (xs:=p) (src:=m) (by rw [ho.size];omega) (m - l) (by omega) x
   rw [show m - (m - l)=l by omega] at e
   unfold G0
   rw [Array.getD_eq_getD_getElem?,e]
   by_cases z1:x=l
   ·rw [if_pos z1,if_pos z1,Array.getD_eq_getD_getElem?]
   ·rw [if_neg z1,if_neg z1]
    by_cases z2:l<x∧x≤m
    ·rw [if_pos z2,if_pos z2,Array.getD_eq_getD_getElem?]
    ·rw [if_neg z2,if_neg z2,Array.getD_eq_getD_getElem?]
  refine bin_ f (m+1) ho' (by omega) (fun x a1 a2=> ?_) fun i j hij hj=> ?_
  ·rw [gt,if_neg (by omega),if_neg (by omega)]
   exact ht x (by omega) a2
  show rk k (G0 _ i)<rk k (G0 _ j)
  rw [gt,gt]
  by_cases z1:i=l
  ·rw [if_pos z1,if_neg (by omega),if_pos (by omega)]
   exact h2 _ (by omega) (by omega)
  ·rw [if_neg z1]
   by_cases z2:l<i
   ·rw [if_pos (by omega),if_neg (by omega),if_pos (by omega)]
    exact hu _ _ (by omega) (by omega)
   ·rw [if_neg (by omega)]
    by_cases z3:j=l
    ·rw [if_pos z3]
     exact h1 i (by omega)
    ·rw [if_neg z3]
     by_cases z4:l<j
     ·rw [if_pos (by omega)]
      exact hu _ _ (by omega) (by omega)
     ·rw [if_neg (by omega)]
      exact hu _ _ hij (by omega)
theorem sort_ (h1:1≤n):Ek n k (kas_sort n) (fun p=>Ok n p∧Up (rk k) p n):=by
 unfold kas_sort
 refine Ek.bind ((count_ h64 (Array.Perm.refl _) h1 fun x _ hx=>by simp [G0,Array.getD,hx]).mono fun x h=> ?_)
 obtain ⟨a1,a2,ho,ht,hu⟩:=h
 by_cases e:x.1<n
 ·rw [if_pos e,Nat.max_eq_left a1]
  exact bin_ h64 (n - x.1) x.1 ho (by omega) ht hu
 ·rw [if_neg e]
  obtain e2:x.1=n:=by omega
  rw [e2] at hu
  exact ⟨ho,hu⟩
end
end L2.Sk
namespace L2
open PySem PySem.Spec PyProof.Rows
abbrev ze9 (qual:Str) (params:Arguments) (body:Expr) (scope:Scope) (pm:Value) (c':Addr) (ctv:Value):Obj:=PySem.W.kla_obj "<lambda>" qual params body scope [] pm c' ctv
theorem zib {CX:CXT} {P:Program} {w:World} {K:PySem.W.Frag} {mg:Str→Option Value} {base:Heap} {k:Nat} {f c':Addr} {qual:Str} {params:Arguments} {body:Expr} {scope:Scope} {pm ctv:Value} {N ps:List Str} {A:Around} {outer:List Env} {s:Shared} {H:Hp} {vs:List V} {us:List Value} {Q:VK} {E:XK} {te:TE}
  (hr:Room (k+1) A) (e0:Env0 P w K mg base A outer s H) (ho:s.heap.get? f=some (ze9 qual params body scope pm c' ctv)) (hcd:s.heap.CodeRec (.ref c') qual) (S:FnScope N ps scope) (hl:vs.length=ps.length)
  (hbind:bindArgs (PySem.W.kla_fn "<lambda>" qual params body scope [] pm (.ref c') ctv) ⟨us, []⟩=pure (ps.zip us)) (r:zaP vs us)
  (hb:PE (zdu CX P w K mg base N qual scope f (.ref c') A outer s H E) body te) (q:te (start N vs) H Q):
  codeAny (model P w) A (.call (.ref f) ⟨us, []⟩) (CR CX outer P w H s Q E) s:=by
 have lim:s.heap.NoLimit:=e0.mod.nolimit.keeps fun b o e=>(e0.bs b o e).1
 have hkind: ∀y∈ps.zip us,scope.names.lookup y.1=some .local∨(scope.names.lookup y.1=some .cell∧((cellsFrom (s.heap.objs.size+1) scope.names []).lookup y.1).isSome=true):=fun ⟨n,v⟩ hy=>by
  rcases S.par n (List.of_mem_zip hy).1 with q|q
  ·exact .inl q
  ·exact .inr ⟨q,PySem.W.cellsFrom_some _ _ _ (.inl q)⟩
 refine PySem.W.kla_callFunE hr.depth ho rfl S.co S.gen rfl hcd ?_
 rw [hbind]
 refine wpAny_pure (wpAny_newFunctionEnv_cells S.kind hkind fun env he s1 x=> ?_)
 subst he
 refine ⟨lim.keeps x.toInCall.keep,PySem.W.kla_codeExpr ?_⟩
 have I:Inv (zdu CX P w K mg base N qual scope f (.ref c') A outer s H E) [] (start N vs) H s1:=zfA S hr.hd e0 hl r x
 refine wpAny_mono (hb [] s1 (start N vs) H _ I q) (fun u s' hs=> ?_) fun e s' hs=>hs
 obtain ⟨v,H',J,rv,q'⟩:=hs
 exact ⟨v,H',J.os,J.bare,J.base,J.hok,rv,q'⟩
end L2
namespace L2
open PySem PySem.Spec PyProof.Rows
def zgh (f:Addr) (qual:Str) (params:Arguments) (body:Expr) (scope:Scope) (c':Addr):HO:= .ext fun h=> ∃pm ctv,h.get? f=some (ze9 qual params body scope pm c' ctv)
def zfp (c':Addr) (qual:Str):HO:= .ext fun h=>h.CodeRec (.ref c') qual
def zdW (H:Hp) (P:Addr) (pos:Pos) (qual:Str):Prop:= ∃ps,H P=some (.tbl ps)∧TriplesOk ps.toList∧(codeAmong pos ps.toList=none∨ ∃c',codeAmong pos ps.toList=some (.ref c')∧H c'=some (zfp c' qual))
def zhr (P:Addr) (H H':Hp):Prop:= ∀b o,b≠P→H b=some o→H' b=some o
theorem zao.grew {P:Addr} {H H':Hp} (s:zao H H'):zhr P H H':=fun b o _ h=>s b o h
def BM (mg:Str→Option Value) (base:Heap):Prop:= ∃bm ob,mg "__builtins__"=some (.ref bm)∧bm≠builtinsNs∧base.get? bm=some ob∧ob.cls= .type "module"∧ob.dict=some builtinsNs∧ob.data= .plain
theorem zic {H:Hp} {h:Heap} {P:Program} {w:World} {f c':Addr} {qual:Str} {params:Arguments} {body:Expr} {scope:Scope} {pm ctv:Value} (e:h.get? f=some (ze9 qual params body scope pm c' ctv)):zbp P w H h f (zgh f qual params body scope c'):=
 ⟨⟨pm,ctv,e⟩,⟨_,e⟩,fun h1 h2 ⟨p,c,q⟩ k=>⟨p,c,k _ q⟩⟩
theorem zkr {H:Hp} {h:Heap} {P:Program} {w:World} {c':Addr} {qual:Str} (e:h.CodeRec (.ref c') qual):zbp P w H h c' (zfp c' qual):=by
 refine ⟨e,?_,fun h1 h2 q k=> ?_⟩
 ·obtain ⟨c,oc,vs,tq,e1,e2,_⟩:=e
  cases e1
  exact ⟨oc,e2⟩
 ·obtain ⟨c,oc,vs,tq,e1,e2,e3⟩:=q
  cases e1
  exact ⟨_,oc,vs,tq,rfl,k _ e2,e3⟩
section
variable {X:Cx} {pins:List (Addr×Obj)} {σ:St} {H:Hp} {s:Shared}
theorem Inv.tabbed {P c':Addr} {ps more:Array Value} {qual:Str} {h':Heap} {t':Nat} (I:Inv X pins σ H s) (hP:H P=some (.tbl ps)) (hx:Heap.ExtBut P s.heap h') (hc:s.heap.objs.size≤c') (hr:h'.CodeRec (.ref c') qual) (ht:h'.get? P=some (PySem.W.tabObj (ps++more))):
  Inv X pins σ (upd (upd H P (.tbl (ps++more))) c' (zfp c' qual)) {s with heap:=h',toks:=t'}:=by
 have hn:H c'=none:=I.hok.fresh hc
 have cP:c'≠P:=fun z=>by rw [z,hP] at hn;cases hn
 have at_: ∀b,b≠P→b≠c'→upd (upd H P (.tbl (ps++more))) c' (zfp c' qual) b=H b:=fun b h1 h2=>by rw [zau h2,zau h1]
 have nP: ∀b o,H b=some o→(∀q,o≠ .tbl q)→b≠P:=fun b o e n z=>by
  rw [z,hP] at e
  exact n _ (Option.some.inj e).symm
 have nC: ∀b o,H b=some o→b≠c':=fun b o e z=>by rw [z,hn] at e;cases e
 refine I.un ⟨fun b o e n _ _=>hx b o (fun z=>by rw [z,hP] at n;cases n) e,fun b o e n _ _=>⟨o.slots,hx b o (fun z=>by rw [z,hP] at n;cases n) e⟩,fun b o e n _=> ?_,fun b o e _=> ?_,fun b xs e=> ?_,fun b o u e=> ?_,fun b q e=> ?_⟩ (fun b o e=> ?_)
 ·rw [at_ b (fun z=>by rw [z,hP] at n;cases n) (Nat.ne_of_lt (Nat.lt_of_lt_of_le (Heap.lt_size e) hc))]
  exact n
 ·by_cases z:b=P
  ·rw [z];exact ⟨_,ht⟩
  ·exact ⟨o,hx b o z e⟩
 ·rw [at_ b (nP b _ e fun q=>by intro z;cases z) (nC b _ e)]
  exact e
 ·rw [at_ b (nP b _ e fun q=>by intro z;cases z) (nC b _ e)]
  exact e
 ·by_cases z:b=P
  ·subst z
   rw [hP] at e
   cases e
   exact ⟨more,by rw [zau (Ne.symm cP),zay]⟩
  ·exact ⟨#[],by rw [at_ b z (nC b _ e),e];simp⟩
 ·by_cases z:b=c'
  ·subst z
   rw [zay] at e
   cases e
   exact zkr hr
  ·by_cases y:b=P
   ·subst y
    rw [zau z,zay] at e
    cases e
    exact ht
   ·rw [at_ b y z] at e
    refine (I.hok b o e).stay (fun c v hc' q=>hx c v ?_ q) (fun c q=> ?_) fun c xs q=> ?_
    ·rcases hc' with rfl|hc'
     ·exact y
     ·exact nP c _ hc' fun q=>by intro z;cases z
    ·rw [at_ c (nP c _ q fun q=>by intro z;cases z) (nC c _ q)]
     exact q
    ·rw [at_ c (nP c _ q fun q=>by intro z;cases z) (nC c _ q)]
     exact q
def zms (P:Addr) (pos:Pos) (qual:Str) (params:Arguments) (body:Expr) (scope:Scope):TE:=fun _ H Q=>zdW H P pos qual∧ ∀f c' H',zhr P H H'→zdW H' P pos qual→H f=none→H' f=some (zgh f qual params body scope c')→H' c'=some (zfp c' qual)→Q (.ref f) H'
theorem zjD {params:Arguments} {body:Expr} {scope:Scope} {pos:Pos} {c P:Addr} (hcode:X.env.code= .ref c) (hB:BM X.mg X.base) (C: ∀h:Heap,X.K.In h→PySem.W.CodeHd h c P) (hdef:defaultsOf params X.env=([], []):=by rfl) (hcl:closureFor scope X.env=pure []:=by rfl):
  PE X (.Lambda params body scope pos) (zms P pos (X.env.qual++"<lambda>") params body scope):=by
 intro pins s σ H Q I h
 obtain ⟨⟨ps,hP,tr,am⟩,q⟩:=h
 have hPs:s.heap.get? P=some (PySem.W.tabObj ps):=I.hok P _ hP
 have hns:=I.mod.glob.keeps I.bk
 obtain ⟨bm,ob,b1,b2,b3,b4,b5,b6⟩:=hB
 have b3':=I.bk _ _ b3
 have hgP:mainGlobals≠P:=fun z=>by
  obtain ⟨o,es,ep,e,hd,_⟩:=hns
  rw [z,hPs] at e;cases e;cases hd
 have hbP:bm≠P:=fun z=>by rw [z,hPs] at b3';cases b3';cases b4
 have hbG:bm≠mainGlobals:=fun z=>by
  obtain ⟨o,es,ep,e,hd,_⟩:=hns
  rw [z,e] at b3';cases b3';rw [hd] at b6;cases b6
 have hb:s.heap.BuiltinsAt X.mg P:=⟨bm,ob,b1,b2,hbG,hbP,b3',b4,b5,b6⟩
 refine PySem.W.kla_eval hdef ?_
 rcases am with hn|⟨c',hh,hc'⟩
 ·refine PySem.W.kla_makeFunction hcl I.ok.glob hns hcode (C _ I.kIn) hPs tr hn hgP hb fun c' ctv h' tk hx hge hlt hrec htb=> ?_
  have J:=I.tabbed (t':=tk) hP hx hge hrec htb
  have hf:upd (upd H P (.tbl (ps++ #[rawInt pos.line,rawInt pos.col, .ref c']))) c' (zfp c' (X.env.qual++"<lambda>")) h'.objs.size=none:=J.hok.fresh (Nat.le_refl _)
  have hn':H c'=none:=I.hok.fresh hge
  have cP:c'≠P:=fun z=>by rw [z,hP] at hn';cases hn'
  have J2:=J.laid (t':=tk) (a:=h'.objs.size) (o:=zgh h'.objs.size (X.env.qual++"<lambda>") params body scope c') (h':=h'.push (ze9 (X.env.qual++"<lambda>") params body scope ((X.mg "__name__").getD .none) c' ctv)) (fun b u e=>Heap.get?_push_of_some _ e) (Nat.le_refl _) (zic (Heap.get?_push_size _ rfl))
  have fc:h'.objs.size≠c':=Nat.ne_of_gt hlt
  have fP:h'.objs.size≠P:=Nat.ne_of_gt (Heap.lt_size htb)
  refine ⟨.ref h'.objs.size,_,J2,rfl,q _ c' _ (fun b o n e=> ?_) ⟨ps++ #[rawInt pos.line,rawInt pos.col, .ref c'],?_,?_, .inr ⟨c',?_,?_⟩⟩ ?_ zay ?_⟩
  ·have n1:b≠c':=fun z=>by rw [z,hn'] at e;cases e
   have n2:b≠h'.objs.size:=fun z=>by
    rw [z,I.hok.fresh (Nat.le_trans hge (Nat.le_of_lt hlt))] at e
    cases e
   rw [zau n2,zau n1,zau n]
   exact e
  ·rw [zau (Ne.symm fP),zau (Ne.symm cP),zay]
  ·rw [Array.toList_append]
   exact TriplesOk_snoc _ _ _ _ tr
  ·rw [Array.toList_append]
   exact codeAmong_snoc _ tr hn
  ·rw [zau (Ne.symm fc),zay]
  ·exact I.hok.fresh (Nat.le_trans hge (Nat.le_of_lt hlt))
  ·rw [zau (Ne.symm fc),zay]
 ·refine PySem.W.kla_makeFunctionHit hcl I.ok.glob hns hcode (C _ I.kIn) hPs tr hh hb fun ctv h' tk hk hsz=> ?_
  have J:=I.kept (t':=tk) hk
  have hf:H h'.objs.size=none:=J.hok.fresh (Nat.le_refl _)
  have J2:=J.laid (t':=tk) (a:=h'.objs.size) (o:=zgh h'.objs.size (X.env.qual++"<lambda>") params body scope c') (h':=h'.push (ze9 (X.env.qual++"<lambda>") params body scope ((X.mg "__name__").getD .none) c' ctv)) (fun b u e=>Heap.get?_push_of_some _ e) (Nat.le_refl _) (zic (Heap.get?_push_size _ rfl))
  have sm:=zcB hf (zgh h'.objs.size (X.env.qual++"<lambda>") params body scope c')
  exact ⟨.ref h'.objs.size,_,J2,rfl,q _ c' _ sm.grew ⟨ps,sm _ _ hP,tr, .inr ⟨c',hh,sm _ _ hc'⟩⟩ hf zay (sm _ _ hc')⟩
end
end L2
namespace L2
open PySem PySem.Spec PyProof.Rows
structure Fsh (X:Cx) (pins:List (Addr×Obj)) (H:Hp) (a:Addr):Prop where
 s0:X.s₀.heap.objs.size≤a
 ne:a≠X.env.locals
 cl: ∀x c,X.env.cells.lookup x=some c→c≠a
 pi: ∀p∈X.pn++pins,p.1≠a
 fs:a∉frs X.stack
 hn:H a=none
section
variable {X:Cx} {pins:List (Addr×Obj)} {σ:St} {H:Hp} {s:Shared}
theorem Inv.fsh (I:Inv X pins σ H s) {a:Addr} (h:s.heap.objs.size≤a):Fsh X pins H a:=by
 refine ⟨Nat.le_trans I.sz h,Nat.ne_of_gt (Nat.lt_of_lt_of_le I.lt h),fun x c e z=> ?_,fun p hp z=> ?_,fun hb=> ?_,I.hok.fresh h⟩
 ·obtain ⟨v,o,ho,_⟩:=I.cell x c e
  exact absurd (Heap.lt_size ho) (Nat.not_lt.mpr (z ▸ h))
 ·exact absurd (Heap.lt_size (I.pin p hp).1) (Nat.not_lt.mpr (z ▸ h))
 ·rcases List.mem_cons.mp (I.stkSub a hb) with e|hb
  ·exact absurd I.lt (Nat.not_lt.mpr (e ▸ h))
  ·exact I.nofs h hb
theorem Inv.own {it:Addr} {h':Heap} {t':Nat} (I:Inv X pins σ H s) (F:Fsh X pins H it) (hs:Heap.SameBut it s.heap h'):Inv X pins σ H {s with heap:=h',toks:=t'}:=
 I.turned (fun b o n e=>(hs.2 b n).trans e) F.hn F.ne (.inr F.s0) F.cl F.pi
theorem Inv.adopt {a:Addr} {o:HO} {t':Nat} (I:Inv X pins σ H s) (F:Fsh X pins H a) (new:zbp X.prog X.w (upd H a o) s.heap a o):Inv X pins σ (upd H a o) {s with toks:=t'}:=by
 have ne: ∀b u,H b=some u→b≠a:=fun b u e z=>by rw [z,F.hn] at e;cases e
 refine I.step (h':=s.heap) (g':=s.gens) (d':=s.drawn) (ch:= [a]) (fun b hb=> ?_) (fun b o _ _ _ e _=>e) (fun b o _ _ _ e _=>⟨o.slots,e⟩) (fun b o hb _ n=> ?_) (fun b o _ e=>⟨o,e⟩) (fun b xs e=> ?_) (fun b u xs e=> ?_) (fun b ps e=>⟨#[],?_⟩) (fun m h=>h) (fun b u e=> ?_) I.bare
 ·obtain rfl:b=a:=by simpa using hb
  exact ⟨.inr F.s0,F.ne,F.cl,F.pi⟩
 ·rw [zau (fun z=>hb (by simp [z]))]
  exact n
 ·rw [zau (ne b _ e)];exact e
 ·rw [zau (ne b _ e)];exact e
 ·rw [zau (ne b _ e),e];simp
 ·by_cases z:b=a
  ·subst z
   rw [zay] at e
   cases e
   exact new
  ·rw [zau z] at e
   exact (I.hok b u e).stay (fun _ _ _ q=>q) (fun c q=>by rw [zau (ne c _ q)];exact q) fun c xs q=>by rw [zau (ne c _ q)];exact q
theorem zfa {xs:List V} {us:List Value} (r:zaP xs us) {j:Nat} {u:Value} (e:us[j]? =some u): ∃x,xs[j]? =some x∧zaL x u:=by
 induction r generalizing j with
 |nil=>cases e
 |cons h t ih=>
  cases j with
  |zero=>
   cases e
   exact ⟨_,rfl,h⟩
  |succ j=>exact ih e
theorem zex {xs:List V} {us:List Value} (r:zaP xs us): ∀ix:List Nat,(∀i∈ix,i<xs.length)→zaP (ix.map fun i=>xs.getD i .non) (ix.map fun i=>us.getD i Value.none)
 | [],_=> .nil
 |i::ix,h=>by
  refine .cons ?_ (zex r ix fun j hj=>h j (List.mem_cons_of_mem _ hj))
  have hi:=h i (List.mem_cons_self ..)
  have hu:i<us.length:=by rw [←r.length];exact hi
  obtain ⟨x,e1,e2⟩:=zfa r (List.getElem?_eq_getElem hu)
  dsimp only
  rw [List.getD_eq_getElem?_getD,e1,List.getD_eq_getElem?_getD,List.getElem?_eq_getElem hu]
  exact e2
theorem zfR {ks:List Value} {zs:List Int} (h:IntsAre ks zs) {i:Nat} (hi:i<zs.length): ∃t,ks.getD i Value.none= .int (zs.getD i 0) t:=by
 obtain ⟨t,e⟩:=h.get i _ (List.getElem?_eq_getElem hi)
 exact ⟨t,by rw [List.getD_eq_getElem?_getD,e,List.getD_eq_getElem?_getD,List.getElem?_eq_getElem hi];rfl⟩
def zid (kz:List Int) (ix:List Nat):Prop:=ix.Perm (List.range kz.length)∧ix.Pairwise fun i j=>kz.getD i 0<kz.getD j 0∨kz.getD i 0=kz.getD j 0∧i<j
theorem zgi {k:Nat} {qual x:Str} {params:Arguments} {body:Expr} {scope:Scope} {N:List Str} {te:TE} (hr:Room (k+3) X.A) (S:FnScope N [x] scope)
  (hbind: ∀pm c' ctv u,bindArgs (PySem.W.kla_fn "<lambda>" qual params body scope [] pm (.ref c') ctv) ⟨[u], []⟩=pure [(x,u)])
  (hb: ∀f c' A outer s H,PE (zdu CX0 X.prog X.w X.K X.mg X.base N qual scope f (.ref c') A outer s H E0) body te) {us kws:List Value} {xs ws:List V} {Q:VK}
  (I:Inv X pins σ H s) (r:zaP xs us) (rk:zaP ws kws)
  (h: ∃(p f c':Addr) (vs:List V) (kz:List Int),xs= [.ref p]∧ws= [.ref f]∧H p=some (.lst vs)∧H f=some (zgh f qual params body scope c')∧H c'=some (zfp c' qual)∧kz.length=vs.length∧vs.length<64∧
   (∀(i:Nat) (v:V) (z:Int),vs[i]? =some v→kz[i]? =some z→te (start N [v]) H (fun y H'=>y= .int z∧H'=H))∧ ∀ix,zid kz ix→New H (.lst (ix.map fun i=>vs.getD i .non)) Q):
  wpAny (model X.prog X.w) X.A (call (.builtin "sorted") us [(Str.ofString "key",kws.getD 0 .none)]) (EP X pins σ Q) X.xe s:=by
 obtain ⟨p,f,c',vs,kz,rfl,rfl,hp,hf,hc,hkz,h64,hte,q⟩:=h
 obtain ⟨u,rfl,ru⟩:=zcW r
 obtain rfl:u=Value.ref p:=ru
 obtain ⟨u,rfl,ru⟩:=zcW rk
 obtain rfl:u=Value.ref f:=ru
 obtain ⟨hln,its,n,rv,pl⟩:=I.hok _ _ hp
 have hil:its.length=vs.length:=by rw [←rv.length]
 have hl:s.heap.IsList p its.toArray:=⟨_,pl,rfl,_,rfl⟩
 show wpAny _ _ (call (.builtin "sorted") [.ref p] [(Str.ofString "key", .ref f)]) _ _ _
 refine call_function_entry_kw kind_sorted plain_sorted entry_sorted (ksk_s1 _ _) ?_
 unfold Builtin.«sorted»
 refine wpAny_bind (m:=checkCount "sorted" 1 1 _) (wpAny_pure ?_)
 refine wpAny_bind (collect_list hl ?_ (by rw [sizeLine_eq];omega))
 refine wpAny_bind (wpAny_newList ?_ (by rw [sizeLine_eq];omega))
 have hsz:((s.heap.push (seqObj "list" #[] 0)).update s.heap.objs.size (Obj.mapSeq (· ++its.toArray))).objs.size=s.heap.objs.size+1:=by
  rw [Heap.size_update,size_push']
 have hoL:(((s.heap.push (seqObj "list" #[] 0)).update s.heap.objs.size (Obj.mapSeq (· ++its.toArray))).push (seqObj "list" its.toArray 0)).get? (s.heap.objs.size+1)=some (seqObj "list" its.toArray 0):=by
  rw [←hsz];exact Heap.get?_push_size _ rfl
 have keep: ∀b o,s.heap.get? b=some o→(((s.heap.push (seqObj "list" #[] 0)).update s.heap.objs.size (Obj.mapSeq (· ++its.toArray))).push (seqObj "list" its.toArray 0)).get? b=some o:=fun b o e=>by
  have hlt:b<s.heap.objs.size:=Heap.lt_size e
  refine Heap.get?_push_of_some _ ?_
  rw [Heap.get?_update_ne _ _ _ _ (Nat.ne_of_lt hlt)]
  exact Heap.get?_push_of_some _ e
 show wpAny _ _ _ _ _ {s with heap:=((s.heap.push (seqObj "list" #[] 0)).update s.heap.objs.size (Obj.mapSeq (· ++its.toArray))).push (seqObj "list" its.toArray 0)}
 rw [hsz]
 have Fa:Fsh X pins H (s.heap.objs.size+1):=I.fsh (Nat.le_succ _)
 have hsz2:(((s.heap.push (seqObj "list" #[] 0)).update s.heap.objs.size (Obj.mapSeq (· ++its.toArray))).push (seqObj "list" its.toArray 0)).objs.size=s.heap.objs.size+2:=by rw [size_push',hsz]
 generalize hh1:((s.heap.push (seqObj "list" #[] 0)).update s.heap.objs.size (Obj.mapSeq (· ++its.toArray))).push (seqObj "list" its.toArray 0)=h1 at hoL keep hsz2
 have I1:Inv X pins σ H {s with heap:=h1}:=I.kept (t':=s.toks) keep
 obtain ⟨a,ha⟩: ∃a,a=s.heap.objs.size+1:=⟨_,rfl⟩
 rw [←ha] at hoL Fa ⊢
 refine wpAny_bind (wpAny_holding (wpAny_call_entry_kw slot_list_sort ⟨_,hoL,rfl⟩ entry_list_sort ?body (ksk_l1 _ _)))
 show wpAny (model X.prog X.w) X.A.in1.in1 (Builtin.«list.sort» ⟨[.ref a], [(Str.ofString "key", .ref f)]⟩) _ _ _
 rw [ksk_t1]
 unfold ksk_tree
 refine wpAny_bind (listItems_at hoL rfl ?_)
 refine wpAny_bind (listUpdate_at hoL rfl ?_ (by rw [List.size_toArray,sizeLine_eq];omega) (Nat.zero_le _))
 obtain ⟨e1,ho1⟩: ∃e1,(h1.update a (Obj.mapSeq fun _=>(#[]:Array Value))).get? a=some (seqObj "list" #[] e1):=⟨_,get?_update_seq hoL fun _=> #[]⟩
 have I2:Inv X pins σ H {s with heap:=h1.update a (Obj.mapSeq fun _=>(#[]:Array Value))}:=I1.own (t':=s.toks) Fa (Heap.SameBut.update h1 a _)
 refine wpAny_bind (seqEpoch_at ho1 rfl ?_)
 refine wpAny_bind (wpAny_newTuple ?_ (by show its.length≤_;rw [sizeLine_eq];omega))
 refine wpAny_bind (wpAny_newList ?_ (Nat.zero_le _))
 refine wpAny_holding ?_
 have hsz3:(h1.update a (Obj.mapSeq fun _=>(#[]:Array Value))).objs.size=s.heap.objs.size+2:=by rw [Heap.size_update,hsz2]
 show wpAny _ _ _ _ _ {s with heap:=((h1.update a (Obj.mapSeq fun _=>(#[]:Array Value))).push (seqObj "tuple" its.toArray 0)).push (seqObj "list" #[] 0)}
 have I3:Inv X pins σ H {s with heap:=((h1.update a (Obj.mapSeq fun _=>(#[]:Array Value))).push (seqObj "tuple" its.toArray 0)).push (seqObj "list" #[] 0)}:=I2.kept (t':=s.toks) fun b o e=>Heap.get?_push_of_some _ (Heap.get?_push_of_some _ e)
 have ho3:(((h1.update a (Obj.mapSeq fun _=>(#[]:Array Value))).push (seqObj "tuple" its.toArray 0)).push (seqObj "list" #[] 0)).get? a=some (seqObj "list" #[] e1):=Heap.get?_push_of_some _ (Heap.get?_push_of_some _ ho1)
 have hk3:(((h1.update a (Obj.mapSeq fun _=>(#[]:Array Value))).push (seqObj "tuple" its.toArray 0)).push (seqObj "list" #[] 0)).get? ((h1.update a (Obj.mapSeq fun _=>(#[]:Array Value))).push (seqObj "tuple" its.toArray 0)).objs.size=some (seqObj "list" #[] 0):=Heap.get?_push_size _ rfl
 have hkS:((h1.update a (Obj.mapSeq fun _=>(#[]:Array Value))).push (seqObj "tuple" its.toArray 0)).objs.size=s.heap.objs.size+3:=by rw [size_push',hsz3]
 generalize ((h1.update a (Obj.mapSeq fun _=>(#[]:Array Value))).push (seqObj "tuple" its.toArray 0)).push (seqObj "list" #[] 0)=h3 at I3 ho3 hk3 ⊢
 rw [hkS] at hk3 ⊢
 have Fk:Fsh X pins H (s.heap.objs.size+3):=I.fsh (by omega)
 have kna:s.heap.objs.size+3≠a:=by omega
 generalize s.heap.objs.size+3=kS at hk3 Fk kna ⊢
 clear hsz3 hsz2 hh1 I1 I2 ho1 hoL keep ha
 unfold ksk_rest
 refine wpAny_bind (wpAny_rule ?_)
 first
  |rw [List.forIn_toArray]
  |(rw [←Array.forIn_toList];simp only [List.toList_toArray])
  |rw [←Array.forIn_toList]
 refine wpAny_bind (ksk_fold (fun i s'=> ∃kA e,Inv X pins σ H s'∧s'.heap.get? kS=some (seqObj "list" kA e)∧s'.heap.get? a=some (seqObj "list" #[] e1)∧IntsAre kA.toList (kz.take i)) its 0 _ ⟨#[],0,I3,hk3,ho3,by simpa using IntsAre.nil⟩ ?step ?done)
 case step=>
  rintro j y s' hy ⟨kA,e,J,hk,ho,hi⟩
  simp only [Nat.zero_add] at hi ⊢
  have hj:j<its.length:=(List.getElem?_eq_some_iff.mp hy).1
  obtain ⟨v,hv,rvy⟩:=zfa rv hy
  obtain ⟨z,hz⟩: ∃z,kz[j]? =some z:=⟨_,List.getElem?_eq_getElem (by omega)⟩
  have hsz4:kA.size≤its.length:=by
   have h1:=hi.length
   rw [Array.length_toList,List.length_take] at h1
   omega
  obtain ⟨⟨pm,ctv,hfo⟩,_⟩:=J.hok _ _ hf
  obtain ⟨hcd,_⟩:=J.hok _ _ hc
  have run:=zib (CX:=CX0) (E:=E0) (N:=N) (ps:= [x]) (us:= [y]) (vs:= [v]) (te:=te) (hr.in1).in1 J.env0.in1.in1 hfo hcd S rfl (hbind _ _ _ _) (.cons rvy .nil) (hb _ _ _ _ _ _) (hte j v z hv hz)
  refine wpAny_bind (wpAny_attempt (wpAny_call (codeAny_mono run fun r s'' hq=> ?_)))
  cases r with
  |error e=>exact hq.elim
  |ok fl=>
   cases fl with
   |next=>exact False.elim hq
   |brk=>exact False.elim hq
   |cont=>exact False.elim hq
   |ret u=>
    have J2:=J.after hq
    obtain ⟨v2,H2,os,bare,un,hok,rv2,e2,e3⟩:=hq
    subst e2 e3
    obtain ⟨t2,rfl⟩: ∃t2,u= .int z t2:=rv2
    obtain ⟨v3,H3,J3,_,_,rfl⟩:=J2
    have hk2:=un.keep kS _ hk Fk.hn Fk.fs (by simp)
    have ho2:=un.keep a _ ho Fa.hn Fa.fs (by simp)
    dsimp only
    have s1:=Heap.SameBut.update s''.heap kS (Obj.mapSeq (·.push (.int z t2)))
    obtain ⟨c2,hc2⟩: ∃c2,(s''.heap.update kS (Obj.mapSeq (·.push (.int z t2)))).get? kS=some (seqObj "list" (kA.push (.int z t2)) c2):=⟨_,get?_update_seq hk2 (·.push (.int z t2))⟩
    have ek:kz.take (j+1)=kz.take j++ [z]:=by rw [List.take_add_one,hz];simp
    have ea:(kA.push (Value.int z t2)).toList=kA.toList++ [Value.int z t2]:=by simp
    refine wpAny_bind (listUpdate_at hk2 rfl ?_ (by rw [sizeLine_eq];omega) (Nat.le_trans (Nat.le_of_eq (Array.size_push ..)) (by rw [sizeLine_eq];omega)))
    exact wpAny_pure ⟨rfl,kA.push (.int z t2),c2,J3.own (t':=s''.toks) Fk s1,hc2,(s1.2 a kna.symm).trans ho2,by rw [ea,ek];exact ksk_snoc hi⟩
 case done=>
  rintro s' ⟨kA,e,J,hk,ho,hi⟩
  have hi':IntsAre kA.toList kz:=by
   have e3:kz.take (0+its.length)=kz:=List.take_of_length_le (by omega)
   rw [e3] at hi
   exact hi
  have hsz4:kA.size=its.length:=by
   have h1:=hi'.length
   rw [Array.length_toList] at h1
   omega
  refine wpAny_bind (listItems_at hk rfl ?_)
  have tail: ∀(st:SortSt) (ix:List Nat),zid kz ix→(arrOf st).map (·.2)=List.toArray (ix.map fun i=>its.getD i Value.none)→failedOf st=none→
    wpAny (model X.prog X.w) X.A.in1.in1 (ksk_tail a false e1 (.ref kS) st) (fun fin s''=> ∃v,fin= .done (.ret v)∧wpAny (model X.prog X.w) X.A.in1 (PySem.ret (.ref a)) (fun fin s'=> ∃v,fin= .done (.ret v)∧EP X pins σ Q v s') X.xe s'') X.xe s':=fun st ix hix har hfl=>by
   have hixl:ix.length=its.length:=by rw [hix.1.length_eq,List.length_range];omega
   have hout:((arrOf st).map (·.2)).size=its.length:=by rw [har,List.size_toArray,List.length_map,hixl]
   have s1:=Heap.SameBut.update s'.heap kS (Obj.mapSeq fun _=>(#[]:Array Value))
   have na1:(s'.heap.update kS (Obj.mapSeq fun _=>(#[]:Array Value))).get? a=some (seqObj "list" #[] e1):=(s1.2 a kna.symm).trans ho
   have s2:=Heap.SameBut.update (s'.heap.update kS (Obj.mapSeq fun _=>(#[]:Array Value))) a (Obj.mapSeq fun _=>(arrOf st).map (·.2))
   obtain ⟨c2,hc2⟩: ∃c2,((s'.heap.update kS (Obj.mapSeq fun _=>(#[]:Array Value))).update a (Obj.mapSeq fun _=>(arrOf st).map (·.2))).get? a=some (seqObj "list" ((arrOf st).map (·.2)) c2):=⟨_,get?_update_seq na1 fun _=>(arrOf st).map (·.2)⟩
   unfold ksk_tail
   dsimp only
   refine wpAny_bind (listUpdate_at hk rfl ?_ (by rw [hsz4,sizeLine_eq];omega) (Nat.zero_le _))
   refine wpAny_bind (wpAny_letGo ?_)
   refine wpAny_bind (seqEpoch_at na1 rfl ?_)
   refine wpAny_bind (listUpdate_at na1 rfl ?_ (Nat.zero_le _) (Nat.le_trans (Nat.le_of_eq hout) (by rw [sizeLine_eq];omega)))
   rw [hfl]
   simp only [bne_self_eq_false,Bool.false_eq_true,if_false]
   refine wpAny_pure ⟨_,rfl,wpAny_pure ⟨_,rfl,?_⟩⟩
   have J1:=J.own (t':=s'.toks) Fk s1
   have J2:=J1.own (t':=s'.toks) Fa s2
   have hc2':=hc2
   rw [show seqObj "list" ((arrOf st).map (·.2)) c2=seqObj "list" (List.toArray (ix.map fun i=>its.getD i Value.none)) c2 by rw [har]] at hc2'
   have inr: ∀i∈ix,i<vs.length:=fun i hi=>by
    have:=List.mem_range.mp (hix.1.mem_iff.mp hi)
    omega
   have new:zbp X.prog X.w (upd H a (.lst (ix.map fun i=>vs.getD i .non))) ((s'.heap.update kS (Obj.mapSeq fun _=>(#[]:Array Value))).update a (Obj.mapSeq fun _=>(arrOf st).map (·.2))) a (.lst (ix.map fun i=>vs.getD i .non)):=
    ⟨by rw [List.length_map,hixl,hil];exact hln,_,c2,zex rv ix inr,hc2'⟩
   exact ⟨.ref a,_,J2.adopt (t':=s'.toks) Fa new,rfl,(q ix hix).at Fa.hn⟩
  unfold ksk_end
  (try dsimp only)
  rw [if_neg (by decide)]
  by_cases h2:its.toArray.size<2
  ·rw [if_pos h2,if_pos h2]
   refine wpAny_bind (wpAny_pure ?_)
   rw [StateT.run_pure]
   refine wpAny_bind (wpAny_pure ?_)
   dsimp only
   rw [List.size_toArray] at h2
   refine tail (SortSt.mk' general' (kA.zip its.toArray) #[] 7 none) (List.range its.length) ⟨by rw [hkz,hil],?_⟩ ?_ rfl
   ·rw [List.pairwise_iff_getElem]
    intro i j hi hj hij
    rw [List.length_range] at hj
    omega
   ·show (kA.zip its.toArray).map (·.2)=_
    rw [Array.map_snd_zip (by rw [List.size_toArray];omega),zcU]
  ·rw [if_neg h2,if_neg h2]
   rw [List.size_toArray] at h2
   rw [ksk_kind hi' (by rw [hsz4];omega)]
   refine wpAny_bind (wpAny_pure ?_)
   have zk:kA.zip its.toArray=kA.toList.toArray.zip its.toArray:=by rw [Array.toArray_toList]
   rw [if_neg (by decide),zk]
   refine wpAny_bind (wpAny_mono (PySem.W.kat_run (ks:=kA.toList) (vs:=its) (Q:=fun st' s2=>s2=s'∧ ∃pm:Array Nat,So.Ok its.length pm∧So.Up (Sk.rk fun i=>kz.getD i 0) pm its.length∧arrOf st'=pm.map (PySem.W.kas_item (kA.toList.toArray.zip its.toArray))∧failedOf st'=none)
    (G:=fun pm s2=>s2=s'∧So.Ok its.length pm∧So.Up (Sk.rk fun i=>kz.getD i 0) pm its.length) (by rw [Array.length_toList,hsz4]) (by omega) (by omega) (fun pm st' s2 a1 a2 a3 a4=>⟨a4.1,pm,a4.2.1,a4.2.2,a2,a3⟩)
    (Sk.Ek.wp (k:=fun i=>kz.getD i 0) (n:=its.length) (fun i j C hi hj c=> ?_) (fun pm h=>⟨rfl,h⟩) (Sk.sort_ (by omega) (by omega)))) ?_ fun _ _ e=>e)
   ·obtain ⟨t1,E1⟩:=zfR hi' (i:=i) (by omega)
    obtain ⟨t2,E2⟩:=zfR hi' (i:=j) (by omega)
    unfold PySem.W.kas_ask
    rw [E1,E2,keyLt'_oneType]
    exact oneLt_int c
   rintro ⟨⟨⟩,st'⟩ s2 ⟨rfl,pm,a1,a2,a3,a4⟩
   dsimp only
   refine tail st' pm.toList ⟨?_,?_⟩ ?_ a4
   ·have:=a1.toList
    rw [hkz,←hil]
    exact this
   ·rw [List.pairwise_iff_getElem]
    intro i j hi hj hij
    have e:=a2 i j hij (by rw [Array.length_toList,a1.size] at hj;exact hj)
    unfold So.fv Sk.rk at e
    have g: ∀(k:Nat) (hk:k<pm.toList.length),pm.getD k 0=pm.toList[k]:=fun k hk=>by
     have:k<pm.size:=by simpa using hk
     simp [Array.getD,this]
    rw [g i hi,g j hj] at e
    dsimp only at e
    have l1:pm.toList[i]<its.length:=by
     have:=a1.toList.mem_iff.mp (List.getElem_mem hi)
     simpa using this
    have l2:pm.toList[j]<its.length:=by
     have:=a1.toList.mem_iff.mp (List.getElem_mem hj)
     simpa using this
    omega
   ·exact PySem.W.kat_snds (ks:=kA.toList) (vs:=its) (by rw [Array.length_toList,hsz4]) a3
end
end L2
namespace L2
open PySem PySem.Spec PyProof.Rows
section
variable {X:Cx}
def zbe (P:Addr) (lpos:Pos) (qual:Str) (N:List Str) (te:TE) (t:TA):TE:=fun σ H Q=>t σ H fun xs H1=>zdW H1 P lpos qual∧ ∀H2,zhr P H1 H2→zdW H2 P lpos qual→ ∃(p:Addr) (vs:List V) (kz:List Int),xs= [.ref p]∧H2 p=some (.lst vs)∧kz.length=vs.length∧vs.length<64∧
 (∀(i:Nat) (v:V) (z:Int),vs[i]? =some v→kz[i]? =some z→te (start N [v]) H2 (fun y H'=>y= .int z∧H'=H2))∧ ∀ix,zid kz ix→New H2 (.lst (ix.map fun i=>vs.getD i .non)) Q
theorem zjE {k:Nat} {c P:Addr} {x:Str} {e:Expr} {t:TA} {params:Arguments} {body:Expr} {scope:Scope} {p pos lpos kpos:Pos} {N:List Str} {te:TE} (hr:Room (k+3) X.A) (hg:Gl X "sorted") (hm:X.mg "sorted"=none) (ha:PA X [e] t)
  (hcode:X.env.code= .ref c) (hB:BM X.mg X.base) (C: ∀h:Heap,X.K.In h→PySem.W.CodeHd h c P) (S:FnScope N [x] scope)
  (hbind: ∀pm c' ctv u,bindArgs (PySem.W.kla_fn "<lambda>" (X.env.qual++"<lambda>") params body scope [] pm (.ref c') ctv) ⟨[u], []⟩=pure [(x,u)])
  (hb: ∀f c' A outer s H,PE (zdu CX0 X.prog X.w X.K X.mg X.base N (X.env.qual++"<lambda>") scope f (.ref c') A outer s H E0) body te)
  (hdef:defaultsOf params X.env=([], []):=by rfl) (hcl:closureFor scope X.env=pure []:=by rfl)
  (he:backTo pos (starEach [e] X.env)=(false,eval e X.env)::backTo pos (starEach [] X.env):=by rfl) (hpl:(backTo pos (starEach [e] X.env)).any (·.1)=false:=by rfl):
  PE X (.Call (.Name "sorted" p) [e] [⟨some "key", .Lambda params body scope lpos,kpos⟩] pos) (zbe P lpos (X.env.qual++"<lambda>") N te t):=by
 intro pins s σ H Q I h
 refine wpAny_Call_Name_kw (zdi I hg hm rfl ?_ (by decide) (by decide))
 refine callWith_kw (thn (ha pos pins s σ H _ I h) fun us s1 ⟨xs,H1,I1,r1,tb,q1⟩=> ?_) he hpl rfl rfl
 refine thn (zhV (nm:=some "key") (kpos:=kpos) (zjD (pos:=lpos) (body:=body) hcode hB C hdef hcl) zja pos pins s1 σ H1 (fun ws H2=> ∃f c',ws= [.ref f]∧zhr P H1 H2∧zdW H2 P lpos (X.env.qual++"<lambda>")∧H2 f=some (zgh f (X.env.qual++"<lambda>") params body scope c')∧H2 c'=some (zfp c' (X.env.qual++"<lambda>"))) I1 ⟨tb,fun f c' H2 g tb2 _ e1 e2=>⟨f,c',rfl,g,tb2,e1,e2⟩⟩) fun kws s2 ⟨ws,H2,I2,rk,f,c',ew,g,tb2,e1,e2⟩=> ?_
 subst ew
 obtain ⟨pl,vs,kz,rfl,hp,hkz,h64,hte,q⟩:=q1 H2 g tb2
 obtain ⟨u,rfl,ru⟩:=zcW rk
 exact zgi hr S hbind hb I2 r1 (.cons ru .nil) ⟨pl,f,c',vs,kz,rfl,rfl,hp,e1,e2,hkz,h64,hte,q⟩
end
structure TabK (K:PySem.W.Frag) (mg:Str→Option Value) (x:Str) (c P:Addr):Prop where
 fn: ∃f oc od fd osl,mg x=some (.ref f)∧K.lookup f=some ⟨oc,od, .func fd,osl⟩∧fd.code= .ref c
 cd: ∃od vs osl file tf flags tg inF text tt,K.lookup c=some ⟨.type "code",od, .fields vs,osl⟩∧vs[11]? =some (.ref P)∧vs.getD 11 .none= .ref P∧vs.getD 18 .none= .str file tf∧vs.getD 7 .none= .int flags tg∧vs.getD 9 .none= .bool inF∧vs.getD 10 .none= .int text tt
 ne:c≠P
 no:K.lookup P=none
theorem TabK.hd {K:PySem.W.Frag} {mg:Str→Option Value} {x:Str} {c P:Addr} {h:Heap} (t:TabK K mg x c P) (X:K.In h):PySem.W.CodeHd h c P:=by
 obtain ⟨od,vs,osl,file,tf,flags,tg,inF,text,tt,e1,e2,e3,e4,e5,e6,e7⟩:=t.cd
 exact ⟨_,vs,file,tf,flags,tg,inF,text,tt,X _ _ e1,rfl,rfl,e2,e3,e4,e5,e6,e7,t.ne⟩
end L2
namespace L2
open PySem PySem.Spec PyProof.Rows
def Itv (d:Addr) (o:Obj) (kvs:List (Key×V)):It:=⟨fun i H=>i<kvs.length∧H d=some (.frz o (.dK kvs)),fun i H x H'=>H'=H∧ ∃kv,kvs[i]? =some kv∧x=kv.2,fun i H=>kvs.length≤i∧H d=some (.frz o (.dK kvs))⟩
theorem zhs {d:Addr} {o:Obj} {kvs:List (Key×V)} {H1:Hp} (h:H1 d=some (.frz o (.dK kvs))):Lists (Itv d o kvs) H1 (kvs.map (·.2)) where
 go:=fun i H2 s hi=>⟨by rw [List.length_map] at hi;exact hi,s _ _ h⟩
 yld:=fun i H2 x H3 s hy _=>by
  obtain ⟨rfl,kv,e,rfl⟩:=hy
  exact ⟨rfl,by rw [List.getElem?_map,e];rfl⟩
 stop:=fun H2 s=>⟨by rw [List.length_map];exact Nat.le_refl _,s _ _ h⟩
theorem ziG {P:Program} {w:World} {K:PySem.W.Frag} {tg:Expr} {d:Addr} {o:Obj} {kvs:List (Key×V)} {vs:List (Key×Value)} {ep:Nat} (rel:KV kvs vs) (hat: ∀h:Heap,h.get? d=some o→h.DictAt (zbf P w) d vs ep) (it:Addr):Turn P w K tg (Itv d o kvs) [it] it (fun i h=>h.IsValIter it d i vs.length ep) where
 mem:=by simp
 obj:=fun i h st b hb=>by
  have e:b=it:=by simpa using hb
  subst e
  obtain ⟨o,e,c,d⟩:=st
  exact ⟨o,e,fun v z=>by rw [d] at z;cases z⟩
 keep:=fun i h h' st k=>st.at fun o e=>k it (by simp) o e
 item:=by
  intro X hP hw hK hc i pins s σ H E I hf st hg
  subst hP hw hK
  obtain ⟨hi,hd⟩:=hg
  have hl:kvs.length=vs.length:=rel.length
  obtain ⟨kv,ekv⟩: ∃kv,kvs[i]? =some kv:=⟨_,List.getElem?_eq_getElem hi⟩
  obtain ⟨⟨k,u⟩,ev⟩: ∃v,vs[i]? =some v:=⟨_,List.getElem?_eq_getElem (by omega)⟩
  obtain ⟨r1,r2⟩:=zh9 rel ekv ev
  obtain ⟨f0,f1,f2,f3,f4,f5⟩:=hf it (by simp)
  refine wpAny_pyNext_values_item st (hat _ (I.hok _ _ hd).1) ev fun h' st' sb=> ?_
  have I1:Inv X pins σ H {s with heap:=h'}:=I.turned (t':=s.toks) (fun b o hb e=>(sb.2 b hb).trans e) f0 f1 f3 f4 f5
  obtain ⟨o,e,c,d⟩:=id st'
  exact ⟨u,rfl,zi3 (s:={s with heap:=h'}) e c d (by decide) ⟨kv.2,H,I1,r2,⟨rfl,kv,ekv,rfl⟩,st',fun b hb=>(hf b hb).1⟩⟩
 done:=by
  intro X hP hw hK hc i pins s σ H E I hf st hg
  subst hP hw hK
  obtain ⟨hi,hd⟩:=hg
  have hl:kvs.length=vs.length:=rel.length
  obtain ⟨f0,f1,f2,f3,f4,f5⟩:=hf it (by simp)
  exact wpAny_pyNext_values_end (I.ok.hd hc) st (hat _ (I.hok _ _ hd).1) (List.getElem?_eq_none (by omega)) fun h' eb=>⟨rfl,I.turned (t':=s.toks) (fun b o hb e=>eb b o hb e) f0 f1 f3 f4 f5⟩
 self:=fun _ _ _ _ _ st h=>wpAny_pyIter_valiter st h
def zbK (td:TE):TI:=fun σ H R=>td σ H fun x H1=> ∃d kvs,x= .ref d∧H1 d=some (.dK kvs)∧ ∀o H2,(∀b u,b≠d→H1 b=some u→H2 b=some u)→(∀b,b≠d→H2 b=H1 b)→H2 d=some (.frz o (.dK kvs))→R (Itv d o kvs) H2
theorem zks {X:Cx} {tg o:Expr} {td:TE} {ap cp:Pos} (ho:PE X o td) (hb:attributeBase o "values" X.env (eval o X.env)=eval o X.env) (hline:(ap.endLine==cp.line)=true):
  PI X tg (.Call (.Attribute o "values" ap) [] [] cp) (zbK td):=by
 intro pins s σ H R I h
 refine wpAny_Call_method (T:="dict") (id:="dict.values") hb rfl hline PySem.F.plainAttrs_dict PySem.F.slot_dict_values PySem.F.type_dict_values (thn (ho pins s σ H _ I h) fun u s1 ⟨x,H1,I1,rx,a,kvs,ex,ea,q⟩=> ?_)
 subst ex
 obtain rfl:u=Value.ref a:=rx
 obtain ⟨z,hd,vs,rel,dd⟩:=zgJ I1.hok ea
 refine ⟨dd.typeIs,dd.mapOf.noDict,?_⟩
 show wpAny _ _ (callWith cp (.builtin "dict.values") [.ref a] [] []) _ _ s1
 refine method_meetsIn PySem.F.slot_dict_values PySem.F.entry_dict_values rfl (PySem.evalArgs_none ⟨rfl,dd.typeIs,PySem.F.args_dict_values_1 _,_,meets_dict_values _ a hd,⟨vs,dd⟩,?_⟩)
 obtain ⟨ep,hat⟩:=dd.dictAt
 obtain ⟨od,es,hod,hcd,hdd,hk,hp,hn⟩:=id hat
 have I2:Inv X pins σ (upd H1 a (.frz od (.dK kvs))) s1:=I1.write (t':=s1.toks) (h':=s1.heap) (x:=a) (e:=a) (o:= .frz od (.dK kvs)) (by rw [ea];trivial) (.inl rfl) (fun _ _ _ e=>e) ⟨_,hod⟩ ⟨hod,show zbp X.prog X.w H1 s1.heap a (.dK kvs) from I1.hok a _ ea⟩
 have kp0: ∀b o,s1.heap.get? b=some o→(s1.heap.push {cls:= .type "dict_values",data:= .fields #[.ref a]}).get? b=some o:=fun b o e=>Heap.get?_push_of_some _ e
 have I3:=I2.kept (t':=s1.toks) kp0
 refine wpAny_pyIter_values (knd:=zbf X.prog X.w) (kvs:=vs) (ep:=ep) ⟨_,Heap.get?_push_size _ rfl,rfl,rfl⟩ (hat.at' fun o e=>Heap.get?_push_of_some _ e) ?_
 have I4:=I3.kept (t':=s1.toks) (h':=(s1.heap.push {cls:= .type "dict_values",data:= .fields #[.ref a]}).push {cls:= .type "dict_valueiterator",data:= .fields #[.ref a, .int 0 0, .int vs.length 0, .int ep 0]}) fun b o e=>Heap.get?_push_of_some _ e
 refine ⟨(s1.heap.push {cls:= .type "dict_values",data:= .fields #[.ref a]}).objs.size, [(s1.heap.push {cls:= .type "dict_values",data:= .fields #[.ref a]}).objs.size],_,Itv a od kvs,_,rfl,I4,ziG rel (fun h e=>hat.at' fun o' e'=>by rw [hod] at e';cases e';exact e) _,⟨_,Heap.get?_push_size _ rfl,rfl,rfl⟩,fun b hb=> ?_,q od _ (fun b u n e=>by rw [zau n];exact e) (fun b n=>zau n) zay⟩
 have e:b=(s1.heap.push {cls:= .type "dict_values",data:= .fields #[.ref a]}).objs.size:=by simpa using hb
 subst e
 exact I3.fpOk (Nat.le_refl _) (I3.hok.fresh (Nat.le_refl _))
end L2
namespace L2
open PySem PySem.Spec PyProof.Rows
theorem Fun.okXC {P:Program} {w:World} {K:PySem.W.Frag} {mg:Str→Option Value} {base:Heap} {x qual:Str} {st:Stmt} {f c:Addr} {fd:FuncData} {N ps:List Str} {k:Nat} {sp:Sp} (F:Fun K x qual st f fd) (hc:fd.code= .ref c) (S:FnScope N ps (zap st)) (len: ∀vs H Q E,sp vs H Q E→vs.length=ps.length)
  (hbody: ∀(A:Around) (outer:List Env) (s:Shared) (H:Hp) (vs:List V) (Q:VK) (E:XK),LvR (zdu (CXE P w) P w K mg base N qual (zap st) f (.ref c) A outer s H E) (fun _=>E)→Room k (A.deeper (envOfC qual (zap st) s.heap.objs.size f (.ref c)))→sp vs H Q E→
   ∃t,PSs (zdu (CXE P w) P w K mg base N qual (zap st) f (.ref c) A outer s H E) (zcX st) t∧t {nx:=fun _ H'=>Q .non H',rt:=Q} (start N vs) H):FnOk P w K mg base (CXE P w) (k+1) f fd ps sp:=by
 obtain ⟨oc,od,kV,doc,pm,an,cdv,ct,osl,rfl,lk,hcd⟩:=F.ex
 obtain rfl:cdv= .ref c:=hc
 exact zkS lk hcd S len fun A outer s H vs Q E hr hsp=>hbody A outer s H vs Q E zje hr hsp
end L2
theorem L2.recs_any {q:PySem.Program} {y:PySem.Str} (h:((PyProof.Rows.recsOf q).any fun d=>d.name==y)=true): ∃e∈PyProof.Rows.recsOf q,e.name=y:=by
 obtain ⟨e,he,hn⟩:=List.any_eq_true.mp h
 exact ⟨e,he,eq_of_beq hn⟩
namespace L2
open PySem PySem.Spec PyProof.Rows
end L2
namespace L2
open PySem PySem.Spec PyProof.Rows
section
variable {prog:Program} {w:World} {A:Around} {E:Value→Shared→Prop} {s:Shared}
end
end L2
namespace L2
open PySem PySem.Spec PyProof.Rows
inductive TyQ (K:PySem.W.Frag) (H:Hp):V→Value→Prop where
 |x {v:V} {t:Value} (h:TyX K H v t):TyQ K H v t
 |sq {a:Addr} {ys:List V} (h:SqT K H a ys):TyQ K H (.ref a) (.type "tuple")
end L2
namespace L2
open PySem PySem.Spec PyProof.Rows
def zht (Ts:List Addr) (H:Hp):Prop:=(∀T∈Ts,H T=some (.tbl #[]))∧ ∀b,b∉Ts→H b=none∨ ∃o xs,H b=some (.frz o (.lst xs))
theorem zhu {P:Program} {w:World} {K:PySem.W.Frag} {mg mb:Str→Option Value} {CX:CXT} {k:Nat} {fa a:Addr} {Ts:List Addr} {fd:FuncData} {x:Str} {sp:Sp} {s₁:Shared} {vs:List Value} {ns:List Int}
  (KX:K.In s₁.heap) (hns:s₁.heap.Ns mainGlobals mg) (hb:s₁.heap.Ns builtinsNs mb) (hbb: ∀x:Str,x≠"__name__"→mb x=bootBuiltins x) (hlim:s₁.heap.NoLimit) (hg:s₁.gens= #[])
  (ha:s₁.heap.get? a=some {cls:= .type "list",data:= .seq vs.toArray}) (hi:IntsAre vs ns) (hl:ns.length≤sizeLine) (hr:Room k callerA)
  (hC: ∀T∈Ts,(∃c,PySem.W.CodeHd s₁.heap c T)∧s₁.heap.get? T=some (PySem.W.tabObj #[])∧K.lookup T=none) (hBM:BM mg s₁.heap)
  (F: ∀base:Heap,K.In base→base.Ns mainGlobals mg→BM mg base→FnOk P w K mg base CX k fa fd [x] sp) (hbind: ∀(s:Shared) (u:Value),BindsTo s fd ⟨[u], []⟩ [(x,u)])
  (hsp: ∀H:Hp,zht Ts H→SqL K H a (ns.map V.int)→sp [.ref a] H (fun v _=>v= .bl true) fun _ _ _=>False)
  (hCX: ∀H e s',CX [] H s₁ (fun _ _ _=>False) e s'→False):
  codeAny (model P w) callerA (.call (.ref fa) ⟨[.ref a], []⟩) (fun r s'=>r= .ok (.ret (.bool true))∧OldK s₁.heap s'.heap∧s'.os=s₁.os∧AllBare s'.gens) s₁:=by
 have rv:=zfB hi
 have lenV:=hi.length
 have haT:a∉Ts:=fun z=>by rw [(hC a z).2.1] at ha;cases ha
 have core: ∀H:Hp,zht Ts H→SqL K H a (ns.map V.int)→HOk P w H s₁.heap→(∀b,H b≠none→b=a∨b∈Ts)→(H a≠none→K.lookup a=none)→
   codeAny (model P w) callerA (.call (.ref fa) ⟨[.ref a], []⟩) (fun r s'=>r= .ok (.ret (.bool true))∧OldK s₁.heap s'.heap∧s'.os=s₁.os∧AllBare s'.gens) s₁:=by
  intro H hO hS hok hA hK
  have base_of: ∀{b:Addr} {o:Obj},s₁.heap.get? b=some o→H b=none→(zfk s₁.heap H).get? b=some o:=fun e n=>zi0 e n
  have noA: ∀{b:Addr} {o:Obj},s₁.heap.get? b=some o→(∀es ep,o.data≠ .seq es ep)→(∀es,o.data≠ .fields es)→H b=none:=fun {b o} e d1 d2=>by
   cases q:H b with
   |none=>rfl
   |some u=>
    rcases hA b (by rw [q];simp) with e'|e'
    ·subst e'
     rw [ha] at e;cases e
     exact absurd rfl (d1 _ _)
    ·rw [(hC b e').2.1] at e;cases e
     exact absurd rfl (d2 _)
  have nsK: ∀{b:Addr} {m:Str→Option Value},s₁.heap.Ns b m→(zfk s₁.heap H).Ns b m:=fun {b m} ⟨o,es,ep,e,d,r⟩=>⟨o,es,ep,base_of e (noA e (fun _ _=>by rw [d];intro z;cases z) (fun _=>by rw [d];intro z;cases z)),d,r⟩
  have hKb:K.In (zfk s₁.heap H):=fun b o e=>base_of (KX b o e) (by
   cases q:H b with
   |none=>rfl
   |some u=>
    rcases hA b (by rw [q];simp) with e'|e'
    ·subst e'
     rw [hK (by rw [q];simp)] at e;cases e
    ·rw [(hC b e').2.2] at e;cases e)
  have hM:Mod K mg (zfk s₁.heap H):=⟨hKb,nsK hns,⟨mb,nsK hb,hbb⟩,let ⟨mc,h1,h2⟩:=hlim;⟨mc,nsK h1,h2⟩⟩
  have hB:BM mg (zfk s₁.heap H):=by
   obtain ⟨bm,ob,b1,b2,b3,b4,b5,b6⟩:=hBM
   exact ⟨bm,ob,b1,b2,base_of b3 (noA b3 (fun _ _=>by rw [b6];intro z;cases z) (fun _=>by rw [b6];intro z;cases z)),b4,b5,b6⟩
  have e0:Env0 P w K mg (zfk s₁.heap H) callerA [] s₁ H:=⟨rfl,hM,fun b o e=>zj3 e,Nat.le_of_eq (ziq _ _),trivial,fun b hb=>absurd (show b∈([]:List Addr) from hb) (by simp),hok, .of_eq hg⟩
  refine codeAny_mono ((F _ hKb (nsK hns) hB).run callerA [] s₁ H ⟨[.ref a], []⟩ [.ref a] [.ref a] _ _ hr e0 (hbind s₁ (.ref a)) (.cons rfl .nil) (hsp H hO hS)) fun r s' h=> ?_
  cases r with
  |error e=>exact (hCX H e s' h).elim
  |ok fl=>
   cases fl with
   |next=>exact False.elim h
   |brk=>exact False.elim h
   |cont=>exact False.elim h
   |ret u=>
    obtain ⟨v,H',os,bare,un,hok',r',q⟩:=h
    have q':v= .bl true:=q
    subst q'
    obtain rfl:u=Value.bool true:=r'
    have hx: ∀b o,b∉Ts→s₁.heap.get? b=some o→s'.heap.get? b=some o:=fun b o hbT e=>by
     cases q:H b with
     |none=>exact un.keep b o e q (by intro z;exact absurd (show b∈([]:List Addr) from z) (by simp)) (by simp)
     |some u=>
      rcases hO.2 b hbT with z|⟨ob,xs,z⟩
      ·rw [q] at z;cases z
      ·have z2:=un.frzs b ob _ z
       obtain ⟨e1,_⟩:=hok b _ z
       obtain ⟨e2,_⟩:=hok' b _ z2
       rw [e] at e1;cases e1
       exact e2
    have hT': ∀T∈Ts,∃more,s'.heap.get? T=some (PySem.W.tabObj (#[]++more)):=fun T hT=>by
     obtain ⟨more,hm⟩:=un.tbls T _ (hO.1 T hT)
     exact ⟨more,hok' T _ hm⟩
    refine ⟨rfl,⟨fun b o e=> ?_,fun b o e=> ?_⟩,os,bare⟩
    ·by_cases z:b∈Ts
     ·obtain ⟨⟨c,hc⟩,hT,_⟩:=hC b z
      rw [hT] at e
      cases e
      obtain ⟨more,hm⟩:=hT' b z
      exact .inr (.inl ⟨(hc.tab hT).isCodeTable,rfl, #[],more,rfl,hm⟩)
     ·exact .inl (hx b o z e)
    ·by_cases z:b∈Ts
     ·obtain ⟨more,hm⟩:=hT' b z
      exact ⟨_,hm⟩
     ·exact ⟨o,hx b o z e⟩
 have tblOk: ∀(H:Hp) (T:Addr),T∈Ts→zbp P w H s₁.heap T (.tbl #[]):=fun H T hT=>(hC T hT).2.1
 obtain ⟨H,hH⟩: ∃H:Hp,H=fun b=>if b∈Ts then some (.tbl #[]) else if b=a∧K.lookup a=none then some (.frz {cls:= .type "list",data:= .seq vs.toArray} (.lst (ns.map V.int))) else none:=⟨_,rfl⟩
 have h1: ∀T∈Ts,H T=some (.tbl #[]):=fun T hT=>by rw [hH];exact if_pos hT
 have h2:K.lookup a=none→H a=some (.frz {cls:= .type "list",data:= .seq vs.toArray} (.lst (ns.map V.int))):=fun hk=>by rw [hH];exact (if_neg haT).trans (if_pos ⟨rfl,hk⟩)
 have h3: ∀b,b∉Ts→ ¬(b=a∧K.lookup a=none)→H b=none:=fun b n1 n2=>by rw [hH];exact (if_neg n1).trans (if_neg n2)
 refine core H ⟨h1,fun b n=> ?_⟩ ?_ (fun b u z=> ?_) (fun b z=> ?_) fun z=> ?_
 ·by_cases hb:b=a∧K.lookup a=none
  ·exact .inr ⟨_,_,hb.1 ▸ h2 hb.2⟩
  ·exact .inl (h3 b n hb)
 ·cases hk:K.lookup a with
  |none=>exact .inl (.inr ⟨_,h2 hk⟩)
  |some o=>
   have e:=KX a o hk
   rw [ha] at e
   cases e
   exact .inr ⟨_,vs.toArray,_,hk,rfl,rfl,rfl,by rw [List.size_toArray,lenV];exact hl,by simpa using rv⟩
 ·by_cases hbT:b∈Ts
  ·rw [h1 b hbT] at z;cases z
   exact tblOk _ _ hbT
  ·by_cases hb:b=a∧K.lookup a=none
   ·obtain ⟨rfl,hk⟩:=hb
    rw [h2 hk] at z;cases z
    exact ⟨ha,by rw [List.length_map];exact hl,vs,_,rv,ha⟩
   ·rw [h3 b hbT hb] at z;cases z
 ·by_cases hbT:b∈Ts
  ·exact .inr hbT
  ·by_cases hb:b=a∧K.lookup a=none
   ·exact .inl hb.1
   ·exact absurd (h3 b hbT hb) z
 ·by_cases hk:K.lookup a=none
  ·exact hk
  ·exact absurd (h3 a haT fun y=>hk y.2) z
end L2
namespace L2
open PySem PySem.Spec PyProof.Rows PySem.W PySem.Calls
section
variable {prog:Program} {w:World} {A:Around} {E:Value→Shared→Prop} {s:Shared}
def Tr2 (h:Heap) (v:Value) (a b:Int):Prop:= ∃ad o xs k t1 t2 rest,v= .ref ad∧h.get? ad=some o∧o.cls= .type "tuple"∧o.data= .seq xs k∧xs.toList= .int a t1:: .int b t2::rest
theorem zlr {v v':Value} {a b a' b':Int} {Q:Bool→Shared→Prop} {R R':Int} (h:Tr2 s.heap v a b) (h':Tr2 s.heap v' a' b') (hc:b≠b') (hR:R<R'↔a<a'∨a=a'∧b<b') (q:Q (decide (R<R')) s):wpAny (model prog w) A (keyLt' (tuples' true) v v') Q E s:=by
 obtain ⟨ad,o,xs,n,t1,t2,rest,rfl,e2,_,e4,e5⟩:=h
 obtain ⟨ad',o',xs',n',u1,u2,rest',rfl,f2,_,f4,f5⟩:=h'
 refine kat_lt e2 e4 f2 f4 ?_
 rw [e5,f5]
 refine So.go_int (fun z1=>So.go_int (fun z2=>absurd z2 hc) fun z2=> ?_) fun z1=> ?_
 ·refine kat_one _ _ (PyProof.Rows.lt_int (show Q (decide (b<b')) s from ?_))
  rw [show (decide (b<b'))=decide (R<R') from decide_eq_decide.mpr (by rw [hR];omega)]
  exact q
 ·refine oneLt_int ?_
  rw [show (decide (a<a'))=decide (R<R') from decide_eq_decide.mpr (by rw [hR];omega)]
  exact q
theorem zgT {h:Heap} {kz:Nat→Int×Int}: ∀(vs:List Value) (o:Nat),(∀i,i<vs.length→Tr2 h (vs.getD i Value.none) (kz (o+i)).1 (kz (o+i)).2)→ ∃fs,KatTups h vs fs∧fs.length=vs.length∧ ∀v∈fs,∃x t,v=Value.int x t
 | [],_,_=>⟨[],trivial,rfl,fun _ hv=>nomatch hv⟩
 |v::vs,o,H=>by
  obtain ⟨fs,h1,h2,h3⟩:=zgT (kz:=kz) vs (o+1) fun i hi=>by
   have:=H (i+1) (by rw [List.length_cons];omega)
   rwa [List.getD_cons_succ,show o+(i+1)=o+1+i by omega] at this
  obtain ⟨ad,ob,xs,k,t1,t2,rest,e1,e2,e3,e4,e5⟩:=H 0 (by rw [List.length_cons];omega)
  rw [List.getD_cons_zero] at e1
  subst e1
  refine ⟨.int (kz (o+0)).1 t1::fs,KatTups.cons e2 e3 e4 ?_ h1,by rw [List.length_cons,List.length_cons,h2],fun v hv=> ?_⟩
  ·rw [←Array.getElem?_toList,e5];rfl
  ·rcases List.mem_cons.mp hv with rfl|hv
   ·exact ⟨_,_,rfl⟩
   ·exact h3 v hv
end
section
variable {X:Cx} {pins:List (Addr×Obj)} {σ:St} {H:Hp} {s:Shared}
def zhv (kz:List (Int×Int)) (ix:List Nat):Prop:=ix.Perm (List.range kz.length)∧ix.Pairwise fun i j=>(kz.getD i (0,0)).1<(kz.getD j (0,0)).1∨(kz.getD i (0,0)).1=(kz.getD j (0,0)).1∧(kz.getD i (0,0)).2<(kz.getD j (0,0)).2
def zl3 (H:Hp) (kz:List (Int×Int)) (qs:List Addr):Prop:= ∀(j:Nat) (q:Addr) (z:Int×Int),qs[j]? =some q→kz[j]? =some z→H q=some (.tup [.int z.1, .int z.2])
theorem zfq {k:Nat} {qual x:Str} {params:Arguments} {body:Expr} {scope:Scope} {N:List Str} {te:TE} (hr:Room (k+3) X.A) (S:FnScope N [x] scope)
  (hbind: ∀pm c' ctv u,bindArgs (PySem.W.kla_fn "<lambda>" qual params body scope [] pm (.ref c') ctv) ⟨[u], []⟩=pure [(x,u)])
  (hb: ∀f c' A outer s H,PE (zdu CX0 X.prog X.w X.K X.mg X.base N qual scope f (.ref c') A outer s H E0) body te) {us kws:List Value} {xs ws:List V} {Q:VK}
  (I:Inv X pins σ H s) (r:zaP xs us) (rk:zaP ws kws)
  (h: ∃(p f c':Addr) (vs:List V) (kz:List (Int×Int)),xs= [.ref p]∧ws= [.ref f]∧H p=some (.lst vs)∧H f=some (zgh f qual params body scope c')∧H c'=some (zfp c' qual)∧kz.length=vs.length∧vs.length<64∧
   (∀(i:Nat) (v:V) (z:Int×Int) (H1:Hp),vs[i]? =some v→kz[i]? =some z→zao H H1→te (start N [v]) H1 (fun y H'=>zao H1 H'∧ ∃q,y= .ref q∧H' q=some (.tup [.int z.1, .int z.2])))∧(∀z∈kz,0≤z.2∧z.2<64)∧kz.Pairwise (fun x y=>x.2≠y.2)∧ ∀ix H1,zao H H1→zhv kz ix→New H1 (.lst (ix.map fun i=>vs.getD i .non)) Q):
  wpAny (model X.prog X.w) X.A (call (.builtin "sorted") us [(Str.ofString "key",kws.getD 0 .none)]) (EP X pins σ Q) X.xe s:=by
 obtain ⟨p,f,c',vs,kz,rfl,rfl,hp,hf,hc,hkz,h64,hte,hkb,hkd,q⟩:=h
 obtain ⟨u,rfl,ru⟩:=zcW r
 obtain rfl:u=Value.ref p:=ru
 obtain ⟨u,rfl,ru⟩:=zcW rk
 obtain rfl:u=Value.ref f:=ru
 obtain ⟨hln,its,n,rv,pl⟩:=I.hok _ _ hp
 have hil:its.length=vs.length:=by rw [←rv.length]
 have hl:s.heap.IsList p its.toArray:=⟨_,pl,rfl,_,rfl⟩
 show wpAny _ _ (call (.builtin "sorted") [.ref p] [(Str.ofString "key", .ref f)]) _ _ _
 refine call_function_entry_kw kind_sorted plain_sorted entry_sorted (ksk_s1 _ _) ?_
 unfold Builtin.«sorted»
 refine wpAny_bind (m:=checkCount "sorted" 1 1 _) (wpAny_pure ?_)
 refine wpAny_bind (collect_list hl ?_ (by rw [sizeLine_eq];omega))
 refine wpAny_bind (wpAny_newList ?_ (by rw [sizeLine_eq];omega))
 have hsz:((s.heap.push (seqObj "list" #[] 0)).update s.heap.objs.size (Obj.mapSeq (· ++its.toArray))).objs.size=s.heap.objs.size+1:=by
  rw [Heap.size_update,size_push']
 have hoL:(((s.heap.push (seqObj "list" #[] 0)).update s.heap.objs.size (Obj.mapSeq (· ++its.toArray))).push (seqObj "list" its.toArray 0)).get? (s.heap.objs.size+1)=some (seqObj "list" its.toArray 0):=by
  rw [←hsz];exact Heap.get?_push_size _ rfl
 have keep: ∀b o,s.heap.get? b=some o→(((s.heap.push (seqObj "list" #[] 0)).update s.heap.objs.size (Obj.mapSeq (· ++its.toArray))).push (seqObj "list" its.toArray 0)).get? b=some o:=fun b o e=>by
  have hlt:b<s.heap.objs.size:=Heap.lt_size e
  refine Heap.get?_push_of_some _ ?_
  rw [Heap.get?_update_ne _ _ _ _ (Nat.ne_of_lt hlt)]
  exact Heap.get?_push_of_some _ e
 show wpAny _ _ _ _ _ {s with heap:=((s.heap.push (seqObj "list" #[] 0)).update s.heap.objs.size (Obj.mapSeq (· ++its.toArray))).push (seqObj "list" its.toArray 0)}
 rw [hsz]
 have Fa:Fsh X pins H (s.heap.objs.size+1):=I.fsh (Nat.le_succ _)
 have hsz2:(((s.heap.push (seqObj "list" #[] 0)).update s.heap.objs.size (Obj.mapSeq (· ++its.toArray))).push (seqObj "list" its.toArray 0)).objs.size=s.heap.objs.size+2:=by rw [size_push',hsz]
 generalize hh1:((s.heap.push (seqObj "list" #[] 0)).update s.heap.objs.size (Obj.mapSeq (· ++its.toArray))).push (seqObj "list" its.toArray 0)=h1 at hoL keep hsz2
 have I1:Inv X pins σ H {s with heap:=h1}:=I.kept (t':=s.toks) keep
 obtain ⟨a,ha⟩: ∃a,a=s.heap.objs.size+1:=⟨_,rfl⟩
 rw [←ha] at hoL Fa ⊢
 refine wpAny_bind (wpAny_holding (wpAny_call_entry_kw slot_list_sort ⟨_,hoL,rfl⟩ entry_list_sort ?body (ksk_l1 _ _)))
 show wpAny (model X.prog X.w) X.A.in1.in1 (Builtin.«list.sort» ⟨[.ref a], [(Str.ofString "key", .ref f)]⟩) _ _ _
 rw [ksk_t1]
 unfold ksk_tree
 refine wpAny_bind (listItems_at hoL rfl ?_)
 refine wpAny_bind (listUpdate_at hoL rfl ?_ (by rw [List.size_toArray,sizeLine_eq];omega) (Nat.zero_le _))
 obtain ⟨e1,ho1⟩: ∃e1,(h1.update a (Obj.mapSeq fun _=>(#[]:Array Value))).get? a=some (seqObj "list" #[] e1):=⟨_,get?_update_seq hoL fun _=> #[]⟩
 have I2:Inv X pins σ H {s with heap:=h1.update a (Obj.mapSeq fun _=>(#[]:Array Value))}:=I1.own (t':=s.toks) Fa (Heap.SameBut.update h1 a _)
 refine wpAny_bind (seqEpoch_at ho1 rfl ?_)
 refine wpAny_bind (wpAny_newTuple ?_ (by show its.length≤_;rw [sizeLine_eq];omega))
 refine wpAny_bind (wpAny_newList ?_ (Nat.zero_le _))
 refine wpAny_holding ?_
 have hsz3:(h1.update a (Obj.mapSeq fun _=>(#[]:Array Value))).objs.size=s.heap.objs.size+2:=by rw [Heap.size_update,hsz2]
 show wpAny _ _ _ _ _ {s with heap:=((h1.update a (Obj.mapSeq fun _=>(#[]:Array Value))).push (seqObj "tuple" its.toArray 0)).push (seqObj "list" #[] 0)}
 have I3:Inv X pins σ H {s with heap:=((h1.update a (Obj.mapSeq fun _=>(#[]:Array Value))).push (seqObj "tuple" its.toArray 0)).push (seqObj "list" #[] 0)}:=I2.kept (t':=s.toks) fun b o e=>Heap.get?_push_of_some _ (Heap.get?_push_of_some _ e)
 have ho3:(((h1.update a (Obj.mapSeq fun _=>(#[]:Array Value))).push (seqObj "tuple" its.toArray 0)).push (seqObj "list" #[] 0)).get? a=some (seqObj "list" #[] e1):=Heap.get?_push_of_some _ (Heap.get?_push_of_some _ ho1)
 have hk3:(((h1.update a (Obj.mapSeq fun _=>(#[]:Array Value))).push (seqObj "tuple" its.toArray 0)).push (seqObj "list" #[] 0)).get? ((h1.update a (Obj.mapSeq fun _=>(#[]:Array Value))).push (seqObj "tuple" its.toArray 0)).objs.size=some (seqObj "list" #[] 0):=Heap.get?_push_size _ rfl
 have hkS:((h1.update a (Obj.mapSeq fun _=>(#[]:Array Value))).push (seqObj "tuple" its.toArray 0)).objs.size=s.heap.objs.size+3:=by rw [size_push',hsz3]
 generalize ((h1.update a (Obj.mapSeq fun _=>(#[]:Array Value))).push (seqObj "tuple" its.toArray 0)).push (seqObj "list" #[] 0)=h3 at I3 ho3 hk3 ⊢
 rw [hkS] at hk3 ⊢
 have Fk:Fsh X pins H (s.heap.objs.size+3):=I.fsh (by omega)
 have kna:s.heap.objs.size+3≠a:=by omega
 generalize s.heap.objs.size+3=kS at hk3 Fk kna ⊢
 clear hsz3 hsz2 hh1 I1 I2 ho1 hoL keep ha
 unfold ksk_rest
 refine wpAny_bind (wpAny_rule ?_)
 first
  |rw [List.forIn_toArray]
  |(rw [←Array.forIn_toList];simp only [List.toList_toArray])
  |rw [←Array.forIn_toList]
 refine wpAny_bind (ksk_fold (fun i s'=> ∃kA e Hi qs,Inv X pins σ Hi s'∧zao H Hi∧Hi kS=none∧Hi a=none∧s'.heap.get? kS=some (seqObj "list" kA e)∧s'.heap.get? a=some (seqObj "list" #[] e1)∧kA.toList=qs.map Value.ref∧qs.length=i∧zl3 Hi kz qs) its 0 _ ⟨#[],0,H, [],I3,zao.refl _,Fk.hn,Fa.hn,hk3,ho3,rfl,rfl,(fun j q z h=>by cases h)⟩ ?step ?done)
 case step=>
  rintro j y s' hy ⟨kA,e,Hi,qs,J,sm,nk,na,hk,ho,hkq,hql,hqs⟩
  simp only [Nat.zero_add] at hql ⊢
  have hj:j<its.length:=(List.getElem?_eq_some_iff.mp hy).1
  obtain ⟨v,hv,rvy⟩:=zfa rv hy
  obtain ⟨z,hz⟩: ∃z,kz[j]? =some z:=⟨_,List.getElem?_eq_getElem (by omega)⟩
  have hsz4:kA.size≤its.length:=by
   have h1:=congrArg List.length hkq
   rw [Array.length_toList,List.length_map] at h1
   omega
  obtain ⟨⟨pm,ctv,hfo⟩,_⟩:=J.hok _ _ (sm _ _ hf)
  obtain ⟨hcd,_⟩:=J.hok _ _ (sm _ _ hc)
  have run:=zib (CX:=CX0) (E:=E0) (N:=N) (ps:= [x]) (us:= [y]) (vs:= [v]) (te:=te) (hr.in1).in1 J.env0.in1.in1 hfo hcd S rfl (hbind _ _ _ _) (.cons rvy .nil) (hb _ _ _ _ _ _) (hte j v z Hi hv hz sm)
  refine wpAny_bind (wpAny_attempt (wpAny_call (codeAny_mono run fun r s'' hq=> ?_)))
  cases r with
  |error e=>exact hq.elim
  |ok fl=>
   cases fl with
   |next=>exact False.elim hq
   |brk=>exact False.elim hq
   |cont=>exact False.elim hq
   |ret u=>
    obtain ⟨v2,H2,os,bare,un,hok,rv2,sm2,q2,e2,e3⟩:=hq
    obtain ⟨v3,H3,J3,_,rfl⟩:=J.after (Q:=fun _ H'=>H'=H2) ⟨v2,H2,os,bare,un,hok,rv2,rfl⟩
    subst e2
    obtain rfl:u=Value.ref q2:=rv2
    have hk2:=un.keep kS _ hk nk Fk.fs (by simp)
    have ho2:=un.keep a _ ho na Fa.fs (by simp)
    have nk2:=un.free kS _ hk nk (by simp)
    have na2:=un.free a _ ho na (by simp)
    dsimp only
    have s1:=Heap.SameBut.update s''.heap kS (Obj.mapSeq (·.push (.ref q2)))
    obtain ⟨c2,hc2⟩: ∃c2,(s''.heap.update kS (Obj.mapSeq (·.push (.ref q2)))).get? kS=some (seqObj "list" (kA.push (.ref q2)) c2):=⟨_,get?_update_seq hk2 (·.push (.ref q2))⟩
    have ea:(kA.push (Value.ref q2)).toList=(qs++ [q2]).map Value.ref:=by
     rw [List.map_append,←hkq]
     simp
    refine wpAny_bind (listUpdate_at hk2 rfl ?_ (by rw [sizeLine_eq];omega) (Nat.le_trans (Nat.le_of_eq (Array.size_push ..)) (by rw [sizeLine_eq];omega)))
    refine wpAny_pure ⟨rfl,kA.push (.ref q2),c2,H3,qs++ [q2],J3.own (t':=s''.toks) ⟨Fk.s0,Fk.ne,Fk.cl,Fk.pi,Fk.fs,nk2⟩ s1,sm.trans sm2,nk2,na2,hc2,(s1.2 a kna.symm).trans ho2,ea,by rw [List.length_append,hql];rfl,fun j' q' z' h1 h2=> ?_⟩
    by_cases lt:j'<qs.length
    ·rw [List.getElem?_append_left lt] at h1
     exact sm2 _ _ (hqs j' q' z' h1 h2)
    ·rw [List.getElem?_append_right (by omega)] at h1
     have e0:j'=j:=by
      have:=(List.getElem?_eq_some_iff.mp h1).1
      rw [List.length_singleton] at this
      omega
     subst e0
     rw [show j' - qs.length=0 by omega] at h1
     cases h1
     rw [hz] at h2
     cases h2
     exact e3
 case done=>
  rintro s' ⟨kA,e,Hi,qs,J,sm,nk,na,hk,ho,hkq,hql,hqs⟩
  rw [Nat.zero_add] at hql
  have Fk':Fsh X pins Hi kS:=⟨Fk.s0,Fk.ne,Fk.cl,Fk.pi,Fk.fs,nk⟩
  have Fa':Fsh X pins Hi a:=⟨Fa.s0,Fa.ne,Fa.cl,Fa.pi,Fa.fs,na⟩
  have hsz4:kA.size=its.length:=by
   have h1:=congrArg List.length hkq
   rw [Array.length_toList,List.length_map] at h1
   omega
  have tr: ∀i,i<kA.toList.length→Tr2 s'.heap (kA.toList.getD i Value.none) (kz.getD i (0,0)).1 (kz.getD i (0,0)).2:=fun i hi=>by
   have il:i<its.length:=by rw [Array.length_toList,hsz4] at hi;exact hi
   have h1:qs[i]? =some qs[i]:=List.getElem?_eq_getElem (by omega)
   have h2:kz[i]? =some kz[i]:=List.getElem?_eq_getElem (by omega)
   obtain ⟨_,ts,tv,o,g1,g2,k1,g3⟩:=J.hok _ _ (hqs i _ _ h1 h2)
   obtain ⟨x1,ts1,rfl,⟨t1,rfl⟩,tv1⟩:=zbN tv
   obtain ⟨x2,ts2,rfl,⟨t2,rfl⟩,tv2⟩:=zbN tv1
   rw [hkq,List.getD_eq_getElem?_getD,List.getElem?_map,h1,List.getD_eq_getElem?_getD,h2]
   exact ⟨_,o,_,k1,t1,t2,ts2,rfl,g1,g2,g3,rfl⟩
  refine wpAny_bind (listItems_at hk rfl ?_)
  have tail: ∀(st:SortSt) (ix:List Nat),zhv kz ix→(arrOf st).map (·.2)=List.toArray (ix.map fun i=>its.getD i Value.none)→failedOf st=none→
    wpAny (model X.prog X.w) X.A.in1.in1 (ksk_tail a false e1 (.ref kS) st) (fun fin s''=> ∃v,fin= .done (.ret v)∧wpAny (model X.prog X.w) X.A.in1 (PySem.ret (.ref a)) (fun fin s'=> ∃v,fin= .done (.ret v)∧EP X pins σ Q v s') X.xe s'') X.xe s':=fun st ix hix har hfl=>by
   have hixl:ix.length=its.length:=by rw [hix.1.length_eq,List.length_range];omega
   have hout:((arrOf st).map (·.2)).size=its.length:=by rw [har,List.size_toArray,List.length_map,hixl]
   have s1:=Heap.SameBut.update s'.heap kS (Obj.mapSeq fun _=>(#[]:Array Value))
   have na1:(s'.heap.update kS (Obj.mapSeq fun _=>(#[]:Array Value))).get? a=some (seqObj "list" #[] e1):=(s1.2 a kna.symm).trans ho
   have s2:=Heap.SameBut.update (s'.heap.update kS (Obj.mapSeq fun _=>(#[]:Array Value))) a (Obj.mapSeq fun _=>(arrOf st).map (·.2))
   obtain ⟨c2,hc2⟩: ∃c2,((s'.heap.update kS (Obj.mapSeq fun _=>(#[]:Array Value))).update a (Obj.mapSeq fun _=>(arrOf st).map (·.2))).get? a=some (seqObj "list" ((arrOf st).map (·.2)) c2):=⟨_,get?_update_seq na1 fun _=>(arrOf st).map (·.2)⟩
   unfold ksk_tail
   dsimp only
   refine wpAny_bind (listUpdate_at hk rfl ?_ (by rw [hsz4,sizeLine_eq];omega) (Nat.zero_le _))
   refine wpAny_bind (wpAny_letGo ?_)
   refine wpAny_bind (seqEpoch_at na1 rfl ?_)
   refine wpAny_bind (listUpdate_at na1 rfl ?_ (Nat.zero_le _) (Nat.le_trans (Nat.le_of_eq hout) (by rw [sizeLine_eq];omega)))
   rw [hfl]
   simp only [bne_self_eq_false,Bool.false_eq_true,if_false]
   refine wpAny_pure ⟨_,rfl,wpAny_pure ⟨_,rfl,?_⟩⟩
   have J1:=J.own (t':=s'.toks) Fk' s1
   have J2:=J1.own (t':=s'.toks) Fa' s2
   have hc2':=hc2
   rw [show seqObj "list" ((arrOf st).map (·.2)) c2=seqObj "list" (List.toArray (ix.map fun i=>its.getD i Value.none)) c2 by rw [har]] at hc2'
   have inr: ∀i∈ix,i<vs.length:=fun i hi=>by
    have:=List.mem_range.mp (hix.1.mem_iff.mp hi)
    omega
   have new:zbp X.prog X.w (upd Hi a (.lst (ix.map fun i=>vs.getD i .non))) ((s'.heap.update kS (Obj.mapSeq fun _=>(#[]:Array Value))).update a (Obj.mapSeq fun _=>(arrOf st).map (·.2))) a (.lst (ix.map fun i=>vs.getD i .non)):=
    ⟨by rw [List.length_map,hixl,hil];exact hln,_,c2,zex rv ix inr,hc2'⟩
   exact ⟨.ref a,_,J2.adopt (t':=s'.toks) Fa' new,rfl,(q ix Hi sm hix).at na⟩
  unfold ksk_end
  (try dsimp only)
  rw [if_neg (by decide)]
  by_cases h2:its.toArray.size<2
  ·rw [if_pos h2,if_pos h2]
   refine wpAny_bind (wpAny_pure ?_)
   rw [StateT.run_pure]
   refine wpAny_bind (wpAny_pure ?_)
   dsimp only
   rw [List.size_toArray] at h2
   refine tail (SortSt.mk' general' (kA.zip its.toArray) #[] 7 none) (List.range its.length) ⟨by rw [hkz,hil],?_⟩ ?_ rfl
   ·rw [List.pairwise_iff_getElem]
    intro i j hi hj hij
    rw [List.length_range] at hj
    omega
   ·show (kA.zip its.toArray).map (·.2)=_
    rw [Array.map_snd_zip (by rw [List.size_toArray];omega),zcU]
  ·rw [if_neg h2,if_neg h2]
   rw [List.size_toArray] at h2
   obtain ⟨fs,f1,f2,f3⟩:=zgT (kz:=fun i=>kz.getD i (0,0)) kA.toList 0 (fun i hi=>by rw [Nat.zero_add];exact tr i hi)
   have kl:kA.toList.length=its.length:=by rw [Array.length_toList,hsz4]
   have zk:kA.zip its.toArray=kA.toList.toArray.zip its.toArray:=by rw [Array.toArray_toList]
   rw [show keyKind' kA=keyKind' kA.toList.toArray by rw [Array.toArray_toList]]
   refine wpAny_bind (PySem.W.kat_kind (s:=s') (T:= .type "int") f1 (by omega) (fun v hv=> ?_) (by decide) ?_)
   ·obtain ⟨x,t,rfl⟩:=f3 v hv
    exact .now
   rw [if_neg (by decide),zk]
   have rk: ∀i j,i<its.length→j<its.length→((kz.getD i (0,0)).1*64+(kz.getD i (0,0)).2<(kz.getD j (0,0)).1*64+(kz.getD j (0,0)).2↔(kz.getD i (0,0)).1<(kz.getD j (0,0)).1∨(kz.getD i (0,0)).1=(kz.getD j (0,0)).1∧(kz.getD i (0,0)).2<(kz.getD j (0,0)).2):=fun i j hi hj=>by
    have b1:=hkb _ (zcJ (d:=(0,0)) (show i<kz.length by omega))
    have b2:=hkb _ (zcJ (d:=(0,0)) (show j<kz.length by omega))
    generalize kz.getD i (0,0)=u at b1 ⊢
    generalize kz.getD j (0,0)=v at b2 ⊢
    omega
   have ne: ∀i j,i<its.length→j<its.length→i≠j→(kz.getD i (0,0)).2≠(kz.getD j (0,0)).2:=fun i j hi hj hn=>by
    have li:i<kz.length:=by omega
    have lj:j<kz.length:=by omega
    rw [List.getD_eq_getElem?_getD,List.getD_eq_getElem?_getD,List.getElem?_eq_getElem li,List.getElem?_eq_getElem lj]
    rcases Nat.lt_or_gt_of_ne hn with z|z
    ·exact List.pairwise_iff_getElem.mp hkd i j li lj z
    ·exact (List.pairwise_iff_getElem.mp hkd j i lj li z).symm
   have inj:So.Inj its.length (fun i=>(kz.getD i (0,0)).1*64+(kz.getD i (0,0)).2):=fun i j hi hj hn e=>by
    have b1:=hkb _ (zcJ (d:=(0,0)) (show i<kz.length by omega))
    have b2:=hkb _ (zcJ (d:=(0,0)) (show j<kz.length by omega))
    have:=ne i j hi hj hn
    dsimp only at e
    omega
   refine wpAny_bind (wpAny_mono (PySem.W.kat_run (ks:=kA.toList) (vs:=its) (Q:=fun st' s2=>s2=s'∧ ∃pm:Array Nat,So.Ok its.length pm∧So.Up (fun i=>(kz.getD i (0,0)).1*64+(kz.getD i (0,0)).2) pm its.length∧arrOf st'=pm.map (PySem.W.kas_item (kA.toList.toArray.zip its.toArray))∧failedOf st'=none)
    (G:=fun pm s2=>s2=s'∧So.Ok its.length pm∧So.Up (fun i=>(kz.getD i (0,0)).1*64+(kz.getD i (0,0)).2) pm its.length) kl (by omega) (by omega) (fun pm st' s2 a1 a2 a3 a4=>⟨a4.1,pm,a4.2.1,a4.2.2,a2,a3⟩)
    (So.Ev.wp (n:=its.length) (r:=fun i=>(kz.getD i (0,0)).1*64+(kz.getD i (0,0)).2) (fun i j C hi hj hn c=> ?_) (fun pm h=>⟨rfl,h⟩) (So.sort_ inj (by omega)))) ?_ fun _ _ e=>e)
   ·unfold PySem.W.kas_ask
    exact zlr (tr i (by omega)) (tr j (by omega)) (ne i j hi hj hn) (rk i j hi hj) c
   rintro ⟨⟨⟩,st'⟩ s2 ⟨rfl,pm,a1,a2,a3,a4⟩
   dsimp only
   refine tail st' pm.toList ⟨?_,?_⟩ ?_ a4
   ·have:=a1.toList
    rw [hkz,←hil]
    exact this
   ·rw [List.pairwise_iff_getElem]
    intro i j hi hj hij
    have e:=a2 i j hij (by rw [Array.length_toList,a1.size] at hj;exact hj)
    unfold So.fv at e
    have g: ∀(k:Nat) (hk:k<pm.toList.length),pm.getD k 0=pm.toList[k]:=fun k hk=>by
     have:k<pm.size:=by simpa using hk
     simp [Array.getD,this]
    rw [g i hi,g j hj] at e
    have l1:pm.toList[i]<its.length:=by
     have:=a1.toList.mem_iff.mp (List.getElem_mem hi)
     simpa using this
    have l2:pm.toList[j]<its.length:=by
     have:=a1.toList.mem_iff.mp (List.getElem_mem hj)
     simpa using this
    exact (rk _ _ l1 l2).mp e
   ·exact PySem.W.kat_snds (ks:=kA.toList) (vs:=its) (by rw [Array.length_toList,hsz4]) a3
end
end L2
namespace L2
open PySem PySem.Spec PyProof.Rows
section
variable {X:Cx}
def zaU (P:Addr) (lpos:Pos) (qual:Str) (N:List Str) (te:TE) (t:TA):TE:=fun σ H Q=>t σ H fun xs H1=>zdW H1 P lpos qual∧ ∀H2,zhr P H1 H2→zdW H2 P lpos qual→ ∃(p:Addr) (vs:List V) (kz:List (Int×Int)),xs= [.ref p]∧H2 p=some (.lst vs)∧kz.length=vs.length∧vs.length<64∧
 (∀(i:Nat) (v:V) (z:Int×Int) (H3:Hp),vs[i]? =some v→kz[i]? =some z→zao H2 H3→te (start N [v]) H3 (fun y H'=>zao H3 H'∧ ∃q,y= .ref q∧H' q=some (.tup [.int z.1, .int z.2])))∧(∀z∈kz,0≤z.2∧z.2<64)∧kz.Pairwise (fun x y=>x.2≠y.2)∧ ∀ix H3,zao H2 H3→zhv kz ix→New H3 (.lst (ix.map fun i=>vs.getD i .non)) Q
theorem ziH {k:Nat} {c P:Addr} {x:Str} {e:Expr} {t:TA} {params:Arguments} {body:Expr} {scope:Scope} {p pos lpos kpos:Pos} {N:List Str} {te:TE} (hr:Room (k+3) X.A) (hg:Gl X "sorted") (hm:X.mg "sorted"=none) (ha:PA X [e] t)
  (hcode:X.env.code= .ref c) (hB:BM X.mg X.base) (C: ∀h:Heap,X.K.In h→PySem.W.CodeHd h c P) (S:FnScope N [x] scope)
  (hbind: ∀pm c' ctv u,bindArgs (PySem.W.kla_fn "<lambda>" (X.env.qual++"<lambda>") params body scope [] pm (.ref c') ctv) ⟨[u], []⟩=pure [(x,u)])
  (hb: ∀f c' A outer s H,PE (zdu CX0 X.prog X.w X.K X.mg X.base N (X.env.qual++"<lambda>") scope f (.ref c') A outer s H E0) body te)
  (hdef:defaultsOf params X.env=([], []):=by rfl) (hcl:closureFor scope X.env=pure []:=by rfl)
  (he:backTo pos (starEach [e] X.env)=(false,eval e X.env)::backTo pos (starEach [] X.env):=by rfl) (hpl:(backTo pos (starEach [e] X.env)).any (·.1)=false:=by rfl):
  PE X (.Call (.Name "sorted" p) [e] [⟨some "key", .Lambda params body scope lpos,kpos⟩] pos) (zaU P lpos (X.env.qual++"<lambda>") N te t):=by
 intro pins s σ H Q I h
 refine wpAny_Call_Name_kw (zdi I hg hm rfl ?_ (by decide) (by decide))
 refine callWith_kw (thn (ha pos pins s σ H _ I h) fun us s1 ⟨xs,H1,I1,r1,tb,q1⟩=> ?_) he hpl rfl rfl
 refine thn (zhV (nm:=some "key") (kpos:=kpos) (zjD (pos:=lpos) (body:=body) hcode hB C hdef hcl) zja pos pins s1 σ H1 (fun ws H2=> ∃f c',ws= [.ref f]∧zhr P H1 H2∧zdW H2 P lpos (X.env.qual++"<lambda>")∧H2 f=some (zgh f (X.env.qual++"<lambda>") params body scope c')∧H2 c'=some (zfp c' (X.env.qual++"<lambda>"))) I1 ⟨tb,fun f c' H2 g tb2 _ e1 e2=>⟨f,c',rfl,g,tb2,e1,e2⟩⟩) fun kws s2 ⟨ws,H2,I2,rk,f,c',ew,g,tb2,e1,e2⟩=> ?_
 subst ew
 obtain ⟨pl,vs,kz,rfl,hp,hkz,h64,hte,hkb,hkd,q⟩:=q1 H2 g tb2
 obtain ⟨u,rfl,ru⟩:=zcW rk
 exact zfq hr S hbind hb I2 r1 (.cons ru .nil) ⟨pl,f,c',vs,kz,rfl,rfl,hp,e1,e2,hkz,h64,hte,hkb,hkd,q⟩
end
theorem walk_ofTs {l:PySem.W.OpenLaw} {n k:Nat} {q:Program} {loose:List Str} {XP:(Str→Option Value)→Heap→Prop} {YP:World→Heap→Prop} {d:DefRec} {K:Params→PySem.W.Frag} {CX:World→CXT} {sp:PySem.W.Frag→List Addr→Sp} {x:Str} {ys:List Str}
  (hn:l.most=some n) (hn2:n≤sizeLine) (hdf:d.params.defaults= []) (hr:Room k callerA)
  (hY: ∀(w:World) (h:Heap),YP w h→(K w.params).In h) (hy: ∀y∈ys,∃e∈recsOf q,e.name=y)
  (F: ∀(w:World) (mg:Str→Option Value) (fa:Addr) (h:Heap),(K w.params).In h→h.Ns mainGlobals mg→mg d.name=some (.ref fa)→
   ∃(fd:FuncData) (Ts:List Addr),(∀T∈Ts,∃y∈ys,∃c,TabK (K w.params) mg y c T)∧(∀(s:Shared) (u:Value),BindsTo s fd ⟨[u], []⟩ [(x,u)])∧
    ∀base:Heap,(K w.params).In base→base.Ns mainGlobals mg→BM mg base→FnOk l.prog w (K w.params) mg base (CX w) k fa fd [x] (sp (K w.params) Ts))
  (hsp: ∀(K:PySem.W.Frag) (Ts:List Addr) (H:Hp) (a:Addr) (ns:List Int),ns.length≤n→zht Ts H→SqL K H a (ns.map V.int)→sp K Ts [.ref a] H (fun v _=>v= .bl true) fun _ _ _=>False)
  (hCX: ∀(w:World) (H:Hp) (s:Shared) (e:Value) (s':Shared),CX w [] H s (fun _ _ _=>False) e s'→False):
  PySem.W.WalkO q loose XP YP l.row.toRowW d [] (fun f vs=>PySem.call f vs):=by
 refine Att.attach_call hn hdf fun w s₀ s₁ mg mb fa o pm cd doc a vs ns G Y ho hd hcd hmg hobj hints hlen hg=> ?_
 have KX:=hY w _ Y
 obtain ⟨fd,Ts,tks,hb,hF⟩:=F w mg fa _ KX G.T.g hmg
 refine zhu KX G.T.g G.T.b G.T.builtins G.T.nolimit hg hobj hints (Nat.le_trans hlen hn2) hr (fun T hT=> ?_) G.T.bmain hF hb (fun H hO hS=>hsp _ Ts H a ns hlen hO hS) fun H e s'=>hCX w H s₁ e s'
 obtain ⟨y,hyy,c,tk⟩:=tks T hT
 obtain ⟨e,he,rfl⟩:=hy y hyy
 obtain ⟨a1,o1,fd1,c1,P1,t1,t2,t3,t4,t5,t6⟩:=G.T.tab e he
 obtain ⟨f2,oc,od,fd2,osl,u1,u2,u3⟩:=tk.fn
 obtain ⟨od3,vs3,osl3,file,tf,flags,tg,inF,text,tt,w1,w2,_⟩:=tk.cd
 rw [u1] at t1
 cases t1
 rw [KX _ _ u2] at t2
 cases t2
 cases t3
 rw [u3] at t4
 cases t4
 obtain ⟨⟨o4,vs4,x1,x2,x3,x4⟩,x5⟩:=t6
 rw [KX _ _ w1] at x1
 cases x1
 cases x3
 rw [w2] at x4
 cases x4
 exact ⟨⟨c,tk.hd KX⟩,x5,tk.no⟩
end L2
namespace L2
theorem zkt {X:L2.Cx} {K:PySem.W.Frag} (e:X.K=K):L2.SlR X (L2.rSlT K):=e ▸ L2.sl_tup
end L2
namespace Cal
def lp (y:Int):Int:=if y % 4=0∧(y % 100≠0∨y % 400=0) then 1 else 0
def dim (y m:Int):Int:=if m=2 then 28+lp y else if m=4∨m=6∨m=9∨m=11 then 30 else 31
def ahead (y:Int):Int:=(y - 1)*365+(y - 1) / 4 - (y - 1) / 100+(y - 1) / 400
def cum (y m:Int):Int:=
 if m≤1 then 0 else if m=2 then 31 else if m=3 then 59+lp y else if m=4 then 90+lp y else if m=5 then 120+lp y
 else if m=6 then 151+lp y else if m=7 then 181+lp y else if m=8 then 212+lp y else if m=9 then 243+lp y
 else if m=10 then 273+lp y else if m=11 then 304+lp y else if m=12 then 334+lp y else 365+lp y
def num (y m d:Int):Int:=ahead y+cum y m+d - 1
def Valid (y m d:Int):Prop:=1≤y∧y≤9999∧1≤m∧m≤12∧1≤d∧d≤dim y m
theorem lp_01 (y:Int):0≤lp y∧lp y≤1:=by unfold lp;split<;>decide
theorem zfb (y m:Int):28≤dim y m∧dim y m≤31:=by
 have:=lp_01 y
 unfold dim
 repeat' split
 all_goals omega
theorem cum_one (y:Int):cum y 1=0:=rfl
theorem cum_succ {y m:Int} (h1:1≤m) (h2:m≤12):cum y (m+1)=cum y m+dim y m:=by
 obtain ⟨k,rfl⟩:=Int.eq_ofNat_of_zero_le (Int.le_trans (by decide:(0:Int)≤1) h1)
 match k,h1,h2 with
 |0,h,_=>exact absurd h (by decide)
 |1,_,_=>exact rfl
 |2,_,_=>exact Int.add_assoc 31 28 (lp y)
 |3,_,_=>exact (Int.add_right_comm 59 (lp y) 31).symm
 |4,_,_=>exact (Int.add_right_comm 90 (lp y) 30).symm
 |5,_,_=>exact (Int.add_right_comm 120 (lp y) 31).symm
 |6,_,_=>exact (Int.add_right_comm 151 (lp y) 30).symm
 |7,_,_=>exact (Int.add_right_comm 181 (lp y) 31).symm
 |8,_,_=>exact (Int.add_right_comm 212 (lp y) 31).symm
 |9,_,_=>exact (Int.add_right_comm 243 (lp y) 30).symm
 |10,_,_=>exact (Int.add_right_comm 273 (lp y) 31).symm
 |11,_,_=>exact (Int.add_right_comm 304 (lp y) 30).symm
 |12,_,_=>exact (Int.add_right_comm 334 (lp y) 31).symm
 |k+13,_,h=>exact absurd h (by omega)
theorem cum_13 (y:Int):cum y 13=365+lp y:=by simp [cum]
theorem zhw (y m:Int):0≤cum y m:=by
 have l:=(lp_01 y).1
 have q: ∀a:Int,0≤a→0≤a+lp y:=fun a h=>Int.add_nonneg h l
 have z: ∀{p:Prop} [Decidable p] {a b:Int},0≤a→0≤b→0≤if p then a else b:=fun {p} _ {a b} g h=>by split<;>assumption
 exact z (by decide) (z (by decide) (z (q _ (by decide)) (z (q _ (by decide)) (z (q _ (by decide)) (z (q _ (by decide)) (z (q _ (by decide)) (z (q _ (by decide)) (z (q _ (by decide)) (z (q _ (by decide)) (z (q _ (by decide)) (z (q _ (by decide)) (q _ (by decide)))))))))))))
theorem q4 (x:Int):(x+1) / 4=x / 4+if (x+1) % 4=0 then 1 else 0:=by split<;>omega
theorem zmt (x:Int):(x+1) / 100=x / 100+if (x+1) % 100=0 then 1 else 0:=by split<;>omega
theorem zmu (x:Int):(x+1) / 400=x / 400+if (x+1) % 400=0 then 1 else 0:=by split<;>omega
theorem zls {x a b:Int} (k:Int) (e:b=a*k) (h:x % b=0):x % a=0:=by
 subst e
 rw [←Int.emod_emod_of_dvd x (Int.dvd_mul_right a k),h,Int.zero_emod]
theorem zl4 (y:Int):lp y=(if y % 4=0 then 1 else 0) - (if y % 100=0 then 1 else 0)+(if y % 400=0 then 1 else 0):=by
 unfold lp
 by_cases c:y % 4=0
 ·by_cases d:y % 100=0
  ·by_cases e:y % 400=0
   ·rw [if_pos ⟨c, .inr e⟩,if_pos c,if_pos d,if_pos e];rfl
   ·rw [if_neg (fun h=>h.2.elim (fun h=>h d) e),if_pos c,if_pos d,if_neg e];rfl
  ·have e:y % 400≠0:=fun h=>d (zls 4 rfl h)
   rw [if_pos ⟨c, .inl d⟩,if_pos c,if_neg d,if_neg e];rfl
 ·have d:y % 100≠0:=fun h=>c (zls 25 rfl h)
  have e:y % 400≠0:=fun h=>c (zls 100 rfl h)
  rw [if_neg (fun h=>c h.1),if_neg c,if_neg d,if_neg e];rfl
theorem zhx (y:Int):ahead (y+1)=ahead y+365+lp y:=by
 obtain ⟨x,rfl⟩: ∃x,y=x+1:=⟨y - 1,(Int.sub_add_cancel y 1).symm⟩
 rw [zl4]
 unfold ahead
 rw [Int.add_sub_cancel,Int.add_sub_cancel,q4,zmt,zmu,Int.add_mul,Int.one_mul]
 generalize x*365=p,x / 4=a,x / 100=b,x / 400=c,ite ((x+1) % 4=0) (1:Int) 0=d,ite ((x+1) % 100=0) (1:Int) 0=e,ite ((x+1) % 400=0) (1:Int) 0=f
 clear x
 omega
theorem zdq {y z:Int} (h:y<z):ahead y+365+lp y≤ahead z:=by
 rw [←zhx]
 unfold ahead
 omega
theorem zjF {y m:Int} (h1:1≤m): ∀j:Nat,m+1+(j:Int)≤13→cum y (m+1)≤cum y (m+1+(j:Int))
 |0,_=>Int.le_of_eq (by rw [show m+1+((0:Nat):Int)=m+1 from Int.add_zero _])
 |j+1,h=>by
  have a:=zjF (y:=y) h1 j (by omega)
  have b:=cum_succ (y:=y) (m:=m+1+(j:Int)) (by omega) (by omega)
  have c:=(zfb y (m+1+(j:Int))).1
  rw [show m+1+((j+1:Nat):Int)=m+1+(j:Int)+1 by omega,b]
  omega
theorem zel {y m k:Int} (h1:1≤m) (h:m<k) (h2:k≤13):cum y m+dim y m≤cum y k:=by
 rw [←cum_succ h1 (by omega)]
 have:=zjF (y:=y) h1 (k - (m+1)).toNat (by omega)
 rw [show m+1+((k - (m+1)).toNat:Int)=k by omega] at this
 exact this
theorem zdQ {y m d:Int} (h:Valid y m d):0≤cum y m+d - 1∧cum y m+d≤365+lp y:=by
 obtain ⟨_,_,h3,h4,h5,h6⟩:=h
 have a:=zhw y m
 have b:=zel (y:=y) h3 (show m<13 by omega) (by omega)
 rw [cum_13] at b
 omega
theorem num_inj {y m d z k e:Int} (h:Valid y m d) (g:Valid z k e) (q:num y m d=num z k e):y=z∧m=k∧d=e:=by
 have a:=zdQ h
 have b:=zdQ g
 obtain ⟨_,_,h3,h4,h5,h6⟩:=h
 obtain ⟨_,_,g3,g4,g5,g6⟩:=g
 unfold num at q
 have yz:y=z:=by
  rcases Int.lt_trichotomy y z with c|c|c
  ·have:=zdq c;omega
  ·exact c
  ·have:=zdq c;omega
 subst yz
 have mk:m=k:=by
  rcases Int.lt_trichotomy m k with c|c|c
  ·have:=zel (y:=y) h3 c (by omega);omega
  ·exact c
  ·have:=zel (y:=y) g3 c (by omega);omega
 subst mk
 exact ⟨rfl,rfl,by omega⟩
theorem num_range {y m d:Int} (h:Valid y m d):0≤num y m d∧num y m d≤3652058:=by
 have a:=zdQ h
 obtain ⟨h1,h2,_⟩:=h
 have e1:ahead 1=0:=by decide
 have e2:ahead 10000=3652059:=by decide
 have b:=zdq (y:=y) (z:=10000) (by omega)
 have c:ahead 1≤ahead y:=by unfold ahead;omega
 unfold num
 omega
theorem zl5 {R h f:Int} (f0:0≤f) (f1:f<24):lp (R*400+h*100+f*4+3+1)=1:=by
 unfold lp
 rw [if_pos]
 exact ⟨by omega,Or.inl (by omega)⟩
theorem zlt (R:Int):lp (R*400+3*100+24*4+3+1)=1:=by
 unfold lp
 rw [if_pos]
 exact ⟨by omega,Or.inr (by omega)⟩
def yearOf (n:Int):Int:=
 let r:=n % 146097
 let h:=min (r / 36524) 3
 let r2:=r - h*36524
 let c:=r2 % 1461
 n / 146097*400+h*100+r2 / 1461*4+min (c / 365) 3+1
theorem zmv {a h b:Int} (a0:0≤a) (a1:a<146097) (eh:h=min (a / 36524) 3) (eb:b=a - h*36524):0≤h∧h≤3∧0≤b∧b≤36524∧(h<3→b<36524):=by
 have q:=Int.emod_add_mul_ediv a 36524
 have r:=Int.emod_nonneg a (by decide:(36524:Int)≠0)
 have t:=Int.emod_lt_of_pos a (by decide:(0:Int)<36524)
 generalize a / 36524=u at*
 generalize a % 36524=v at*
 by_cases c:u≤3
 ·rw [Int.min_eq_left c] at eh
  subst eh
  refine ⟨by omega,c,by omega,by omega,fun _=>by omega⟩
 ·rw [Int.min_eq_right (by omega)] at eh
  subst eh
  refine ⟨by decide,by decide,by omega,by omega,fun h=>absurd h (by decide)⟩
theorem zmw {b f c:Int} (b0:0≤b) (b1:b≤36524) (ef:f=b / 1461) (ec:c=b % 1461):0≤f∧f≤24∧0≤c∧c<1461∧b=1461*f+c:=by
 have q:=Int.emod_add_mul_ediv b 1461
 have r:=Int.emod_nonneg b (by decide:(1461:Int)≠0)
 have t:=Int.emod_lt_of_pos b (by decide:(0:Int)<1461)
 rw [←ef,←ec] at q
 rw [←ec] at r t
 clear ef ec
 refine ⟨by omega,by omega,r,t,by omega⟩
theorem zmx {c o:Int} (c0:0≤c) (eo:o=min (c / 365) 3):0≤o∧o≤3∧365*o≤c∧(o<3→c<365*o+365):=by
 have q:=Int.emod_add_mul_ediv c 365
 have r:=Int.emod_nonneg c (by decide:(365:Int)≠0)
 have t:=Int.emod_lt_of_pos c (by decide:(0:Int)<365)
 generalize c / 365=u at*
 generalize c % 365=v at*
 by_cases d:u≤3
 ·rw [Int.min_eq_left d] at eo
  subst eo
  refine ⟨by omega,d,by omega,fun _=>by omega⟩
 ·rw [Int.min_eq_right (by omega)] at eo
  subst eo
  refine ⟨by decide,by decide,by omega,fun h=>absurd h (by decide)⟩
theorem zjG {x d q r:Int} (e:x=r+d*q) (r0:0≤r) (r1:r<d):x / d=q:=by
 rw [e,Int.add_mul_ediv_left _ _ (by omega),Int.ediv_eq_zero_of_lt r0 r1,Int.zero_add]
theorem zku {R h f o:Int} (h0:0≤h) (h3:h≤3) (f0:0≤f) (f1:f≤24) (o0:0≤o) (o3:o≤3):ahead (R*400+h*100+f*4+o+1)=146097*R+36524*h+1461*f+365*o:=by
 unfold ahead
 rw [Int.add_sub_cancel,zjG (d:=4) (q:=100*R+25*h+f) (r:=o) (by clear h0 h3 f0 f1 o0 o3;omega) o0 (by omega),
  zjG (d:=100) (q:=4*R+h) (r:=f*4+o) (by clear h0 h3 f0 f1 o0 o3;omega) (by clear h0 h3;omega) (by clear h0 h3;omega),
  zjG (d:=400) (q:=R) (r:=h*100+f*4+o) (by clear h0 h3 f0 f1 o0 o3;omega) (by omega) (by omega)]
 clear h0 h3 f0 f1 o0 o3
 omega
theorem zl6 (R h f:Int):146097*R+36524*h+1461*f+1460<146097*R+36524*h+1461*f+365*3+365+1:=by omega
theorem yearOf_spec {n:Int} (h0:0≤n) (h1:n≤3652058):1≤yearOf n∧yearOf n≤9999∧ahead (yearOf n)≤n∧n<ahead (yearOf n)+365+lp (yearOf n):=by
 have a0:=Int.emod_nonneg n (by decide:(146097:Int)≠0)
 have a1:=Int.emod_lt_of_pos n (by decide:(0:Int)<146097)
 have en:=Int.emod_add_mul_ediv n 146097
 obtain ⟨H,eh⟩: ∃h,h=min (n % 146097 / 36524) 3:=⟨_,rfl⟩
 obtain ⟨b,eb⟩: ∃b,b=n % 146097 - H*36524:=⟨_,rfl⟩
 obtain ⟨o,eo⟩: ∃o,o=min (b % 1461 / 365) 3:=⟨_,rfl⟩
 have ey:yearOf n=n / 146097*400+H*100+b / 1461*4+o+1:=by
  rw [eo,eb,eh];rfl
 obtain ⟨p1,p2,p3,p4,p5⟩:=zmv a0 a1 eh eb
 obtain ⟨r1,r2,r3,r4,r5⟩:=zmw p3 p4 rfl rfl
 obtain ⟨t1,t2,t3,t4⟩:=zmx r3 eo
 rw [ey,zku p1 p2 r1 r2 t1 t2]
 clear ey eo eh
 generalize n / 146097=R at*
 generalize n % 146097=a at*
 generalize b / 1461=f at*
 generalize b % 1461=c at*
 have R0:0≤R:=by clear p1 p2 p3 p4 p5 r1 r2 r3 r4 r5 t1 t2 t3 t4 eb;omega
 have R1:R≤24:=by clear p1 p2 p3 p4 p5 r1 r2 r3 r4 r5 t1 t2 t3 t4 eb;omega
 have e2:n=146097*R+36524*H+1461*f+c:=by clear p1 p2 p3 p4 p5 r1 r2 r3 r4 t1 t2 t3 t4;omega
 clear h0 a0 a1 en eb p3 p4
 have l:=(lp_01 (R*400+H*100+f*4+o+1)).1
 refine ⟨by clear h1 e2 t3 t4 r5 p5 l R1 p2 r2 t2 r3 r4;omega,by clear R0 p1 r1 t1 l t4 p5 r5 r3 r4;omega,by rw [e2];exact Int.add_le_add_left t3 _,?_⟩
 clear h1
 by_cases z:o<3
 ·have:=t4 z
  clear t4 p5 p1 p2 r1 r2
  omega
 ·by_cases z2:c<1460
  ·clear t4 p5 p1 p2 r1 r2
   omega
  ·obtain rfl:o=3:=Int.le_antisymm t2 (Int.not_lt.mp z)
   have c0:c=1460:=by clear p5 e2 r5 t3 t4;omega
   by_cases z3:f<24
   ·rw [zl5 r1 z3,e2,c0]
    exact zl6 R H f
   ·obtain rfl:f=24:=Int.le_antisymm r2 (Int.not_lt.mp z3)
    obtain rfl:H=3:=by
     rcases Int.lt_or_le H 3 with d|d
     ·have:=p5 d
      clear p5 t4;omega
     ·exact Int.le_antisymm p2 d
    rw [zlt,e2,c0]
    exact zl6 R 3 24
theorem zeD {y r:Int} (h0:0≤r): ∀k:Nat,k<13→r<cum y ((k:Int)+1)→ ∃m,1≤m∧m≤12∧cum y m≤r∧r<cum y m+dim y m
 |0,_,h=>by
  have e:cum y (((0:Nat):Int)+1)=0:=rfl
  omega
 |k+1,hk,h=>by
  by_cases c:r<cum y ((k:Int)+1)
  ·exact zeD h0 k (by omega) c
  ·have s:=cum_succ (y:=y) (m:=(k:Int)+1) (by omega) (by omega)
   have e:((k+1:Nat):Int)+1=(k:Int)+1+1:=by omega
   rw [e,s] at h
   exact ⟨(k:Int)+1,by omega,by omega,by omega,h⟩
theorem zgj {y r:Int} (h0:0≤r) (h1:r<365+lp y): ∃m,1≤m∧m≤12∧cum y m≤r∧r<cum y m+dim y m:=
 zeD h0 12 (by decide) (by
                  have e:cum y (((12:Nat):Int)+1)=365+lp y:=cum_13 y
                  omega)
theorem date_exists {n:Int} (h0:0≤n) (h1:n≤3652058): ∃y m d,Valid y m d∧num y m d=n:=by
 obtain ⟨a,b,c,d⟩:=yearOf_spec h0 h1
 obtain ⟨m,m1,m2,m3,m4⟩:=zgj (y:=yearOf n) (r:=n - ahead (yearOf n)) (by omega) (by omega)
 exact ⟨yearOf n,m,n - ahead (yearOf n) - cum (yearOf n) m+1,⟨a,b,m1,m2,by omega,by omega⟩,by unfold num;omega⟩
end Cal
namespace Cal
end Cal
namespace Cal
def MonOk (y m k:Int):Prop:=1≤(y*12+m - 1+k) / 12∧(y*12+m - 1+k) / 12≤9999
def monY (y m k:Int):Int:=(y*12+m - 1+k) / 12
def monM (y m k:Int):Int:=(y*12+m - 1+k) % 12+1
def monD (y m d k:Int):Int:=if dim (monY y m k) (monM y m k)<d then dim (monY y m k) (monM y m k) else d
theorem mon_valid {y m d k:Int} (h:Valid y m d) (g:MonOk y m k):Valid (monY y m k) (monM y m k) (monD y m d k):=by
 obtain ⟨_,_,_,_,h5,h6⟩:=h
 obtain ⟨g1,g2⟩:=g
 have b:=zfb (monY y m k) (monM y m k)
 refine ⟨g1,g2,by unfold monM;omega,by unfold monM;omega,?_,?_⟩
 ·unfold monD;split<;>omega
 ·unfold monD;split<;>omega
end Cal
namespace Cal
theorem zlu {y m d z k e:Int} (h:Valid y m d) (g:Valid z k e) (q:y*12+m<z*12+k):num y m d<num z k e:=by
 have a:=zdQ h
 have b:=zdQ g
 obtain ⟨h1,h2,h3,h4,h5,h6⟩:=h
 obtain ⟨g1,g2,g3,g4,g5,g6⟩:=g
 unfold num
 by_cases c:y<z
 ·have:=zdq c
  omega
 ·obtain rfl:y=z:=by omega
  have:=zel (y:=y) h3 (show m<k by omega) (by omega)
  omega
theorem zkv {y m d:Int} (h:Valid y m d) (g:num y m d≤3500000):y≤9600:=by
 have a:=zdQ h
 unfold num at g
 unfold ahead at g
 omega
theorem mon_ok {y m d k:Int} (h:Valid y m d) (g:num y m d≤3500000) (k0:0≤k) (k1:k≤720):MonOk y m k:=by
 have:=zkv h g
 obtain ⟨h1,h2,h3,h4,h5,h6⟩:=h
 exact ⟨by omega,by omega⟩
open Classical in
noncomputable def mon (n k:Int):Int:=
 if h: ∃p:Int×Int×Int,Valid p.1 p.2.1 p.2.2∧num p.1 p.2.1 p.2.2=n then
  num (monY (choose h).1 (choose h).2.1 k) (monM (choose h).1 (choose h).2.1 k) (monD (choose h).1 (choose h).2.1 (choose h).2.2 k) else 0
theorem mon_eq {y m d k:Int} (h:Valid y m d):mon (num y m d) k=num (monY y m k) (monM y m k) (monD y m d k):=by
 have ex: ∃p:Int×Int×Int,Valid p.1 p.2.1 p.2.2∧num p.1 p.2.1 p.2.2=num y m d:=⟨(y,m,d),h,rfl⟩
 unfold mon
 rw [dif_pos ex]
 obtain ⟨v,e⟩:=Classical.choose_spec ex
 obtain ⟨e1,e2,e3⟩:=num_inj v h e
 rw [e1,e2,e3]
theorem zjH {n:Int} (h0:0≤n) (h1:n≤3652058):mon n 0=n:=by
 obtain ⟨y,m,d,va,rfl⟩:=date_exists h0 h1
 rw [mon_eq va]
 obtain ⟨v1,v2,v3,v4,v5,v6⟩:=id va
 have e1:monY y m 0=y:=by unfold monY;omega
 have e2:monM y m 0=m:=by unfold monM;omega
 have e3:monD y m d 0=d:=by unfold monD;rw [e1,e2,if_neg (by omega)]
 rw [e1,e2,e3]
theorem zhy {n k:Int} (h0:0≤n) (h1:n≤3500000) (k0:0≤k) (k1:k≤720):0≤mon n k∧mon n k≤3652058:=by
 obtain ⟨y,m,d,va,rfl⟩:=date_exists h0 (by omega)
 rw [mon_eq va]
 exact num_range (mon_valid va (mon_ok va h1 k0 k1))
theorem zlv {n k j:Int} (h0:0≤n) (h1:n≤3500000) (k0:0≤k) (kj:k<j) (j1:j≤720):mon n k<mon n j:=by
 obtain ⟨y,m,d,va,rfl⟩:=date_exists h0 (by omega)
 rw [mon_eq va,mon_eq va]
 refine zlu (mon_valid va (mon_ok va h1 k0 (by omega))) (mon_valid va (mon_ok va h1 (by omega) j1)) ?_
 unfold monY monM
 omega
noncomputable def beg (f:Int) (dy:Bool) (c k:Int):Int:=if dy=true then f+k*c else mon f (k*c)
def CycOk (dy:Bool) (c:Int):Prop:=1≤c∧c≤if dy=true then 400 else 12
theorem beg_zero {f c:Int} {dy:Bool} (h0:0≤f) (h1:f≤3500000):beg f dy c 0=f:=by
 unfold beg
 rw [Int.zero_mul]
 split
 ·omega
 ·exact zjH h0 (by omega)
theorem mul_bound {c k:Int} (c0:1≤c) (c1:c≤12) (k0:0≤k) (k1:k≤60):0≤k*c∧k*c≤720:=by
 constructor
 ·exact Int.mul_nonneg k0 (by omega)
 ·have:=Int.mul_le_mul k1 c1 (by omega) (by omega)
  omega
theorem beg_lt {f c k j:Int} {dy:Bool} (h0:0≤f) (h1:f≤3500000) (hc:CycOk dy c) (k0:0≤k) (kj:k<j) (j1:j≤60):beg f dy c k<beg f dy c j:=by
 obtain ⟨c0,c1⟩:=hc
 have m:=Int.mul_lt_mul_of_pos_right kj (show 0<c by omega)
 unfold beg
 cases dy with
 |true=>rw [if_pos rfl,if_pos rfl];omega
 |false=>
  rw [if_neg (by decide)] at c1
  rw [if_neg (by decide),if_neg (by decide)]
  exact zlv h0 h1 (mul_bound c0 c1 k0 (by omega)).1 m (mul_bound c0 c1 (by omega) j1).2
theorem beg_range {f c k:Int} {dy:Bool} (h0:0≤f) (h1:f≤3500000) (hc:CycOk dy c) (k0:0≤k) (k1:k≤60):0≤beg f dy c k∧beg f dy c k≤3652058:=by
 obtain ⟨c0,c1⟩:=hc
 unfold beg
 cases dy with
 |true=>
  rw [if_pos rfl] at c1
  rw [if_pos rfl]
  have a:=Int.mul_nonneg k0 (show 0≤c by omega)
  have b:=Int.mul_le_mul k1 c1 (by omega) (by omega)
  omega
 |false=>
  rw [if_neg (by decide)] at c1
  rw [if_neg (by decide)]
  obtain ⟨m0,m1⟩:=mul_bound c0 c1 k0 k1
  exact zhy h0 h1 m0 m1
theorem cyc_days {c:Int} (a:1≤c) (b:c≤400):CycOk true c:=⟨a,by rw [if_pos rfl];exact b⟩
theorem cyc_months {c:Int} (a:1≤c) (b:c≤12):CycOk false c:=⟨a,by rw [if_neg (by decide)];exact b⟩
theorem beg_le {f c k j:Int} {dy:Bool} (h0:0≤f) (h1:f≤3500000) (hc:CycOk dy c) (k0:0≤k) (kj:k≤j) (j1:j≤60):beg f dy c k≤beg f dy c j:=by
 by_cases e:k=j
 ·rw [e];exact Int.le_refl _
 ·exact Int.le_of_lt (beg_lt h0 h1 hc k0 (by omega) j1)
theorem beg_ge {f c k:Int} {dy:Bool} (h0:0≤f) (h1:f≤3500000) (hc:CycOk dy c) (k0:0≤k) (k1:k≤60):f≤beg f dy c k:=by
 have:=beg_le h0 h1 hc (Int.le_refl 0) k0 k1
 rw [beg_zero h0 h1] at this
 exact this
theorem beg_one {f c k j d:Int} {dy:Bool} (h0:0≤f) (h1:f≤3500000) (hc:CycOk dy c) (k0:0≤k) (k1:k<60) (j0:0≤j) (j1:j<60) (a:beg f dy c k≤d) (b:d<beg f dy c (k+1)) (a':beg f dy c j≤d) (b':d<beg f dy c (j+1)):k=j:=by
 rcases Int.lt_trichotomy k j with q|q|q
 ·have:=beg_le (k:=k+1) (j:=j) h0 h1 hc (by omega) (by omega) (by omega)
  omega
 ·exact q
 ·have:=beg_le (k:=j+1) (j:=k) h0 h1 hc (by omega) (by omega) (by omega)
  omega
end Cal
namespace L2
open PySem
abbrev Rt:=Nat×Int×Int×D
def Bst (rs:List Rt) (day:Int) (kd:Nat):Option Rt→Prop
 |none=> ∀t∈rs,t.1=kd→day<t.2.1
 |some t=>t∈rs∧t.1=kd∧t.2.1≤day∧ ∀u∈rs,u.1=kd→u.2.1≤day→u.2.2.1≤t.2.2.1
section
variable {rs rs':List Rt} {day:Int} {kd:Nat} {o o':Option Rt} {r t:Rt}
theorem Bst.one (inj: ∀t∈rs,∀u∈rs,t.2.2.1=u.2.2.1→t=u) (m: ∀t,t∈rs'↔t∈rs) (h:Bst rs day kd o) (h':Bst rs' day kd o'):o=o':=by
 match o,o',h,h' with
 |none,none,_,_=>rfl
 |none,some t,h,h'=>have:=h t ((m t).mp h'.1) h'.2.1;have:=h'.2.2.1;omega
 |some t,none,h,h'=>have:=h' t ((m t).mpr h.1) h.2.1;have:=h.2.2.1;omega
 |some t,some u,h,h'=>
  have a:=h.2.2.2 u ((m u).mp h'.1) h'.2.1 h'.2.2.1
  have b:=h'.2.2.2 t ((m t).mpr h.1) h.2.1 h.2.2.1
  rw [inj t h.1 u ((m u).mp h'.1) (by omega)]
theorem Bst.skip (h:Bst rs day kd o) (n:r.1=kd→day<r.2.1):Bst (rs++ [r]) day kd o:=by
 match o,h with
 |none,h=>
  intro t ht e
  rcases List.mem_append.mp ht with z|z
  ·exact h t z e
  ·rw [List.mem_singleton.mp z] at e ⊢;exact n e
 |some t,h=>
  refine ⟨List.mem_append_left _ h.1,h.2.1,h.2.2.1,fun u hu e l=> ?_⟩
  rcases List.mem_append.mp hu with z|z
  ·exact h.2.2.2 u z e l
  ·rw [List.mem_singleton.mp z] at e l;have:=n e;omega
theorem Bst.last (h:Bst rs day kd o) (e:r.1=kd) (l:r.2.1≤day) (b: ∀t,o=some t→t.2.2.1≤r.2.2.1):Bst (rs++ [r]) day kd (some r):=by
 refine ⟨List.mem_append_right _ List.mem_cons_self,e,l,fun u hu eu lu=> ?_⟩
 rcases List.mem_append.mp hu with z|z
 ·match o,h with
  |none,h=>have:=h u z eu;omega
  |some t,h=>
   have a:=h.2.2.2 u z eu lu
   have:=b t rfl
   omega
 ·rw [List.mem_singleton.mp z];exact Int.le_refl _
theorem Bst.stay (h:Bst rs day kd (some t)) (b:r.2.2.1≤t.2.2.1):Bst (rs++ [r]) day kd (some t):=by
 refine ⟨List.mem_append_left _ h.1,h.2.1,h.2.2.1,fun u hu e l=> ?_⟩
 rcases List.mem_append.mp hu with z|z
 ·exact h.2.2.2 u z e l
 ·rw [List.mem_singleton.mp z];exact b
theorem Bst.more (h:Bst rs day kd o) (s: ∀t∈rs,t∈rs') (n: ∀t∈rs',t∉rs→day<t.2.1):Bst rs' day kd o:=by
 match o,h with
 |none,h=>
  intro t ht e
  by_cases z:t∈rs
  ·exact h t z e
  ·exact n t ht z
 |some t,h=>
  refine ⟨s t h.1,h.2.1,h.2.2.1,fun u hu e l=> ?_⟩
  by_cases z:u∈rs
  ·exact h.2.2.2 u z e l
  ·have:=n u hu z;omega
end
def stV (o:Option Rt) (d:D):D:=(o.map fun t=>t.2.2.2).getD d
def chK:Ch→Nat
 | .plan _ _=>0
 | .seats _ _=>1
 |_=>2
def zaA:Ch→Int
 | .plan d _=>d
 | .seats d _=>d
 | .word _ d=>d
 |_=>0
def zeE:Nat→List Nat
 |0=> [104,101,108,100]
 |1=> [111,110]
 |_=> [111,102,102]
def zem:Ch→D
 | .plan _ nm=> .str nm
 | .seats _ n=> .int n
 | .word w _=> .str (zeE w)
 |_=> .non
def zjI:Ch→Bool
 | .word w _=>decide (3≤w)
 |_=>false
def kv4:List (Key×V):= [(Sum.inr (SL [104,111,108,100]), .str (SL [104,101,108,100])),(Sum.inr (SL [103,111]), .str (SL [111,110])),(Sum.inr (SL [115,116,111,112]), .str (SL [111,102,102])),(Sum.inr (SL [108,97,115,116]), .str (SL [111,102,102]))]
theorem km4:zew [] kv4=kv4:=rfl
theorem zl7 {w:Nat} (h:w<4):zcF kv4 (Sum.inr (SL (zcD w)))=some (.str (SL (zeE w))):=by
 match w,h with
 |0,_=>rfl
 |1,_=>rfl
 |2,_=>rfl
 |3,_=>rfl
noncomputable def nb (f:Int) (dy:Bool) (c d:Int):Int:=open Classical in if h: ∃k:Int,0≤k∧k<60∧Cal.beg f dy c k≤d∧d<Cal.beg f dy c (k+1) then Cal.beg f dy c (h.choose+1) else 0
theorem zjJ {f c d k:Int} {dy:Bool} (f0:0≤f) (f1:f≤3500000) (hc:Cal.CycOk dy c) (k0:0≤k) (k1:k<60) (a:Cal.beg f dy c k≤d) (b:d<Cal.beg f dy c (k+1)):nb f dy c d=Cal.beg f dy c (k+1):=by
 unfold nb
 have h: ∃k:Int,0≤k∧k<60∧Cal.beg f dy c k≤d∧d<Cal.beg f dy c (k+1):=⟨k,k0,k1,a,b⟩
 rw [dif_pos h]
 obtain ⟨x1,x2,x3,x4⟩:=h.choose_spec
 rw [Cal.beg_one f0 f1 hc x1 x2 k0 k1 x3 x4 a b]
noncomputable def cntF (f:Int) (dy:Bool) (c:Int) (ch:Ch):Int:=if zjI ch=true then nb f dy c (zaA ch) else zaA ch
noncomputable def rtF (f:Int) (dy:Bool) (c:Int) (n:Int) (ch:Ch):Rt:=(chK ch,cntF f dy c ch,(cntF f dy c ch*4000000+zaA ch)*64+n,zem ch)
end L2
namespace L2
open PySem
section
variable {rs rs':List Rt} {day d2:Int} {kd:Nat} {o:Option Rt}
theorem Bst.mem (m: ∀t,t∈rs'↔t∈rs) (h:Bst rs day kd o):Bst rs' day kd o:=by
 match o,h with
 |none,h=>exact fun t ht=>h t ((m t).mp ht)
 |some t,h=>exact ⟨(m t).mpr h.1,h.2.1,h.2.2.1,fun u hu=>h.2.2.2 u ((m u).mp hu)⟩
theorem Bst.on (h:Bst rs day kd o) (le:day≤d2) (n: ∀t∈rs,t.2.1≤day∨d2<t.2.1):Bst rs d2 kd o:=by
 match o,h with
 |none,h=>intro t ht e;have:=h t ht e;rcases n t ht with z|z<;>omega
 |some t,h=>exact ⟨h.1,h.2.1,by have:=h.2.2.1;omega,fun u hu e l=>h.2.2.2 u hu e (by rcases n u hu with z|z<;>omega)⟩
end
abbrev Rw:=Int×Int×List D
def Rws (G:Int→List D):Int→List Rw→Int→Prop
 |b, [],e=>b=e
 |b,x::r,e=>x.1=b∧b<x.2.1∧(∀d,b≤d→d<x.2.1→G d=x.2.2)∧(∀y,r.head? =some y→x.2.2≠y.2.2)∧Rws G x.2.1 r e
theorem Rws.le {G:Int→List D}: ∀{xs:List Rw} {b e:Int},Rws G b xs e→b≤e
 | [],_,_,h=>Int.le_of_eq h
 |x::r,b,e,h=>by have:=Rws.le h.2.2.2.2;have:=h.2.1;omega
theorem Rws.snoc {G:Int→List D} {z:Rw}: ∀{xs:List Rw} {b o:Int},Rws G b xs o→z.1=o→o<z.2.1→(∀d,o≤d→d<z.2.1→G d=z.2.2)→(∀x,xs.getLast? =some x→x.2.2≠z.2.2)→Rws G b (xs++ [z]) z.2.1
 | [],b,o,h,h1,h2,h3,_=>by
  obtain rfl:b=o:=h
  exact ⟨h1,h2,h3,(fun _ h=>nomatch h),rfl⟩
 |x::r,b,o,h,h1,h2,h3,h4=>by
  refine ⟨h.1,h.2.1,h.2.2.1,fun y hy=> ?_,Rws.snoc h.2.2.2.2 h1 h2 h3 fun y hy=>h4 y ?_⟩
  ·cases r with
   |nil=>cases hy;exact h4 x rfl
   |cons y' r'=>exact h.2.2.2.1 y hy
  ·cases r with
   |nil=>cases hy
   |cons a b=>rw [List.getLast?_cons_cons];exact hy
theorem Rws.in {G:Int→List D}: ∀{zs:List (Addr×Rw)} {b e:Int} {j:Nat} {z:Addr×Rw},zs[j]? =some z→Rws G b (zs.map (·.2)) e→b≤z.2.1∧z.2.1<z.2.2.1∧z.2.2.1≤e
 | [],_,_,_,_,h,_=>by rw [List.getElem?_nil] at h;cases h
 |x::r,b,e,0,_,h,g=>by
  cases h
  obtain ⟨h1,h2,_,_,h5⟩:=g
  have h1':x.2.1=b:=h1
  have h2':b<x.2.2.1:=h2
  exact ⟨by omega,by omega,Rws.le h5⟩
 |x::r,b,e,j+1,z,h,g=>by
  obtain ⟨h1,h2,_,_,h5⟩:=g
  have h2':b<x.2.2.1:=h2
  obtain ⟨i1,i2,i3⟩:=Rws.in (zs:=r) (j:=j) h h5
  have i1':x.2.2.1≤z.2.1:=i1
  exact ⟨by omega,i2,i3⟩
def ScD (d:D):Prop:=d= .non∨(∃i,d= .int i)∨ ∃cs,d= .str cs
theorem zl8 {K:PySem.W.Frag} {H:Hp} {n:Nat} {d:D} (h:ScD d):Dp K H n d (sv d):=by
 rcases h with rfl|⟨i,rfl⟩|⟨cs,rfl⟩
 ·exact zlk
 ·exact zhl
 ·exact zf8
def StD (d:List D):Prop:= ∃d0 n wd,ScD d0∧d= [d0, .int n, .str wd]
theorem StD.dp {K:PySem.W.Frag} {H:Hp} {n:Nat} {a:Addr} {d:List D} (h:StD d) (e:H a=some (.tup (d.map sv))):Dp K H (n+1) (.tup d) (.ref a):=by
 obtain ⟨d0,n,wd,h0,rfl⟩:=h
 exact zhk (SqT.of e) ⟨zl8 h0,zhl,zf8,trivial⟩
theorem sc_seq {d:D} (h:ScD d):zeY d=false:=by rcases h with rfl|⟨i,rfl⟩|⟨cs,rfl⟩<;>rfl
theorem zlw {d e:D} (h:ScD d) (g:ScD e):zcG 0 d e:=by
 unfold zcG
 exact ⟨sc_seq h,sc_seq g⟩
theorem StD.sc {d:List D} (h:StD d): ∀x∈d,ScD x:=by
 obtain ⟨d0,n,wd,h0,rfl⟩:=h
 intro x hx
 simp only [List.mem_cons,List.not_mem_nil,or_false] at hx
 rcases hx with rfl|rfl|rfl
 ·exact h0
 ·exact .inr (.inl ⟨_,rfl⟩)
 ·exact .inr (.inr ⟨_,rfl⟩)
theorem StD.cmp {d e:List D} (h:StD d) (g:StD e):zcG 1 (.tup d) (.tup e):=by
 unfold zcG
 intro j x y hx hy
 exact zlw (h.sc x (List.mem_of_getElem? hx)) (g.sc y (List.mem_of_getElem? hy))
theorem zgk {d e:D} (h:ScD d) (g:ScD e):eqb 0 d e=true↔d=e:=by
 rcases h with rfl|⟨i,rfl⟩|⟨cs,rfl⟩<;>rcases g with rfl|⟨j,rfl⟩|⟨cs',rfl⟩<;>unfold eqb<;>simp
theorem StD.eqb {d e:List D} (h:StD d) (g:StD e):eqb 1 (.tup d) (.tup e)=true↔d=e:=by
 obtain ⟨d0,n,wd,h0,rfl⟩:=h
 obtain ⟨e0,m,we,g0,rfl⟩:=g
 show (L2.eqb 0 d0 e0 && (L2.eqb 0 (.int n) (.int m) && (L2.eqb 0 (.str wd) (.str we) && true)))=true↔_
 rw [Bool.and_eq_true,Bool.and_eq_true,Bool.and_eq_true,zgk h0 g0,zgk (.inr (.inl ⟨_,rfl⟩)) (.inr (.inl ⟨_,rfl⟩)),zgk (.inr (.inr ⟨_,rfl⟩)) (.inr (.inr ⟨_,rfl⟩))]
 simp
def zhz (H:Hp) (z:Addr×Rw):Prop:= ∃s,H z.1=some (.tup [.int z.2.1, .int z.2.2.1, .ref s])∧H s=some (.tup (z.2.2.2.map sv))∧StD z.2.2.2
def zfS (H:Hp) (r:Addr) (zs:List (Addr×Rw)):Prop:=H r=some (.lst (zs.map fun z=>V.ref z.1))∧ ∀z∈zs,zhz H z
theorem zhz.same {H H':Hp} {z:Addr×Rw} (h:zhz H z) (s:zao H H'):zhz H' z:=let ⟨a,h1,h2,h3⟩:=h;⟨a,s _ _ h1,s _ _ h2,h3⟩
theorem zhz.put {H:Hp} {z:Addr×Rw} {l:Addr} {xs ys:List V} (h:zhz H z) (e:H l=some (.lst xs)):zhz (upd H l (.lst ys)) z:=by
 obtain ⟨a,h1,h2,h3⟩:=h
 refine ⟨a,?_,?_,h3⟩
 ·rw [zau (fun y=>by rw [y,e] at h1;cases h1)];exact h1
 ·rw [zau (fun y=>by rw [y,e] at h2;cases h2)];exact h2
theorem zfS.same {H H':Hp} {r:Addr} {zs:List (Addr×Rw)} (h:zfS H r zs) (s:zao H H'):zfS H' r zs:=⟨s _ _ h.1,fun z hz=>(h.2 z hz).same s⟩
theorem zao.none {H H':Hp} {a:Addr} (s:zao H H') (h:H' a=none):H a=none:=by
 rcases hh:H a with _|o
 ·rfl
 ·rw [s _ _ hh] at h;cases h
end L2
namespace L2
open PySem
abbrev Row:=Int×Int×Int×Ch
def rLt (r s:Row):Prop:=r.1<s.1∨r.1=s.1∧(r.2.1<s.2.1∨r.2.1=s.2.1∧r.2.2.1<s.2.2.1)
def rc (r:Row):Int×Ch:=(r.1,r.2.2.2)
def zc0:Ch→Bool
 | .grant _=>true
 | .back=>true
 |_=>false
theorem zhA (c:Ch) (h:zc0 c=true):zbs c=false:=by cases c<;>first|rfl|cases h
theorem zkw (c:Ch):decide (chW c∈ [[103,114,97,110,116], [98,97,99,107]])=zc0 c:=by
 cases c with
 |plan=>rfl
 |seats=>rfl
 |word w _=>
  match w with
  |0=>rfl
  |1=>rfl
  |2=>rfl
  |n+3=>rfl
 |undo=>rfl
 |grant=>rfl
 |back=>rfl
def ce (z:En):Int×Ch:=(z.2.2.1,z.2.2.2)
def zfc (cs:List Ch) (gs:List Int) (i:Nat):Option Row:=match cs[i]? with
 |some c=>if (zbs c && !decide ((i:Int)∈gs))=true then some (zaA c,0,i,c) else none
 |none=>none
def zdI (es:List (Int×Ch)) (i:Nat):Option Row:=match es[i]? with
 |some e=>if zc0 e.2=true then some (e.1,1,i,e.2) else none
 |none=>none
def zgU (es:List (Int×Ch)) (i:Nat):Option Row:=match zdI es i with
 |some r=>some r
 |none=>zfc (es.map (·.2)) (zaO (es.map (·.2))) i
def zjK (es:List (Int×Ch)) (n:Nat):List Row:=(List.range n).filterMap (zgU es)
def zgV (es:List (Int×Ch)):List Row:=zjK es es.length
theorem zdt {α β:Type} {f g h:α→Option β} (hh: ∀x,(f x=g x∧h x=none)∨(f x=h x∧g x=none)): ∀l:List α,(l.filterMap f).Perm (l.filterMap g++l.filterMap h)
 | []=> .refl _
 |x::l=>by
  have ih:=zdt hh l
  rcases hh x with ⟨e1,e2⟩|⟨e1,e2⟩
  ·cases q:g x with
   |none=>simp only [List.filterMap_cons,e1,e2,q];exact ih
   |some y=>simp only [List.filterMap_cons,e1,e2,q,List.cons_append];exact ih.cons y
  ·cases q:h x with
   |none=>simp only [List.filterMap_cons,e1,e2,q];exact ih
   |some y=>
    simp only [List.filterMap_cons,e1,e2,q]
    exact (ih.cons y).trans List.perm_middle.symm
def usR (es:List (Int×Ch)):List Row:=(List.range es.length).filterMap (zfc (es.map (·.2)) (zaO (es.map (·.2))))++(List.range es.length).filterMap (zdI es)
theorem zie (es:List (Int×Ch)):(zgV es).Perm (usR es):=by
 refine zdt (fun i=> ?_) _
 unfold zgU
 cases q:zdI es i with
 |none=>exact .inl ⟨rfl,rfl⟩
 |some r=>
  refine .inr ⟨rfl,?_⟩
  unfold zdI at q
  unfold zfc
  rw [List.getElem?_map]
  cases e:es[i]? with
  |none=>rw [e] at q;cases q
  |some x=>
   rw [e] at q
   dsimp only at q
   by_cases o:zc0 x.2=true
   ·show (if (zbs x.2 && _)=true then _ else _)=none
    rw [zhA _ o,Bool.false_and,if_neg (by decide)]
   ·rw [if_neg o] at q;cases q
theorem zen {cs:List Ch} {gs:List Int} {i:Nat} {r:Row} (h:zfc cs gs i=some r):r.2.1=0∧r.2.2.1=i∧r.1=zaA r.2.2.2∧cs[i]? =some r.2.2.2∧zbs r.2.2.2=true∧(i:Int)∉gs:=by
 unfold zfc at h
 cases e:cs[i]? with
 |none=>rw [e] at h;cases h
 |some c=>
  rw [e] at h
  dsimp only at h
  by_cases o:(zbs c && !decide ((i:Int)∈gs))=true
  ·rw [if_pos o] at h
   cases h
   rw [Bool.and_eq_true] at o
   exact ⟨rfl,rfl,rfl,rfl,o.1,by simpa using o.2⟩
  ·rw [if_neg o] at h;cases h
theorem zeL {es:List (Int×Ch)} {i:Nat} {r:Row} (h:zdI es i=some r):r.2.1=1∧r.2.2.1=i∧es[i]? =some (rc r)∧zc0 r.2.2.2=true:=by
 unfold zdI at h
 cases e:es[i]? with
 |none=>rw [e] at h;cases h
 |some c=>
  rw [e] at h
  dsimp only at h
  by_cases o:zc0 c.2=true
  ·rw [if_pos o] at h
   cases h
   exact ⟨rfl,rfl,rfl,o⟩
  ·rw [if_neg o] at h;cases h
theorem zif {β:Type} {f:Nat→Option β} {R:β→β→Prop} (hr: ∀i j x y,i<j→f i=some x→f j=some y→R x y) (n:Nat):((List.range n).filterMap f).Pairwise R:=by
 rw [List.pairwise_filterMap]
 exact List.pairwise_lt_range.imp fun {i j} hij x hx y hy=>hr i j x y hij hx hy
theorem zkx (es:List (Int×Ch)):(usR es).Pairwise fun r s=>r.2.1<s.2.1∨r.2.1=s.2.1∧r.2.2.1<s.2.2.1:=by
 unfold usR
 rw [List.pairwise_append]
 refine ⟨zif (fun i j x y hij hx hy=> ?_) _,zif (fun i j x y hij hx hy=> ?_) _,fun x hx y hy=> ?_⟩
 ·have a:=zen hx
  have b:=zen hy
  exact .inr ⟨by omega,by omega⟩
 ·have a:=zeL hx
  have b:=zeL hy
  exact .inr ⟨by omega,by omega⟩
 ·obtain ⟨i,_,hi⟩:=List.mem_filterMap.mp hx
  obtain ⟨j,_,hj⟩:=List.mem_filterMap.mp hy
  have a:=zen hi
  have b:=zeL hj
  exact .inl (by omega)
def zgl (es:List (Int×Ch)) (so:List Row):Prop:=so.Perm (zgV es)∧so.Pairwise rLt
theorem zhB {es:List (Int×Ch)} {ix:List Nat} (h:zid ((usR es).map (·.1)) ix):zgl es (ix.map fun i=>(usR es).getD i (0,0,0, .back)):=by
 obtain ⟨h1,h2⟩:=h
 rw [List.length_map] at h1
 have kz: ∀i,i<(usR es).length→((usR es).map (·.1)).getD i 0=((usR es).getD i (0,0,0, .back)).1:=fun i hi=>by
  rw [List.getD_eq_getElem?_getD,List.getElem?_map,List.getD_eq_getElem?_getD,List.getElem?_eq_getElem hi]
  rfl
 refine ⟨?_,?_⟩
 ·have:=h1.map fun i=>(usR es).getD i (0,0,0, .back)
  rw [zcU] at this
  exact this.trans (zie es).symm
 ·rw [List.pairwise_map]
  refine h2.imp_of_mem fun {i j} hi hj hr=> ?_
  have li:=List.mem_range.mp (h1.mem_iff.mp hi)
  have lj:=List.mem_range.mp (h1.mem_iff.mp hj)
  rw [kz i li,kz j lj] at hr
  rcases hr with hr|⟨e,hij⟩
  ·exact .inl hr
  ·refine .inr ⟨e,?_⟩
   have:=List.pairwise_iff_getElem.mp (zkx es) i j li lj hij
   rw [List.getD_eq_getElem?_getD,List.getElem?_eq_getElem li,List.getD_eq_getElem?_getD,List.getElem?_eq_getElem lj]
   exact this
theorem zig {es:List (Int×Ch)} {i:Nat} {r:Row} (h:zgU es i=some r):r.2.2.1=i∧((r.2.1=1∧es[i]? =some (rc r)∧zc0 r.2.2.2=true)∨(r.2.1=0∧r.1=zaA r.2.2.2∧zbs r.2.2.2=true∧(es.map (·.2))[i]? =some r.2.2.2∧(i:Int)∉zaO (es.map (·.2)))):=by
 unfold zgU at h
 cases q:zdI es i with
 |none=>
  rw [q] at h
  have a:=zen h
  exact ⟨a.2.1, .inr ⟨a.1,a.2.2.1,a.2.2.2.2.1,a.2.2.2.1,a.2.2.2.2.2⟩⟩
 |some s=>
  rw [q] at h
  cases h
  have a:=zeL q
  exact ⟨a.2.1, .inl ⟨a.1,a.2.2.1,a.2.2.2⟩⟩
end L2
namespace L2
open PySem
theorem zgW (cs:List Ch) (gs:List Int): ∀n,((List.range n).filterMap (zfc cs gs)).map (fun r=>r.2.2.1)=zdv cs gs n
 |0=>rfl
 |n+1=>by
  rw [zdH,List.range_succ,List.filterMap_append,List.map_append,zgW cs gs n]
  congr 1
  unfold zfc
  cases e:cs[n]? with
  |none=>simp [List.filterMap_cons,e,zdd]
  |some c=>
   by_cases o:(zbs c && !decide ((n:Int)∈gs))=true
   ·rw [if_pos (show (zdd (some c) && _)=true from o)]
    simp only [List.filterMap_cons,e,if_pos o,List.filterMap_nil,List.map_cons,List.map_nil]
   ·rw [if_neg (show¬(zdd (some c) && _)=true from o)]
    simp only [List.filterMap_cons,e,if_neg o,List.filterMap_nil,List.map_nil]
theorem zhC {cs:List Ch} (ok:zbQ cs):zaQ cs=((List.range cs.length).filterMap (zfc cs (zaO cs))).map (fun r=>r.2.2.1):=by
 rw [zgW]
 have:=(zcI cs ok cs.length (Nat.le_refl _)).1
 rw [List.take_length] at this
 exact this
theorem zfT (es:List (Int×Ch)) (n:Nat):(List.range (n+1)).filterMap (zdI es)=(List.range n).filterMap (zdI es)++(zdI es n).toList:=by
 rw [List.range_succ,List.filterMap_append]
 cases q:zdI es n<;>simp [List.filterMap_cons,q]
end L2
namespace L2
open PySem
theorem zfU (es:List (Int×Ch)) (n:Nat):(zjK es n).length≤n:=by
 have:=List.length_filterMap_le (zgU es) (List.range n)
 rw [List.length_range] at this
 exact this
end L2
namespace L2
open PySem
end L2
namespace L2
open PySem
theorem zgm (day:Int) (kd:Nat): ∀rs:List Rt,∃o,Bst rs day kd o
 | []=>⟨none,fun t h=>nomatch h⟩
 |r::rs=>by
  obtain ⟨o,h⟩:=zgm day kd rs
  by_cases c:r.1=kd∧r.2.1≤day
  ·match o,h with
   |none,h=>
    refine ⟨some r,List.mem_cons_self,c.1,c.2,fun u hu e l=> ?_⟩
    rcases List.mem_cons.mp hu with rfl|z
    ·exact Int.le_refl _
    ·have:=h u z e;omega
   |some t,h=>
    by_cases le:t.2.2.1≤r.2.2.1
    ·refine ⟨some r,List.mem_cons_self,c.1,c.2,fun u hu e l=> ?_⟩
     rcases List.mem_cons.mp hu with rfl|z
     ·exact Int.le_refl _
     ·have:=h.2.2.2 u z e l;omega
    ·refine ⟨some t,List.mem_cons_of_mem _ h.1,h.2.1,h.2.2.1,fun u hu e l=> ?_⟩
     rcases List.mem_cons.mp hu with rfl|z
     ·omega
     ·exact h.2.2.2 u z e l
  ·refine ⟨o,?_⟩
   match o,h with
   |none,h=>
    intro t ht e
    rcases List.mem_cons.mp ht with rfl|z
    ·by_cases l:t.2.1≤day
     ·exact absurd ⟨e,l⟩ c
     ·omega
    ·exact h t z e
   |some t,h=>
    refine ⟨List.mem_cons_of_mem _ h.1,h.2.1,h.2.2.1,fun u hu e l=> ?_⟩
    rcases List.mem_cons.mp hu with rfl|z
    ·exact absurd ⟨e,l⟩ c
    ·exact h.2.2.2 u z e l
structure Iso (P:List (Rt×Rt)) (rs rs':List Rt):Prop where
 fst: ∀t,t∈rs↔ ∃p∈P,p.1=t
 snd: ∀t,t∈rs'↔ ∃p∈P,p.2=t
 kd: ∀p∈P,p.1.1=p.2.1
 day: ∀p∈P,p.1.2.1=p.2.2.1
 val: ∀p∈P,p.1.2.2.2=p.2.2.2.2
 ord: ∀p∈P,∀q∈P,p.1.2.2.1≤q.1.2.2.1→p.2.2.2.1≤q.2.2.2.1
 inj: ∀t∈rs',∀u∈rs',t.2.2.1=u.2.2.1→t=u
theorem Iso.best {P:List (Rt×Rt)} {rs rs':List Rt} (I:Iso P rs rs') {day:Int} {kd:Nat} {o o':Option Rt} (d:D) (h:Bst rs day kd o) (h':Bst rs' day kd o'):stV o d=stV o' d:=by
 match o,o',h,h' with
 |none,none,_,_=>rfl
 |none,some u,h,h'=>
  obtain ⟨p,hp,rfl⟩:=(I.snd u).mp h'.1
  have:=h p.1 ((I.fst _).mpr ⟨p,hp,rfl⟩) (by rw [I.kd p hp];exact h'.2.1)
  have e:=I.day p hp
  have:=h'.2.2.1
  omega
 |some t,none,h,h'=>
  obtain ⟨p,hp,rfl⟩:=(I.fst t).mp h.1
  have:=h' p.2 ((I.snd _).mpr ⟨p,hp,rfl⟩) (by rw [←I.kd p hp];exact h.2.1)
  have e:=I.day p hp
  have:=h.2.2.1
  omega
 |some t,some u,h,h'=>
  obtain ⟨p,hp,rfl⟩:=(I.fst t).mp h.1
  obtain ⟨q,hq,rfl⟩:=(I.snd u).mp h'.1
  have a:=h.2.2.2 q.1 ((I.fst _).mpr ⟨q,hq,rfl⟩) (by rw [I.kd q hq];exact h'.2.1) (by rw [I.day q hq];exact h'.2.2.1)
  have b:=h'.2.2.2 p.2 ((I.snd _).mpr ⟨p,hp,rfl⟩) (by rw [←I.kd p hp];exact h.2.1) (by rw [←I.day p hp];exact h.2.2.1)
  have c:=I.ord q hq p hp a
  have e:=I.inj p.2 ((I.snd _).mpr ⟨p,hp,rfl⟩) q.2 ((I.snd _).mpr ⟨q,hq,rfl⟩) (by omega)
  show p.1.2.2.2=q.2.2.2.2
  rw [I.val p hp,e]
theorem zlx {f:Int} {dy:Bool} {c n m n' m':Int} {x y:Ch} (hn:0≤n∧n<64) (hm:0≤m∧m<64) (hn':0≤n'∧n'<64) (hm':0≤m'∧m'<64) (bx:0≤zaA x∧zaA x<4000000) (by_:0≤zaA y∧zaA y<4000000)
  (h:zaA x=zaA y→n≤m→n'≤m'):(rtF f dy c n x).2.2.1≤(rtF f dy c m y).2.2.1→(rtF f dy c n' x).2.2.1≤(rtF f dy c m' y).2.2.1:=by
 unfold rtF
 dsimp only
 intro g
 by_cases e:zaA x=zaA y
 ·have h':=h e
  by_cases e2:cntF f dy c x=cntF f dy c y
  ·rw [e2,e] at g ⊢
   omega
  ·omega
 ·omega
end L2
namespace K71
open PySem L2
seal L2.PE L2.PA L2.PS L2.PSs L2.PT L2.PW L2.PG L2.PGs L2.PI L2.PK L2.PO L2.PIf L2.PEt L2.PAt L2.PSt L2.PSst L2.PTt L2.PWt L2.PEm L2.PSm L2.PC
def top (i:Nat):Stmt:=PySem.Challenge.pw_paidspan_k71_late_is_in_time.main.body.getD i (.Pass ⟨0,0,0,0⟩)
abbrev s_00:Stmt:=top 14
abbrev s_01:Stmt:=top 15
abbrev s_02:Stmt:=top 16
abbrev s_03:Stmt:=top 17
abbrev s_04:Stmt:=top 18
abbrev s_05:Stmt:=top 19
abbrev s_06:Stmt:=top 20
abbrev s_07:Stmt:=top 23
abbrev s_08:Stmt:=top 24
abbrev s_09:Stmt:=top 26
abbrev s_0a:Stmt:=top 27
abbrev s_0b:Stmt:=top 29
abbrev s_0c:Stmt:=top 30
abbrev s_0d:Stmt:=top 31
abbrev s_0e:Stmt:=top 32
abbrev s_0f:Stmt:=top 34
abbrev s_0g:Stmt:=top 37
abbrev s_0h:Stmt:=top 38
abbrev s_0i:Stmt:=top 39
abbrev s_0j:Stmt:=top 40
abbrev s_0k:Stmt:=top 41
abbrev s_0l:Stmt:=top 43
abbrev s_0m:Stmt:=top 44
abbrev s_0n:Stmt:=top 45
abbrev s_0o:Stmt:=top 46
abbrev s_0p:Stmt:=top 47
abbrev s_0q:Stmt:=top 48
abbrev s_0r:Stmt:=top 49
abbrev s_0s:Stmt:=top 50
abbrev s_0t:Stmt:=top 55
abbrev s_0u:Stmt:=top 56
abbrev s_0v:Stmt:=top 57
abbrev s_0w:Stmt:=top 58
abbrev s_0x:Stmt:=top 59
abbrev s_0y:Stmt:=top 60
abbrev s_0z:Stmt:=top 61
abbrev s_10:Stmt:=top 62
abbrev s_11:Stmt:=top 63
abbrev s_12:Stmt:=top 65
abbrev s_13:Stmt:=top 67
abbrev s_14:Stmt:=top 68
abbrev s_15:Stmt:=top 69
abbrev s_16:Stmt:=top 70
abbrev s_17:Stmt:=top 71
abbrev s_18:Stmt:=top 72
abbrev s_19:Stmt:=top 73
abbrev s_1a:Stmt:=top 74
abbrev s_1b:Stmt:=top 75
abbrev s_1c:Stmt:=top 76
abbrev s_1d:Stmt:=top 77
abbrev s_1e:Stmt:=top 78
abbrev s_1f:Stmt:=top 79
theorem st_4:Str.ofString "months"=SL [109,111,110,116,104,115]:=by decide+kernel
theorem st_9:Str.ofString "last"=SL [108,97,115,116]:=by decide+kernel
theorem st_10:Str.ofString "on"=SL [111,110]:=by decide+kernel
theorem st_11:Str.ofString "plan"=SL [112,108,97,110]:=by decide+kernel
theorem st_12:Str.ofString "seats"=SL [115,101,97,116,115]:=by decide+kernel
theorem st_13:Str.ofString "grant"=SL [103,114,97,110,116]:=by decide+kernel
theorem st_14:Str.ofString "undo"=SL [117,110,100,111]:=by decide+kernel
theorem st_15:Str.ofString "back"=SL [98,97,99,107]:=by decide+kernel
theorem st_17:Str.ofString "abcdefghijklmnopqrstuvwxyz"=SL [97,98,99,100,101,102,103,104,105,106,107,108,109,110,111,112,113,114,115,116,117,118,119,120,121,122]:=by decide+kernel
theorem st_18:Str.ofString ""=SL []:=by decide+kernel
theorem st_19:Str.ofString "days"=SL [100,97,121,115]:=by decide+kernel
theorem st_20:Str.ofString "hold"=SL [104,111,108,100]:=by decide+kernel
theorem st_21:Str.ofString "go"=SL [103,111]:=by decide+kernel
theorem st_22:Str.ofString "stop"=SL [115,116,111,112]:=by decide+kernel
theorem st_23:Str.ofString "word"=SL [119,111,114,100]:=by decide+kernel
theorem st_24:Str.ofString "held"=SL [104,101,108,100]:=by decide+kernel
theorem st_25:Str.ofString "off"=SL [111,102,102]:=by decide+kernel
set_option genInjectivity false in
set_option genSizeOf false in
structure Adr where
 a_00:Addr
 d_00:FuncData
 a_01:Addr
 d_01:FuncData
 a_02:Addr
 d_02:FuncData
 a_03:Addr
 d_03:FuncData
 a_04:Addr
 d_04:FuncData
 a_05:Addr
 d_05:FuncData
 a_06:Addr
 d_06:FuncData
 a_07:Addr
 d_07:FuncData
 a_08:Addr
 d_08:FuncData
 a_09:Addr
 d_09:FuncData
 a_0a:Addr
 d_0a:FuncData
 a_0b:Addr
 d_0b:FuncData
 a_0c:Addr
 d_0c:FuncData
 a_0d:Addr
 d_0d:FuncData
 a_0e:Addr
 d_0e:FuncData
 a_0f:Addr
 d_0f:FuncData
 a_0g:Addr
 d_0g:FuncData
 a_0h:Addr
 d_0h:FuncData
 a_0i:Addr
 d_0i:FuncData
 a_0j:Addr
 d_0j:FuncData
 a_0k:Addr
 d_0k:FuncData
 a_0l:Addr
 d_0l:FuncData
 a_0m:Addr
 d_0m:FuncData
 a_0n:Addr
 d_0n:FuncData
 a_0o:Addr
 d_0o:FuncData
 a_0p:Addr
 d_0p:FuncData
 a_0q:Addr
 d_0q:FuncData
 a_0r:Addr
 d_0r:FuncData
 a_0s:Addr
 d_0s:FuncData
 a_0t:Addr
 d_0t:FuncData
 a_0u:Addr
 d_0u:FuncData
 a_0v:Addr
 d_0v:FuncData
 a_0w:Addr
 d_0w:FuncData
 a_0x:Addr
 d_0x:FuncData
 a_0y:Addr
 d_0y:FuncData
 a_0z:Addr
 d_0z:FuncData
 a_10:Addr
 d_10:FuncData
 a_11:Addr
 d_11:FuncData
 a_12:Addr
 d_12:FuncData
 k_12:Addr
 p_12:Addr
 a_13:Addr
 d_13:FuncData
 a_14:Addr
 d_14:FuncData
 a_15:Addr
 d_15:FuncData
 a_16:Addr
 d_16:FuncData
 a_17:Addr
 d_17:FuncData
 a_18:Addr
 d_18:FuncData
 a_19:Addr
 d_19:FuncData
 a_1a:Addr
 d_1a:FuncData
 a_1b:Addr
 d_1b:FuncData
 a_1c:Addr
 d_1c:FuncData
 k_1c:Addr
 p_1c:Addr
 a_1d:Addr
 d_1d:FuncData
 a_1e:Addr
 d_1e:FuncData
 a_1f:Addr
 d_1f:FuncData
 c_Z0c:Addr
 c_Z07:Addr
 c_Z09:Addr
 c_Z0e:Addr
 c_Z08:Addr
structure Txt (w:World) (K:PySem.W.Frag) (mg:Str→Option Value) (t:Adr):Prop where
 mg_00:mg "has_leap_day"=some (.ref t.a_00)
 fn_00:Fun K "has_leap_day" "has_leap_day" s_00 t.a_00 t.d_00
 b_00:zaN K t.d_00 ["year"] []
 mg_01:mg "days_in"=some (.ref t.a_01)
 fn_01:Fun K "days_in" "days_in" s_01 t.a_01 t.d_01
 b_01:zaN K t.d_01 ["year","month"] []
 mg_02:mg "days_ahead_of_year"=some (.ref t.a_02)
 fn_02:Fun K "days_ahead_of_year" "days_ahead_of_year" s_02 t.a_02 t.d_02
 b_02:zaN K t.d_02 ["year"] []
 mg_03:mg "day_of"=some (.ref t.a_03)
 fn_03:Fun K "day_of" "day_of" s_03 t.a_03 t.d_03
 b_03:zaN K t.d_03 ["year","month","day"] []
 mg_04:mg "year_of"=some (.ref t.a_04)
 fn_04:Fun K "year_of" "year_of" s_04 t.a_04 t.d_04
 b_04:zaN K t.d_04 ["number"] []
 mg_05:mg "date_of"=some (.ref t.a_05)
 fn_05:Fun K "date_of" "date_of" s_05 t.a_05 t.d_05
 b_05:zaN K t.d_05 ["number"] []
 mg_06:mg "months_on"=some (.ref t.a_06)
 fn_06:Fun K "months_on" "months_on" s_06 t.a_06 t.d_06
 b_06:zaN K t.d_06 ["number","many"] []
 mg_07:mg "begin_of"=some (.ref t.a_07)
 fn_07:Fun K "begin_of" "begin_of" s_07 t.a_07 t.d_07
 b_07:zaN K t.d_07 ["first","cycle","k"] []
 mg_08:mg "span_on"=some (.ref t.a_08)
 fn_08:Fun K "span_on" "span_on" s_08 t.a_08 t.d_08
 b_08:zaN K t.d_08 ["first","cycle","day"] []
 mg_09:mg "is_whole"=some (.ref t.a_09)
 fn_09:Fun K "is_whole" "is_whole" s_09 t.a_09 t.d_09
 b_09:zaN K t.d_09 ["value"] []
 mg_0a:mg "is_whole_between"=some (.ref t.a_0a)
 fn_0a:Fun K "is_whole_between" "is_whole_between" s_0a t.a_0a t.d_0a
 b_0a:zaN K t.d_0a ["value","least","greatest"] []
 mg_0b:mg "end_of_account"=some (.ref t.a_0b)
 fn_0b:Fun K "end_of_account" "end_of_account" s_0b t.a_0b t.d_0b
 b_0b:zaN K t.d_0b ["account"] []
 mg_0c:mg "is_day_of"=some (.ref t.a_0c)
 fn_0c:Fun K "is_day_of" "is_day_of" s_0c t.a_0c t.d_0c
 b_0c:zaN K t.d_0c ["account","value"] []
 mg_0d:mg "span_days"=some (.ref t.a_0d)
 fn_0d:Fun K "span_days" "span_days" s_0d t.a_0d t.d_0d
 b_0d:zaN K t.d_0d ["account","k"] []
 mg_0e:mg "span_with"=some (.ref t.a_0e)
 fn_0e:Fun K "span_with" "span_with" s_0e t.a_0e t.d_0e
 b_0e:zaN K t.d_0e ["account","day"] []
 mg_0f:mg "share"=some (.ref t.a_0f)
 fn_0f:Fun K "share" "share" s_0f t.a_0f t.d_0f
 b_0f:zaN K t.d_0f ["price","count","begin","end"] []
 mg_0g:mg "counts_from"=some (.ref t.a_0g)
 fn_0g:Fun K "counts_from" "counts_from" s_0g t.a_0g t.d_0g
 b_0g:zaN K t.d_0g ["account","change"] []
 mg_0h:mg "in_order"=some (.ref t.a_0h)
 fn_0h:Fun K "in_order" "in_order" s_0h t.a_0h t.d_0h
 b_0h:zaN K t.d_0h ["account","terms"] []
 mg_0i:mg "state_by"=some (.ref t.a_0i)
 fn_0i:Fun K "state_by" "state_by" s_0i t.a_0i t.d_0i
 b_0i:zaN K t.d_0i ["ordered","day"] []
 mg_0j:mg "state_on"=some (.ref t.a_0j)
 fn_0j:Fun K "state_on" "state_on" s_0j t.a_0j t.d_0j
 b_0j:zaN K t.d_0j ["account","terms","day"] []
 mg_0k:mg "stretches_by"=some (.ref t.a_0k)
 fn_0k:Fun K "stretches_by" "stretches_by" s_0k t.a_0k t.d_0k
 b_0k:zaN K t.d_0k ["ordered","begin","end"] []
 mg_0l:mg "price_and_count"=some (.ref t.a_0l)
 fn_0l:Fun K "price_and_count" "price_and_count" s_0l t.a_0l t.d_0l
 b_0l:zaN K t.d_0l ["account","name"] []
 mg_0m:mg "stretch_cost"=some (.ref t.a_0m)
 fn_0m:Fun K "stretch_cost" "stretch_cost" s_0m t.a_0m t.d_0m
 b_0m:zaN K t.d_0m ["account","span","stretch"] []
 mg_0n:mg "day_cost"=some (.ref t.a_0n)
 fn_0n:Fun K "day_cost" "day_cost" s_0n t.a_0n t.d_0n
 b_0n:zaN K t.d_0n ["account","terms","day"] []
 mg_0o:mg "lines_ahead"=some (.ref t.a_0o)
 fn_0o:Fun K "lines_ahead" "lines_ahead" s_0o t.a_0o t.d_0o
 b_0o:zaN K t.d_0o ["account","ordered","span","day"] []
 mg_0p:mg "cost_of"=some (.ref t.a_0p)
 fn_0p:Fun K "cost_of" "cost_of" s_0p t.a_0p t.d_0p
 b_0p:zaN K t.d_0p ["lines"] []
 mg_0q:mg "span_lines"=some (.ref t.a_0q)
 fn_0q:Fun K "span_lines" "span_lines" s_0q t.a_0q t.d_0q
 b_0q:zaN K t.d_0q ["account","terms","k"] []
 mg_0r:mg "span_cost"=some (.ref t.a_0r)
 fn_0r:Fun K "span_cost" "span_cost" s_0r t.a_0r t.d_0r
 b_0r:zaN K t.d_0r ["account","terms","k"] []
 mg_0s:mg "earned"=some (.ref t.a_0s)
 fn_0s:Fun K "earned" "earned" s_0s t.a_0s t.d_0s
 b_0s:zaN K t.d_0s ["account","terms","day"] []
 mg_0t:mg "is_term"=some (.ref t.a_0t)
 fn_0t:Fun K "is_term" "is_term" s_0t t.a_0t t.d_0t
 b_0t:zaN K t.d_0t ["change"] []
 mg_0u:mg "names_of"=some (.ref t.a_0u)
 fn_0u:Fun K "names_of" "names_of" s_0u t.a_0u t.d_0u
 b_0u:zaN K t.d_0u ["account"] []
 mg_0v:mg "fits_term"=some (.ref t.a_0v)
 fn_0v:Fun K "fits_term" "fits_term" s_0v t.a_0v t.d_0v
 b_0v:zaN K t.d_0v ["account","change"] []
 mg_0w:mg "fits_grant"=some (.ref t.a_0w)
 fn_0w:Fun K "fits_grant" "fits_grant" s_0w t.a_0w t.d_0w
 b_0w:zaN K t.d_0w ["change"] []
 mg_0x:mg "fits_undo"=some (.ref t.a_0x)
 fn_0x:Fun K "fits_undo" "fits_undo" s_0x t.a_0x t.d_0x
 b_0x:zaN K t.d_0x ["change","standing"] []
 mg_0y:mg "fits"=some (.ref t.a_0y)
 fn_0y:Fun K "fits" "fits" s_0y t.a_0y t.d_0y
 b_0y:zaN K t.d_0y ["account","ahead","change"] []
 mg_0z:mg "standing_terms"=some (.ref t.a_0z)
 fn_0z:Fun K "standing_terms" "standing_terms" s_0z t.a_0z t.d_0z
 b_0z:zaN K t.d_0z ["entries"] []
 mg_10:mg "check_entries"=some (.ref t.a_10)
 fn_10:Fun K "check_entries" "check_entries" s_10 t.a_10 t.d_10
 b_10:zaN K t.d_10 ["account","entries"] []
 mg_11:mg "terms_at"=some (.ref t.a_11)
 fn_11:Fun K "terms_at" "terms_at" s_11 t.a_11 t.d_11
 b_11:zaN K t.d_11 ["entries","moment"] []
 mg_12:mg "in_time"=some (.ref t.a_12)
 fn_12:Fun K "in_time" "in_time" s_12 t.a_12 t.d_12
 b_12:zaN K t.d_12 ["entries"] []
 cc_12:t.d_12.code= .ref t.k_12
 tb_12:TabK K mg "in_time" t.k_12 t.p_12
 mg_13:mg "_law_cell_at"=some (.ref t.a_13)
 fn_13:Fun K "_law_cell_at" "_law_cell_at" s_13 t.a_13 t.d_13
 b_13:zaN K t.d_13 ["_law_script","_law_k"] []
 mg_14:mg "_law_mixed"=some (.ref t.a_14)
 fn_14:Fun K "_law_mixed" "_law_mixed" s_14 t.a_14 t.d_14
 b_14:zaN K t.d_14 ["_law_cell","_law_k"] []
 mg_15:mg "_law_plan_names"=some (.ref t.a_15)
 fn_15:Fun K "_law_plan_names" "_law_plan_names" s_15 t.a_15 t.d_15
 b_15:zaN K t.d_15 ["_law_cell","_law_many"] []
 mg_16:mg "_law_account"=some (.ref t.a_16)
 fn_16:Fun K "_law_account" "_law_account" s_16 t.a_16 t.d_16
 b_16:zaN K t.d_16 ["_law_script"] []
 mg_17:mg "_law_change"=some (.ref t.a_17)
 fn_17:Fun K "_law_change" "_law_change" s_17 t.a_17 t.d_17
 b_17:zaN K t.d_17 ["_law_account_here","_law_n","_law_own","_law_free"] []
 mg_18:mg "_law_entries"=some (.ref t.a_18)
 fn_18:Fun K "_law_entries" "_law_entries" s_18 t.a_18 t.d_18
 b_18:zaN K t.d_18 ["_law_script","_law_account_here","_law_start"] []
 mg_19:mg "_law_known"=some (.ref t.a_19)
 fn_19:Fun K "_law_known" "_law_known" s_19 t.a_19 t.d_19
 b_19:zaN K t.d_19 ["_law_entries_here","_law_moment"] []
 mg_1a:mg "_law_state"=some (.ref t.a_1a)
 fn_1a:Fun K "_law_state" "_law_state" s_1a t.a_1a t.d_1a
 b_1a:zaN K t.d_1a ["_law_account_here","_law_terms","_law_day_here"] []
 mg_1b:mg "_law_day"=some (.ref t.a_1b)
 fn_1b:Fun K "_law_day" "_law_day" s_1b t.a_1b t.d_1b
 b_1b:zaN K t.d_1b ["_law_account_here","_law_terms","_law_day_here"] []
 mg_1c:mg "_law_between"=some (.ref t.a_1c)
 fn_1c:Fun K "_law_between" "_law_between" s_1c t.a_1c t.d_1c
 b_1c:zaN K t.d_1c ["_law_entries_here","_law_script"] []
 cc_1c:t.d_1c.code= .ref t.k_1c
 tb_1c:TabK K mg "_law_between" t.k_1c t.p_1c
 mg_1d:mg "_law_last"=some (.ref t.a_1d)
 fn_1d:Fun K "_law_last" "_law_last" s_1d t.a_1d t.d_1d
 b_1d:zaN K t.d_1d ["_law_lists"] []
 mg_1e:mg "_law_told"=some (.ref t.a_1e)
 fn_1e:Fun K "_law_told" "_law_told" s_1e t.a_1e t.d_1e
 b_1e:zaN K t.d_1e ["_law_account_here","_law_terms","_law_days"] []
 mg_1f:mg "law"=some (.ref t.a_1f)
 fn_1f:Fun K "law" "law" s_1f t.a_1f t.d_1f
 b_1f:zaN K t.d_1f ["_law_script"] []
 ndp: [t.p_12,t.p_1c].Nodup
 mg_Z0c:mg "SpanError"=some (.ref t.c_Z0c)
 mg_Z07:mg "NoDate"=some (.ref t.c_Z07)
 mg_Z09:mg "NoSpan"=some (.ref t.c_Z09)
 mg_Z0e:mg "TooLong"=some (.ref t.c_Z0e)
 mg_Z08:mg "NoEntry"=some (.ref t.c_Z08)
 ex_Z07:Exc K t.c_Z07
 ex_Z09:Exc K t.c_Z09
 ex_Z0e:Exc K t.c_Z0e
 k_Z03: ∃u,mg "LAST_YEAR"=some u∧zaL (.int 9999) u
 k_Z02: ∃u,mg "LAST_DAY"=some u∧zaL (.int 3652058) u
 k_Z04: ∃a,mg "MONTH_DAYS"=some (.ref a)∧ ∀H,SqT K H a [.int 31, .int 28, .int 31, .int 30, .int 31, .int 30, .int 31, .int 31, .int 30, .int 31, .int 30, .int 31]
 k_Z0a: ∃u,mg "ROUND_DAYS"=some u∧zaL (.int 146097) u
 k_Z01: ∃u,mg "HUNDRED_YEARS_DAYS"=some u∧zaL (.int 36524) u
 k_Z00: ∃u,mg "FOUR_YEARS_DAYS"=some u∧zaL (.int 1461) u
 k_Z0g: ∃u,mg "YEAR_DAYS"=some u∧zaL (.int 365) u
 k_Z0b: ∃u,mg "SPANS"=some u∧zaL (.int 60) u
 k_Z0f:zl2 w K mg "WORDS" [(SL [104,111,108,100], .str (SL [104,101,108,100])),(SL [103,111], .str (SL [111,110])),(SL [115,116,111,112], .str (SL [111,102,102])),(SL [108,97,115,116], .str (SL [111,102,102]))]
 k_Z05: ∃u,mg "MOST_ENTRIES"=some u∧zaL (.int 40) u
 k_Z06: ∃u,mg "MOST_SEATS"=some u∧zaL (.int 1000000) u
 k_Z0d: ∃a,mg "TERMS"=some (.ref a)∧ ∀H,SqT K H a [.str (SL [112,108,97,110]), .str (SL [115,101,97,116,115]), .str (SL [104,111,108,100]), .str (SL [103,111]), .str (SL [115,116,111,112]), .str (SL [108,97,115,116])]
 no_range:mg "range"=none
 no_divmod:mg "divmod"=none
 no_min:mg "min"=none
 no_isinstance:mg "isinstance"=none
 no_int:mg "int"=none
 no_bool:mg "bool"=none
 no_sorted:mg "sorted"=none
 no_sum:mg "sum"=none
 no_len:mg "len"=none
 no_enumerate:mg "enumerate"=none
 no_list:mg "list"=none
 no_abs:mg "abs"=none
 no_max:mg "max"=none
 cl_Z0c:ClsOk K t.c_Z0c
 cl_Z07:ClsOk K t.c_Z07
 cl_Z09:ClsOk K t.c_Z09
 cl_Z0e:ClsOk K t.c_Z0e
 cl_Z08:ClsOk K t.c_Z08
section
local macro_rules| `(tactic|open_k0)=> `(tactic|((try dsimp only [zbe,zaU,zbK,zbd,zcx,zbc,zcr,zaS,zbJ,zbb,zbm,zbI,tDc,za4,za5,za3,zbG,zbH,zbl,zbn,za2,zaG,zaH,zcq,List.replicate,Option.join_some,Option.join_none,za6,zcv,zbF,zaR,tSl,zcs,zcp,zcu,slT,zcg,Int.reduceLT,Int.reduceLE,Int.reduceToNat,Int.reduceNeg,Int.reduceAdd,Int.reduceSub,Int.reduceMul,forall_const,zcl,zbC,zcn,zcm,zbM,zbD,zcc,zbq,zbt,zcf,zce,tC,tOp,rI,rI0,tUn,rU,zbE,tB,zci,tOr,zcj,zbA,zck,zbB,tIf,zbx,zch,za9,zbk,tCB,zba,rEq,rNe,zaX,zaY,zaZ,za0,za1,zbj,zco,ipI,L2.start,List.map_cons,List.map_nil,List.length_cons,List.length_nil,List.cons_append,List.nil_append,List.append_nil,List.replicate_succ,List.replicate_zero,Nat.reduceAdd,Nat.reduceSub,List.getElem?_cons_zero,List.getElem?_cons_succ,List.set_cons_zero,List.set_cons_succ,Option.some.injEq,V.int.injEq,V.bl.injEq,V.ref.injEq,V.str.injEq,exists_eq_left',exists_eq_left,exists_eq',exists_and_left,List.cons.injEq,and_true,true_and,and_self,and_assoc,decide_eq_true_eq,if_true,if_false,Bool.true_eq_false,Bool.false_eq_true,Bool.not_eq_true',Bool.not_true,Bool.not_false,decide_eq_false_iff_not,ite_true,ite_false,reduceCtorEq,false_and,exists_false,false_or,or_false,and_false,Nat.reduceLeDiff]);(try simp only [zbe,zaU,zbK,zbd,zcx,zbc,zcr,zaS,zbJ,zbb,zbm,zbI,tDc,za4,za5,za3,zbG,zbH,zbl,zbn,za2,zaG,zaH,zcq,List.replicate,Option.join_some,Option.join_none,za6,zcv,zbF,zaR,tSl,zcs,zcp,zcu,slT,zcg,Int.reduceLT,Int.reduceLE,Int.reduceToNat,Int.reduceNeg,Int.reduceAdd,Int.reduceSub,Int.reduceMul,forall_const,zcl,zbC,zcn,zcm,zbM,zbD,zcc,zbq,zbt,zcf,zce,tC,tOp,rI,rI0,tUn,rU,zbE,tB,zci,tOr,zcj,zbA,zck,zbB,tIf,zbx,zch,za9,zbk,tCB,zba,rEq,rNe,zaX,zaY,zaZ,za0,za1,zbj,zco,ipI,L2.start,List.map_cons,List.map_nil,List.length_cons,List.length_nil,List.cons_append,List.nil_append,List.append_nil,List.replicate_succ,List.replicate_zero,Nat.reduceAdd,Nat.reduceSub,List.getElem?_cons_zero,List.getElem?_cons_succ,List.set_cons_zero,List.set_cons_succ,Option.some.injEq,V.int.injEq,V.bl.injEq,V.ref.injEq,V.str.injEq,exists_eq_left',exists_eq_left,exists_eq',exists_and_left,List.cons.injEq,and_true,true_and,and_self,and_assoc,decide_eq_true_eq,if_true,if_false,Bool.true_eq_false,Bool.false_eq_true,Bool.not_eq_true',Bool.not_true,Bool.not_false,decide_eq_false_iff_not,ite_true,ite_false,reduceCtorEq,false_and,exists_false,false_or,or_false,and_false,Nat.reduceLeDiff])))
local macro_rules| `(tactic|lge_open0)=> `(tactic|((try dsimp only [zbe,zaU,zbK,zbd,zcx,zbc,zcr,zaS,zbJ,zbb,zbm,zbI,tDc,za4,za5,za3,zbG,zbH,zbl,zbn,za2,zaG,zaH,zcq,List.replicate,Option.join_some,Option.join_none,za6,zcv,zbF,zaR,tSl,zcs,zcp,zcu,slT,zcg,Int.reduceLT,Int.reduceLE,Int.reduceToNat,Int.reduceNeg,Int.reduceAdd,Int.reduceSub,Int.reduceMul,forall_const,zcl,zbC,zcn,zcm,zbM,zbD,zcc,zbq,zbt,zcf,zce,tC,tOp,rI,rI0,tUn,rU,zbE,tB,zci,tOr,zcj,zbA,zck,zbB,tIf,zbx,zch,za9,zbk,tCB,zba,rEq,rNe,zaX,zaY,zaZ,za0,za1,zbj,zco,ipI,L2.start,List.map_cons,List.map_nil,List.length_cons,List.length_nil,List.cons_append,List.nil_append,List.append_nil,List.replicate_succ,List.replicate_zero,Nat.reduceAdd,Nat.reduceSub,List.getElem?_cons_zero,List.getElem?_cons_succ,List.set_cons_zero,List.set_cons_succ,Option.some.injEq,V.int.injEq,V.bl.injEq,V.ref.injEq,V.str.injEq,exists_eq_left',exists_eq_left,exists_eq',exists_and_left,List.cons.injEq,and_true,true_and,and_self,and_assoc,decide_eq_true_eq,if_true,if_false,Bool.true_eq_false,Bool.false_eq_true,Bool.not_eq_true',Bool.not_true,Bool.not_false,decide_eq_false_iff_not,ite_true,ite_false,reduceCtorEq,false_and,exists_false,false_or,or_false,and_false,zdz,zlO,zlW,zjv,zgz,zhQ,Nat.reduceLeDiff]);(try simp only [zbe,zaU,zbK,zbd,zcx,zbc,zcr,zaS,zbJ,zbb,zbm,zbI,tDc,za4,za5,za3,zbG,zbH,zbl,zbn,za2,zaG,zaH,zcq,List.replicate,Option.join_some,Option.join_none,za6,zcv,zbF,zaR,tSl,zcs,zcp,zcu,slT,zcg,Int.reduceLT,Int.reduceLE,Int.reduceToNat,Int.reduceNeg,Int.reduceAdd,Int.reduceSub,Int.reduceMul,forall_const,zcl,zbC,zcn,zcm,zbM,zbD,zcc,zbq,zbt,zcf,zce,tC,tOp,rI,rI0,tUn,rU,zbE,tB,zci,tOr,zcj,zbA,zck,zbB,tIf,zbx,zch,za9,zbk,tCB,zba,rEq,rNe,zaX,zaY,zaZ,za0,za1,zbj,zco,ipI,L2.start,List.map_cons,List.map_nil,List.length_cons,List.length_nil,List.cons_append,List.nil_append,List.append_nil,List.replicate_succ,List.replicate_zero,Nat.reduceAdd,Nat.reduceSub,List.getElem?_cons_zero,List.getElem?_cons_succ,List.set_cons_zero,List.set_cons_succ,Option.some.injEq,V.int.injEq,V.bl.injEq,V.ref.injEq,V.str.injEq,exists_eq_left',exists_eq_left,exists_eq',exists_and_left,List.cons.injEq,and_true,true_and,and_self,and_assoc,decide_eq_true_eq,if_true,if_false,Bool.true_eq_false,Bool.false_eq_true,Bool.not_eq_true',Bool.not_true,Bool.not_false,decide_eq_false_iff_not,ite_true,ite_false,reduceCtorEq,false_and,exists_false,false_or,or_false,and_false,zdz,zlO,zlW,zjv,zgz,zhQ,Nat.reduceLeDiff])))
local macro_rules| `(tactic|lgec_open0)=> `(tactic|((try dsimp only [zbe,zaU,zbK,zbd,zcx,zbc,zcr,zaS,zbJ,zbb,zbm,zbI,tDc,za4,za5,za3,zbG,zbH,zbl,zbn,za2,zaG,zaH,zcq,List.replicate,Option.join_some,Option.join_none,za6,zcv,zbF,zaR,tSl,zcs,zcp,zcu,slT,zcg,Int.reduceLT,Int.reduceLE,Int.reduceToNat,Int.reduceNeg,Int.reduceAdd,Int.reduceSub,Int.reduceMul,forall_const,zcl,zbC,zcn,zcm,zbM,zbD,zcc,zbq,zbt,zcf,zce,tC,tOp,rI,rI0,tUn,rU,zbE,tB,zci,tOr,zcj,zbA,zck,zbB,tIf,zbx,zch,za9,zbk,tCB,zba,rEq,rNe,zaX,zaY,zaZ,za0,za1,zbj,zco,ipI,L2.start,List.map_cons,List.map_nil,List.length_cons,List.length_nil,List.cons_append,List.nil_append,List.append_nil,List.replicate_succ,List.replicate_zero,Nat.reduceAdd,Nat.reduceSub,List.getElem?_cons_zero,List.getElem?_cons_succ,List.set_cons_zero,List.set_cons_succ,Option.some.injEq,V.int.injEq,V.bl.injEq,V.ref.injEq,V.str.injEq,exists_eq_left',exists_eq_left,exists_eq',exists_and_left,List.cons.injEq,and_true,true_and,and_self,and_assoc,decide_eq_true_eq,if_true,if_false,Bool.true_eq_false,Bool.false_eq_true,Bool.not_eq_true',Bool.not_true,Bool.not_false,decide_eq_false_iff_not,ite_true,ite_false,reduceCtorEq,false_and,exists_false,false_or,or_false,and_false,List.nil_append]);(try simp only [zbe,zaU,zbK,zbd,zcx,zbc,zcr,zaS,zbJ,zbb,zbm,zbI,tDc,za4,za5,za3,zbG,zbH,zbl,zbn,za2,zaG,zaH,zcq,List.replicate,Option.join_some,Option.join_none,za6,zcv,zbF,zaR,tSl,zcs,zcp,zcu,slT,zcg,Int.reduceLT,Int.reduceLE,Int.reduceToNat,Int.reduceNeg,Int.reduceAdd,Int.reduceSub,Int.reduceMul,forall_const,zcl,zbC,zcn,zcm,zbM,zbD,zcc,zbq,zbt,zcf,zce,tC,tOp,rI,rI0,tUn,rU,zbE,tB,zci,tOr,zcj,zbA,zck,zbB,tIf,zbx,zch,za9,zbk,tCB,zba,rEq,rNe,zaX,zaY,zaZ,za0,za1,zbj,zco,ipI,L2.start,List.map_cons,List.map_nil,List.length_cons,List.length_nil,List.cons_append,List.nil_append,List.append_nil,List.replicate_succ,List.replicate_zero,Nat.reduceAdd,Nat.reduceSub,List.getElem?_cons_zero,List.getElem?_cons_succ,List.set_cons_zero,List.set_cons_succ,Option.some.injEq,V.int.injEq,V.bl.injEq,V.ref.injEq,V.str.injEq,exists_eq_left',exists_eq_left,exists_eq',exists_and_left,List.cons.injEq,and_true,true_and,and_self,and_assoc,decide_eq_true_eq,if_true,if_false,Bool.true_eq_false,Bool.false_eq_true,Bool.not_eq_true',Bool.not_true,Bool.not_false,decide_eq_false_iff_not,ite_true,ite_false,reduceCtorEq,false_and,exists_false,false_or,or_false,and_false,List.nil_append])))
local macro_rules| `(tactic|w_why)=> `(tactic|((try dsimp only [zbe,zaU,zbK,zbd,zcx,zbc,zcr,zaS,zbJ,zbb,zbm,zbI,tDc,za4,za5,za3,zbG,zbH,zbl,zbn,za2,zaG,zaH,zcq,List.replicate,Option.join_some,Option.join_none,za6,zcv,zbF,zaR,tSl,zcs,zcp,zcu,slT,zcg,Int.reduceLT,Int.reduceLE,Int.reduceToNat,Int.reduceNeg,Int.reduceAdd,Int.reduceSub,Int.reduceMul,forall_const,zcl,zbC,zcn,zcm,zbM,zbD,zcc,zbq,zbt,zcf,zce,tC,tOp,rI,rI0,tUn,rU,zbE,tB,zci,tOr,zcj,zbA,zck,zbB,tIf,zbx,zch,za9,zbk,tCB,zba,rEq,rNe,zaX,zaY,zaZ,za0,za1,zbj,zco,ipI,L2.start,List.map_cons,List.map_nil,List.length_cons,List.length_nil,List.cons_append,List.nil_append,List.append_nil,List.replicate_succ,List.replicate_zero,Nat.reduceAdd,Nat.reduceSub,List.getElem?_cons_zero,List.getElem?_cons_succ,List.set_cons_zero,List.set_cons_succ,Option.some.injEq,V.int.injEq,V.bl.injEq,V.ref.injEq,V.str.injEq,exists_eq_left',exists_eq_left,exists_eq',exists_and_left,List.cons.injEq,and_true,true_and,and_self,and_assoc,decide_eq_true_eq,if_true,if_false,Bool.true_eq_false,Bool.false_eq_true,Bool.not_eq_true',Bool.not_true,Bool.not_false,decide_eq_false_iff_not,ite_true,ite_false,reduceCtorEq,false_and,exists_false,false_or,or_false,and_false,tBM,Nat.reduceLeDiff]);(try simp only [zbe,zaU,zbK,zbd,zcx,zbc,zcr,zaS,zbJ,zbb,zbm,zbI,tDc,za4,za5,za3,zbG,zbH,zbl,zbn,za2,zaG,zaH,zcq,List.replicate,Option.join_some,Option.join_none,za6,zcv,zbF,zaR,tSl,zcs,zcp,zcu,slT,zcg,Int.reduceLT,Int.reduceLE,Int.reduceToNat,Int.reduceNeg,Int.reduceAdd,Int.reduceSub,Int.reduceMul,forall_const,zcl,zbC,zcn,zcm,zbM,zbD,zcc,zbq,zbt,zcf,zce,tC,tOp,rI,rI0,tUn,rU,zbE,tB,zci,tOr,zcj,zbA,zck,zbB,tIf,zbx,zch,za9,zbk,tCB,zba,rEq,rNe,zaX,zaY,zaZ,za0,za1,zbj,zco,ipI,L2.start,List.map_cons,List.map_nil,List.length_cons,List.length_nil,List.cons_append,List.nil_append,List.append_nil,List.replicate_succ,List.replicate_zero,Nat.reduceAdd,Nat.reduceSub,List.getElem?_cons_zero,List.getElem?_cons_succ,List.set_cons_zero,List.set_cons_succ,Option.some.injEq,V.int.injEq,V.bl.injEq,V.ref.injEq,V.str.injEq,exists_eq_left',exists_eq_left,exists_eq',exists_and_left,List.cons.injEq,and_true,true_and,and_self,and_assoc,decide_eq_true_eq,if_true,if_false,Bool.true_eq_false,Bool.false_eq_true,Bool.not_eq_true',Bool.not_true,Bool.not_false,decide_eq_false_iff_not,ite_true,ite_false,reduceCtorEq,false_and,exists_false,false_or,or_false,and_false,tBM,Nat.reduceLeDiff])))
local macro_rules| `(tactic|accj_open)=> `(tactic|((try dsimp only [zbe,zaU,zbK,zbd,zcx,zbc,zcr,zaS,zbJ,zbb,zbm,zbI,tDc,za4,za5,za3,zbG,zbH,zbl,zbn,za2,zaG,zaH,zcq,List.replicate,Option.join_some,Option.join_none,za6,zcv,zbF,zaR,tSl,zcs,zcp,zcu,slT,zcg,Int.reduceLT,Int.reduceLE,Int.reduceToNat,Int.reduceNeg,Int.reduceAdd,Int.reduceSub,Int.reduceMul,forall_const,zcl,zbC,zcn,zcm,zbM,zbD,zcc,zbq,zbt,zcf,zce,tC,tOp,rI,rI0,tUn,rU,zbE,tB,zci,tOr,zcj,zbA,zck,zbB,tIf,zbx,zch,za9,zbk,tCB,zba,rEq,rNe,zaX,zaY,zaZ,za0,za1,zbj,zco,ipI,L2.start,List.map_cons,List.map_nil,List.length_cons,List.length_nil,List.cons_append,List.nil_append,List.append_nil,List.replicate_succ,List.replicate_zero,Nat.reduceAdd,Nat.reduceSub,List.getElem?_cons_zero,List.getElem?_cons_succ,List.set_cons_zero,List.set_cons_succ,Option.some.injEq,V.int.injEq,V.bl.injEq,V.ref.injEq,V.str.injEq,exists_eq_left',exists_eq_left,exists_eq',exists_and_left,List.cons.injEq,and_true,true_and,and_self,and_assoc,decide_eq_true_eq,if_true,if_false,Bool.true_eq_false,Bool.false_eq_true,Bool.not_eq_true',Bool.not_true,Bool.not_false,decide_eq_false_iff_not,ite_true,ite_false,reduceCtorEq,false_and,exists_false,false_or,or_false,and_false]);(try simp only [zbe,zaU,zbK,zbd,zcx,zbc,zcr,zaS,zbJ,zbb,zbm,zbI,tDc,za4,za5,za3,zbG,zbH,zbl,zbn,za2,zaG,zaH,zcq,List.replicate,Option.join_some,Option.join_none,za6,zcv,zbF,zaR,tSl,zcs,zcp,zcu,slT,zcg,Int.reduceLT,Int.reduceLE,Int.reduceToNat,Int.reduceNeg,Int.reduceAdd,Int.reduceSub,Int.reduceMul,forall_const,zcl,zbC,zcn,zcm,zbM,zbD,zcc,zbq,zbt,zcf,zce,tC,tOp,rI,rI0,tUn,rU,zbE,tB,zci,tOr,zcj,zbA,zck,zbB,tIf,zbx,zch,za9,zbk,tCB,zba,rEq,rNe,zaX,zaY,zaZ,za0,za1,zbj,zco,ipI,L2.start,List.map_cons,List.map_nil,List.length_cons,List.length_nil,List.cons_append,List.nil_append,List.append_nil,List.replicate_succ,List.replicate_zero,Nat.reduceAdd,Nat.reduceSub,List.getElem?_cons_zero,List.getElem?_cons_succ,List.set_cons_zero,List.set_cons_succ,Option.some.injEq,V.int.injEq,V.bl.injEq,V.ref.injEq,V.str.injEq,exists_eq_left',exists_eq_left,exists_eq',exists_and_left,List.cons.injEq,and_true,true_and,and_self,and_assoc,decide_eq_true_eq,if_true,if_false,Bool.true_eq_false,Bool.false_eq_true,Bool.not_eq_true',Bool.not_true,Bool.not_false,decide_eq_false_iff_not,ite_true,ite_false,reduceCtorEq,false_and,exists_false,false_or,or_false,and_false])))
variable {P:Program} {w:World} {K:PySem.W.Frag} {mg:Str→Option Value} {base:Heap} {t:Adr}
def zly:Sp:=fun vs H Q _=> ∃y:Int,vs= [.int y]∧Q (.bl (decide (Cal.lp y=1))) H
theorem sc_00:FnScope ["year"] ["year"] (zap s_00):=⟨rfl,rfl,rfl,by decide+kernel,rfl,by decide+kernel,by decide+kernel⟩
theorem ok_00 (T:Txt w K mg t):FnOk P w K mg base (CXE P w) 1 t.a_00 t.d_00 ["year"] zly:=by
 refine T.fn_00.okX sc_00 (fun vs H Q E h=> ?_) (fun cdv A outer s H vs Q E L hr h=> ?_)
 ·obtain ⟨y,rfl,_⟩:=h
  rfl
 obtain ⟨y,rfl,q⟩:=h
 have nd:=sc_00.nd
 refine ⟨_,(zaf (zaw (zdk (zbT zbv (zai zaC (pv 0) zac) zac (zat _)) (zdy (zlL (zbT zeQ (zai zaC (pv 0) zac) zac (zat _)) (zdy (zbT zbv (zai zaC (pv 0) zac) zac (zat _)))))))),?_⟩
 accj_open
 have e: ∀b,b=decide (Cal.lp y=1)→Q (.bl b) H:=fun b z=>by rw [z];exact q
 split
 ·split
  ·exact e _ (by simp [Cal.lp, *])
  ·refine e _ ?_
   by_cases c:y % 400=0<;>simp [Cal.lp, *]
 ·exact e _ (by simp [Cal.lp, *])
def zhD (y m:Int):Prop:=1≤y∧y≤9999∧1≤m∧m≤12
def zlz (t:Adr):Sp:=fun vs H Q E=> ∃y m:Int,vs= [.int y, .int m]∧(zhD y m→Q (.int (Cal.dim y m)) H)∧(¬zhD y m→E (.ref t.c_Z07) none H)
theorem zfd {m:Int} (h1:1≤m) (h2:m≤12):atI [V.int 31,V.int 28,V.int 31,V.int 30,V.int 31,V.int 30,V.int 31,V.int 31,V.int 30,V.int 31,V.int 30,V.int 31] (m - 1)=some (.int (if m=2 then 28 else if m=4∨m=6∨m=9∨m=11 then 30 else 31)):=by
 have q:m=1∨m=2∨m=3∨m=4∨m=5∨m=6∨m=7∨m=8∨m=9∨m=10∨m=11∨m=12:=by omega
 rcases q with rfl|rfl|rfl|rfl|rfl|rfl|rfl|rfl|rfl|rfl|rfl|rfl<;>rfl
theorem sc_01:FnScope ["year","month"] ["year","month"] (zap s_01):=⟨rfl,rfl,rfl,by decide+kernel,rfl,by decide+kernel,by decide+kernel⟩
theorem ok_01 (T:Txt w K mg t):FnOk P w K mg base (CXE P w) 2 t.a_01 t.d_01 ["year","month"] (zlz t):=by
 refine T.fn_01.okX sc_01 (fun vs H Q E h=> ?_) (fun cdv A outer s H vs Q E L hr h=> ?_)
 ·obtain ⟨y,m,rfl,_⟩:=h
  rfl
 obtain ⟨y,m,rfl,q1,q2⟩:=h
 have nd:=sc_01.nd
 obtain ⟨a_Z04,h_MONTH_DAYS,q_MONTH_DAYS⟩:=T.k_Z04
 have r_MONTH_DAYS:zaL (.ref a_Z04) (.ref a_Z04):=rfl
 obtain ⟨u_LAST_YEAR,h_LAST_YEAR,r_LAST_YEAR⟩:=T.k_Z03
 refine ⟨_,(zad (zaM (zdS (zar zcM (pv 0) zac (zat _)) (zc2 (zar zd4 (pv 0) (zbS (by rfl) h_LAST_YEAR r_LAST_YEAR) (zat _)))).pt (zaf (zcA L T.ex_Z07 (by rfl) (by rfl) T.mg_Z07 (zaa zc1 zae))) zaz) (zad (zaM (zdS (zar zcM (pv 1) zac (zat _)) (zc2 (zar zd4 (pv 1) zac (zat _)))).pt (zaf (zcA L T.ex_Z07 (by rfl) (by rfl) T.mg_Z07 (zaa zc1 zae))) zaz) (zad (zaM (zdj (zar zbv (pv 1) zac (zat _)) (zcV (zep (zag L.toLv (ok_00 T) (hr.mono (by decide)) (by rfl) T.mg_00 T.fn_00.kp T.b_00 .nil (zaa (pv 0) zae))))).pt (zaf (zaw zac)) zaz) (zaf (zaw (zaq zas (zbS (by rfl) h_MONTH_DAYS r_MONTH_DAYS) (zai zbP (pv 1) zac) (fun _ _=>rfl))))))),?_⟩
 open_k0
 split
 ·exact q2 (fun z=>by obtain ⟨_,_,_,_⟩:=z;omega)
 split
 ·exact q2 (fun z=>by obtain ⟨_,_,_,_⟩:=z;omega)
 split
 ·exact q2 (fun z=>by obtain ⟨_,_,_,_⟩:=z;omega)
 split
 ·exact q2 (fun z=>by obtain ⟨_,_,_,_⟩:=z;omega)
 have ok:zhD y m:=⟨by omega,by omega,by omega,by omega⟩
 have q:=q1 ok
 split
 ·rename_i h2
  subst h2
  refine ⟨y,rfl,_,rfl,?_⟩
  have l:=Cal.lp_01 y
  have e:Cal.dim y 2=28+Cal.lp y:=rfl
  rw [e] at q
  split
  ·rename_i c
   have z:Cal.lp y=1:=of_decide_eq_true c
   rw [z] at q
   exact q
  ·rename_i c
   have z:Cal.lp y≠1:=of_decide_eq_false (Bool.eq_false_iff.mpr c)
   refine ixT (q_MONTH_DAYS _) (zfd (by omega) (by omega)) ?_
   have z0:Cal.lp y=0:=by omega
   rw [z0] at q
   exact q
 ·rename_i h2
  refine ixT (q_MONTH_DAYS _) (zfd (by omega) (by omega)) ?_
  rw [if_neg h2]
  unfold Cal.dim at q
  rw [if_neg h2] at q
  exact q
def zky:Sp:=fun vs H Q _=> ∃y:Int,vs= [.int y]∧Q (.int (Cal.ahead y)) H
theorem sc_02:FnScope ["year","past"] ["year"] (zap s_02):=⟨rfl,rfl,rfl,by decide+kernel,rfl,by decide+kernel,by decide+kernel⟩
theorem ok_02 (T:Txt w K mg t):FnOk P w K mg base (CXE P w) 1 t.a_02 t.d_02 ["year"] zky:=by
 refine T.fn_02.okX sc_02 (fun vs H Q E h=> ?_) (fun cdv A outer s H vs Q E L hr h=> ?_)
 ·obtain ⟨y,rfl,_⟩:=h
  rfl
 obtain ⟨y,rfl,q⟩:=h
 have nd:=sc_02.nd
 obtain ⟨u_YEAR_DAYS,h_YEAR_DAYS,r_YEAR_DAYS⟩:=T.k_Z0g
 refine ⟨_,(zad (zan (i:=1) nd rfl (Or.inl rfl) (zai zbP (pv 0) zac)) (zaf (zaw (zai zaE (zai zbP (zai zaE (zai zb9 (pv 1) (zbS (by rfl) h_YEAR_DAYS r_YEAR_DAYS)) (zai zaK (pv 1) zac)) (zai zaK (pv 1) zac)) (zai zaK (pv 1) zac))))),?_⟩
 open_k0
 exact ⟨Or.inr ⟨by decide,by decide⟩,q⟩
def zkz (t:Adr):Sp:=fun vs H Q E=> ∃y m d:Int,vs= [.int y, .int m, .int d]∧(Cal.Valid y m d→Q (.int (Cal.num y m d)) H)∧(¬Cal.Valid y m d→E (.ref t.c_Z07) none H)
theorem sc_03:FnScope ["year","month","day","ahead","earlier"] ["year","month","day"] (zap s_03):=⟨rfl,rfl,rfl,by decide+kernel,rfl,by decide+kernel,by decide+kernel⟩
theorem ok_03 (T:Txt w K mg t):FnOk P w K mg base (CXE P w) 3 t.a_03 t.d_03 ["year","month","day"] (zkz t):=by
 refine T.fn_03.okX sc_03 (fun vs H Q E h=> ?_) (fun cdv A outer s H vs Q E L hr h=> ?_)
 ·obtain ⟨y,m,d,rfl,_⟩:=h
  rfl
 obtain ⟨y,m,d,rfl,q1,q2⟩:=h
 have nd:=sc_03.nd
 refine ⟨_,(zad (zaM (zdS (zar zcM (pv 2) zac (zat _)) (zc2 (zar zd4 (pv 2) (zag L.toLv (ok_01 T) (hr.mono (by decide)) (by rfl) T.mg_01 T.fn_01.kp T.b_01 .nil (zaa (pv 0) (zaa (pv 1) zae zab) zab)) (zat _)))).pt (zaf (zcA L T.ex_Z07 (by rfl) (by rfl) T.mg_Z07 (zaa zc1 zae))) zaz) (zad (zan (i:=3) nd rfl (Or.inl rfl) (zag L.toLv (ok_02 T) (hr.mono (by decide)) (by rfl) T.mg_02 T.fn_02.kp T.b_02 .nil (zaa (pv 0) zae))) (zad (zbO (by passes_own) rfl (zft (by rfl) T.no_range (zaa zac (zaa (pv 1) zae zab) zah)) (zaj (i:=4) nd rfl (Or.inl rfl)) (zaf (zeO (i:=3) nd rfl (Or.inl rfl) (zag L.toLv (ok_01 T) (hr.mono (by decide)) (by rfl) T.mg_01 T.fn_01.kp T.b_01 .nil (zaa (pv 0) (zaa (pv 4) zae zab) zab)) zg9))) (zaf (zaw (zai zbP (zai zaE (pv 3) (pv 2)) zac)))))),?_⟩
 open_k0
 split
 ·exact q2 (fun z=>by obtain ⟨_,_,_,_,_,_⟩:=z;omega)
 refine ⟨y,m,rfl,fun ok=> ?_,fun no=>q2 (fun z=>no ⟨z.1,z.2.1,z.2.2.1,z.2.2.2.1⟩)⟩
 obtain ⟨o1,o2,o3,o4⟩:=ok
 accj_open
 split
 ·exact q2 (fun z=>by obtain ⟨_,_,_,_,_,_⟩:=z;omega)
 have va:Cal.Valid y m d:=⟨o1,o2,o3,o4,by omega,by omega⟩
 have q:=q1 va
 refine ⟨y,rfl,?_⟩
 refine ⟨_,rfl,1,m,rfl,⟨by decide,by decide,by omega,by omega⟩,?_⟩
 refine zb1 (fun i σ1 H1=>H1=H∧ ∃e,σ1= [some (.int y),some (.int m),some (.int d),some (.int (Cal.ahead y+Cal.cum y ((i:Int)+1))),e]) ⟨rfl,none,?_⟩ (fun i σ1 H1 hi h=> ?_) (fun σ1 H1 h=> ?_)
 ·have e:Cal.ahead y+Cal.cum y (((0:Nat):Int)+1)=Cal.ahead y:=by
   rw [show (((0:Nat):Int)+1)=1 from rfl,Cal.cum_one]
   omega
  rw [e]
 ·obtain ⟨rfl,e,rfl⟩:=h
  accj_open
  refine ⟨y,1+(i:Int),rfl,fun _=> ?_,fun no=>absurd ⟨o1,o2,by omega,by omega⟩ no⟩
  refine ⟨_,rfl,rfl,?_⟩
  have s:=Cal.cum_succ (y:=y) (m:=(i:Int)+1) (by omega) (by omega)
  have e1:((i+1:Nat):Int)+1=(i:Int)+1+1:=by omega
  have e2:(1:Int)+(i:Int)=(i:Int)+1:=by omega
  rw [e1,s,e2,Int.add_assoc]
 ·obtain ⟨rfl,e,rfl⟩:=h
  accj_open
  have e1:(((m - 1).toNat:Nat):Int)+1=m:=by omega
  rw [e1]
  exact q
def zjL:Sp:=fun vs H Q _=> ∃n:Int,vs= [.int n]∧ ∀H',zao H H'→Q (.int (Cal.yearOf n)) H'
theorem sc_04:FnScope ["number","rounds","rest","hundreds","fours","ones"] ["number"] (zap s_04):=⟨rfl,rfl,rfl,by decide+kernel,rfl,by decide+kernel,by decide+kernel⟩
theorem ok_04 (T:Txt w K mg t):FnOk P w K mg base (CXE P w) 1 t.a_04 t.d_04 ["number"] zjL:=by
 refine T.fn_04.okX sc_04 (fun vs H Q E h=> ?_) (fun cdv A outer s H vs Q E L hr h=> ?_)
 ·obtain ⟨n,rfl,_⟩:=h
  rfl
 obtain ⟨n,rfl,q⟩:=h
 have nd:=sc_04.nd
 obtain ⟨u_ROUND_DAYS,h_ROUND_DAYS,r_ROUND_DAYS⟩:=T.k_Z0a
 obtain ⟨u_HUNDRED_YEARS_DAYS,h_HUNDRED_YEARS_DAYS,r_HUNDRED_YEARS_DAYS⟩:=T.k_Z01
 obtain ⟨u_FOUR_YEARS_DAYS,h_FOUR_YEARS_DAYS,r_FOUR_YEARS_DAYS⟩:=T.k_Z00
 obtain ⟨u_YEAR_DAYS,h_YEAR_DAYS,r_YEAR_DAYS⟩:=T.k_Z0g
 refine ⟨_,(zad (zby (zaF zey (by rfl) T.no_divmod zfC (zaa (pv 0) (zaa (zbS (by rfl) h_ROUND_DAYS r_ROUND_DAYS) zae zab) zab)) (zbi (n:=2) rfl (zal (zaj (i:=1) nd rfl (Or.inl rfl)) (zal (zaj (i:=2) nd rfl (Or.inl rfl)) zaV)))) (zad (zan (i:=3) nd rfl (Or.inl rfl) (zaF (zc6 (by rfl)) (by rfl) T.no_min zeT (zaa (zai zaK (pv 2) (zbS (by rfl) h_HUNDRED_YEARS_DAYS r_HUNDRED_YEARS_DAYS)) (zaa zac zae zah) zav))) (zad (zeO (i:=2) nd rfl (Or.inl rfl) (zai zb9 (pv 3) (zbS (by rfl) h_HUNDRED_YEARS_DAYS r_HUNDRED_YEARS_DAYS)) zi1) (zad (zby (zaF zey (by rfl) T.no_divmod zfC (zaa (pv 2) (zaa (zbS (by rfl) h_FOUR_YEARS_DAYS r_FOUR_YEARS_DAYS) zae zab) zab)) (zbi (n:=2) rfl (zal (zaj (i:=4) nd rfl (Or.inl rfl)) (zal (zaj (i:=2) nd rfl (Or.inl rfl)) zaV)))) (zad (zan (i:=5) nd rfl (Or.inl rfl) (zaF (zc6 (by rfl)) (by rfl) T.no_min zeT (zaa (zai zaK (pv 2) (zbS (by rfl) h_YEAR_DAYS r_YEAR_DAYS)) (zaa zac zae zah) zav))) (zaf (zaw (zai zaE (zai zaE (zai zaE (zai zaE (zai zb9 (pv 1) zac) (zai zb9 (pv 3) zac)) (zai zb9 (pv 4) zac)) (pv 5)) zac)))))))),?_⟩
 open_k0
 intro p hp
 refine ⟨p,_,rfl,SqT.of zay,rfl,?_⟩
 accj_open
 refine ⟨Or.inr ⟨by decide,by decide⟩,fun p2 hp2=>⟨p2,_,rfl,SqT.of zay,rfl,?_⟩⟩
 accj_open
 refine ⟨Or.inr ⟨by decide,by decide⟩,Or.inr ⟨by decide,by decide⟩,Or.inr ⟨by decide,by decide⟩,?_⟩
 have e: ∀r:Int,r=Cal.yearOf n→Q (.int r) (upd (upd H p (.tup [.int (n / 146097), .int (n % 146097)])) p2 (.tup [.int ((n % 146097 - (if 3<n % 146097 / 36524 then 3 else n % 146097 / 36524)*36524) / 1461), .int ((n % 146097 - (if 3<n % 146097 / 36524 then 3 else n % 146097 / 36524)*36524) % 1461)])):=fun r z=>by
  rw [z]
  exact q _ ((zcB hp _).trans (zcB hp2 _))
 refine e _ ?_
 unfold Cal.yearOf
 have m1: ∀a:Int,min a 3=if 3<a then 3 else a:=fun a=>by split<;>omega
 simp only [m1]
def zjM (t:Adr):Sp:=fun vs H Q E=> ∃n:Int,vs= [.int n]∧
 (0≤n∧n≤3652058→ ∀y m d p H',Cal.Valid y m d→Cal.num y m d=n→zao H H'→H' p=some (.tup [.int y, .int m, .int d])→Q (.ref p) H')∧(¬(0≤n∧n≤3652058)→E (.ref t.c_Z07) none H)
theorem sc_05:FnScope ["number","year","rest","month"] ["number"] (zap s_05):=⟨rfl,rfl,rfl,by decide+kernel,rfl,by decide+kernel,by decide+kernel⟩
theorem ok_05 (T:Txt w K mg t):FnOk P w K mg base (CXE P w) 3 t.a_05 t.d_05 ["number"] (zjM t):=by
 refine T.fn_05.okX sc_05 (fun vs H Q E h=> ?_) (fun cdv A outer s H vs Q E L hr h=> ?_)
 ·obtain ⟨n,rfl,_⟩:=h
  rfl
 obtain ⟨n,rfl,q1,q2⟩:=h
 have nd:=sc_05.nd
 obtain ⟨u_LAST_DAY,h_LAST_DAY,r_LAST_DAY⟩:=T.k_Z02
 refine ⟨_,(zad (zaM (zdS (zar zcM (pv 0) zac (zat _)) (zc2 (zar zd4 (pv 0) (zbS (by rfl) h_LAST_DAY r_LAST_DAY) (zat _)))).pt (zaf (zcA L T.ex_Z07 (by rfl) (by rfl) T.mg_Z07 (zaa zc1 zae))) zaz) (zad (zan (i:=1) nd rfl (Or.inl rfl) (zag L.toLv (ok_04 T) (hr.mono (by decide)) (by rfl) T.mg_04 T.fn_04.kp T.b_04 .nil (zaa (pv 0) zae))) (zad (zan (i:=2) nd rfl (Or.inl rfl) (zai zbP (pv 0) (zag L.toLv (ok_02 T) (hr.mono (by decide)) (by rfl) T.mg_02 T.fn_02.kp T.b_02 .nil (zaa (pv 1) zae)))) (zad (zan (i:=3) nd rfl (Or.inl rfl) zac) (zad (zgx (by passes_own) (zar zi7 (pv 2) (zag L.toLv (ok_01 T) (hr.mono (by decide)) (by rfl) T.mg_01 T.fn_01.kp T.b_01 .nil (zaa (pv 1) (zaa (pv 3) zae zab) zab)) (zat _)) (zad (zeO (i:=2) nd rfl (Or.inl rfl) (zag L.toLv (ok_01 T) (hr.mono (by decide)) (by rfl) T.mg_01 T.fn_01.kp T.b_01 .nil (zaa (pv 1) (zaa (pv 3) zae zab) zab)) zi1) (zaf (zeO (i:=3) nd rfl (Or.inl rfl) zac zg9)))) (zaf (zaw (zlc (zaa (pv 1) (zaa (pv 3) (zaa (zai zaE (pv 2) zac) zae zav) zab) zab))))))))),?_⟩
 open_k0
 split
 ·exact q2 (fun z=>by obtain ⟨_,_⟩:=z;omega)
 split
 ·exact q2 (fun z=>by obtain ⟨_,_⟩:=z;omega)
 have n0:0≤n:=by omega
 have n1:n≤3652058:=by omega
 have q:=q1 ⟨n0,n1⟩
 obtain ⟨y1,y2,y3,y4⟩:=Cal.yearOf_spec n0 n1
 refine ⟨n,rfl,fun H1 sm=>⟨_,rfl,_,rfl,?_⟩⟩
 refine ⟨fun k σ1 H2=>H2=H1∧ ∃m:Int,σ1= [some (.int n),some (.int (Cal.yearOf n)),some (.int (n - Cal.ahead (Cal.yearOf n) - Cal.cum (Cal.yearOf n) m)),some (.int m)]∧1≤m∧m≤12∧Cal.cum (Cal.yearOf n) m≤n - Cal.ahead (Cal.yearOf n)∧k=(13 - m).toNat,⟨12,rfl,1,?_,by decide,by decide,by rw [Cal.cum_one];omega,by decide⟩,?_⟩
 ·rw [Cal.cum_one,Int.sub_zero]
 ·rintro k σ1 H2 ⟨rfl,m,rfl,m1,m2,m3,rfl⟩
  accj_open
  refine ⟨_,m,rfl,fun _=> ?_,fun no=>absurd ⟨y1,y2,m1,m2⟩ no⟩
  accj_open
  split
  ·rename_i c
   have lt:m<12:=by
    apply Classical.byContradiction
    intro z
    obtain rfl:m=12:=by omega
    have s:=Cal.cum_succ (y:=Cal.yearOf n) (m:=12) (by decide) (by decide)
    have u:Cal.cum (Cal.yearOf n) (12+1)=365+Cal.lp (Cal.yearOf n):=Cal.cum_13 _
    omega
   have s:=Cal.cum_succ (y:=Cal.yearOf n) m1 m2
   refine ⟨_,fun σ2 H3 h=>h,?_⟩
   refine ⟨_,m,rfl,fun _=> ?_,fun no=>absurd ⟨y1,y2,m1,m2⟩ no⟩
   accj_open
   exact ⟨(13 - (m+1)).toNat,by omega,m+1,by omega,rfl,by omega,by omega,by omega,rfl⟩
  ·rename_i c
   open_k0
   intro p hp
   have s:=Cal.cum_succ (y:=Cal.yearOf n) m1 m2
   refine q (Cal.yearOf n) m (n - Cal.ahead (Cal.yearOf n) - Cal.cum (Cal.yearOf n) m+1) p _ ⟨y1,y2,m1,m2,by omega,by omega⟩ (by unfold Cal.num;omega) (sm.trans (zcB hp _)) zay
def zhE (t:Adr):Sp:=fun vs H Q E=> ∃n k y m d:Int,vs= [.int n, .int k]∧Cal.Valid y m d∧Cal.num y m d=n∧
 (Cal.MonOk y m k→ ∀H',zao H H'→Q (.int (Cal.num (Cal.monY y m k) (Cal.monM y m k) (Cal.monD y m d k))) H')∧(¬Cal.MonOk y m k→ ∀H',zao H H'→E (.ref t.c_Z07) none H')
theorem sc_06:FnScope ["number","many","year","month","day","months","to_year","to_month"] ["number","many"] (zap s_06):=⟨rfl,rfl,rfl,by decide+kernel,rfl,by decide+kernel,by decide+kernel⟩
theorem ok_06 (T:Txt w K mg t):FnOk P w K mg base (CXE P w) 4 t.a_06 t.d_06 ["number","many"] (zhE t):=by
 refine T.fn_06.okX sc_06 (fun vs H Q E h=> ?_) (fun cdv A outer s H vs Q E L hr h=> ?_)
 ·obtain ⟨n,k,y,m,d,rfl,va,hn,q1,q2⟩:=h
  rfl
 obtain ⟨n,k,y,m,d,rfl,va,hn,q1,q2⟩:=h
 have nd:=sc_06.nd
 refine ⟨_,(zad (zby (zag L.toLv (ok_05 T) (hr.mono (by decide)) (by rfl) T.mg_05 T.fn_05.kp T.b_05 .nil (zaa (pv 0) zae)) (zbi (n:=3) rfl (zal (zaj (i:=2) nd rfl (Or.inl rfl)) (zal (zaj (i:=3) nd rfl (Or.inl rfl)) (zal (zaj (i:=4) nd rfl (Or.inl rfl)) zaV))))) (zad (zan (i:=5) nd rfl (Or.inl rfl) (zai zaE (zai zbP (zai zaE (zai zb9 (pv 2) zac) (pv 3)) zac) (pv 1))) (zad (zan (i:=6) nd rfl (Or.inl rfl) (zai zaK (pv 5) zac)) (zad (zan (i:=7) nd rfl (Or.inl rfl) (zai zaE (zai zaC (pv 5) zac) zac)) (zaf (zaw (zag L.toLv (ok_03 T) (hr.mono (by decide)) (by rfl) T.mg_03 T.fn_03.kp T.b_03 .nil (zaa (pv 6) (zaa (pv 7) (zaa (zaF (zc6 (by rfl)) (by rfl) T.no_min zeT (zaa (pv 4) (zaa (zag L.toLv (ok_01 T) (hr.mono (by decide)) (by rfl) T.mg_01 T.fn_01.kp T.b_01 .nil (zaa (pv 6) (zaa (pv 7) zae zab) zab)) zae zaB) zab)) zae zaB) zab) zab)))))))),?_⟩
 open_k0
 have nr:=Cal.num_range va
 refine ⟨_,rfl,fun _ y' m' d' p H1 va' hn' s1 hp=> ?_,fun no=>absurd (by omega) no⟩
 obtain ⟨rfl,rfl,rfl⟩:=Cal.num_inj va' va (by rw [hn',hn])
 refine ⟨p,_,rfl,SqT.of hp,rfl,?_⟩
 open_k0
 refine ⟨Or.inr ⟨by decide,by decide⟩,_,_,rfl,fun ok=> ?_,fun no=>q2 (fun z=>no ⟨z.1,z.2,by omega,by omega⟩) _ s1⟩
 obtain ⟨o1,o2,o3,o4⟩:=ok
 have mo:Cal.MonOk y' m' k:=⟨o1,o2⟩
 exact ⟨_,rfl,_,_,_,rfl,fun _=>q1 mo _ s1,fun no=>absurd (Cal.mon_valid va mo) no⟩
def cellOf (ns:List Int) (k:Int):Int:=ns.getD k.toNat 0
def zlA (K:PySem.W.Frag):Sp:=fun vs H Q _=> ∃(a:Addr) (ns:List Int) (k:Int),vs= [.ref a, .int k]∧SqL K H a (ns.map V.int)∧ns.length≤63∧0≤k∧Q (.int (cellOf ns k)) H
theorem sc_13:FnScope ["_law_script","_law_k"] ["_law_script","_law_k"] (zap s_13):=⟨rfl,rfl,rfl,by decide+kernel,rfl,by decide+kernel,by decide+kernel⟩
theorem ok_13 (T:Txt w K mg t):FnOk P w K mg base (CXE P w) 1 t.a_13 t.d_13 ["_law_script","_law_k"] (zlA K):=by
 refine T.fn_13.okX sc_13 (fun vs H Q E h=> ?_) (fun cdv A outer s H vs Q E L hr h=> ?_)
 ·obtain ⟨a,ns,k,rfl,hS,h63,k0,q⟩:=h
  rfl
 obtain ⟨a,ns,k,rfl,hS,h63,k0,q⟩:=h
 have nd:=sc_13.nd
 refine ⟨_,(zad (zaM (zar zcM (pv 1) (zaF zaW (by rfl) T.no_len zct (zaa (pv 0) zae)) (zat _)) (zaf (zaw (zaq zaI (pv 0) (pv 1) (fun _ _=>rfl)))) zaz) (zaf (zaw zac))),?_⟩
 open_k0
 refine ⟨_, .inl hS,?_⟩
 rw [List.length_map]
 split
 ·exact ixL hS (zcR k0 (by omega)) q
 ·have e:cellOf ns k=0:=by
   unfold cellOf
   rw [List.getD_eq_getElem?_getD,List.getElem?_eq_none (by omega)]
   rfl
  rw [e] at q
  exact q
def zfe (K:PySem.W.Frag) (H:Hp) (p:Addr) (dy:Bool) (c:Int):Prop:=SqT K H p [.str (SL (if dy then [100,97,121,115] else [109,111,110,116,104,115])), .int c]∧Cal.CycOk dy c
theorem zfe.same {K:PySem.W.Frag} {H H':Hp} {p:Addr} {dy:Bool} {c:Int} (h:zfe K H p dy c) (sm:zao H H'):zfe K H' p dy c:=⟨sm.sqT h.1,h.2⟩
def zkA (K:PySem.W.Frag) (t:Adr):Sp:=fun vs H Q E=> ∃(f:Int) (p:Addr) (dy:Bool) (c k:Int),vs= [.int f, .ref p, .int k]∧0≤f∧f≤3500000∧zfe K H p dy c∧
 (0≤k→k≤60→ ∀H',zao H H'→Q (.int (Cal.beg f dy c k)) H')∧(k<0→ ∀H',zao H H'→E (.ref t.c_Z09) none H')∧(60<k→ ∀H',zao H H'→E (.ref t.c_Z0e) none H')
theorem sc_07:FnScope ["first","cycle","k","word","many"] ["first","cycle","k"] (zap s_07):=⟨rfl,rfl,rfl,by decide+kernel,rfl,by decide+kernel,by decide+kernel⟩
theorem ok_07 (T:Txt w K mg t):FnOk P w K mg base (CXE P w) 5 t.a_07 t.d_07 ["first","cycle","k"] (zkA K t):=by
 refine T.fn_07.okX sc_07 (fun vs H Q E h=> ?_) (fun cdv A outer s H vs Q E L hr h=> ?_)
 ·obtain ⟨f,p,dy,c,k,rfl,f0,f1,hc,q1,q2,q3⟩:=h
  rfl
 obtain ⟨f,p,dy,c,k,rfl,f0,f1,hc,q1,q2,q3⟩:=h
 have nd:=sc_07.nd
 obtain ⟨u_SPANS,h_SPANS,r_SPANS⟩:=T.k_Z0b
 refine ⟨_,(zad (zaM (zar zcM (pv 2) zac (zat _)) (zaf (zcA L T.ex_Z09 (by rfl) (by rfl) T.mg_Z09 (zaa zc1 zae))) zaz) (zad (zaM (zar zd4 (pv 2) (zbS (by rfl) h_SPANS r_SPANS) (zat _)) (zaf (zcA L T.ex_Z0e (by rfl) (by rfl) T.mg_Z0e (zaa zc1 zae))) zaz) (zad (zby (pv 1) (zbi (n:=2) rfl (zal (zaj (i:=3) nd rfl (Or.inl rfl)) (zal (zaj (i:=4) nd rfl (Or.inl rfl)) zaV)))) (zad (zaM (zar zbv (pv 3) (zax st_4) (zat _)) (zaf (zaw (zag L.toLv (ok_06 T) (hr.mono (by decide)) (by rfl) T.mg_06 T.fn_06.kp T.b_06 .nil (zaa (pv 0) (zaa (zai zb9 (pv 2) (pv 4)) zae zav) zab)))) zaz) (zaf (zaw (zai zaE (pv 0) (zai zb9 (pv 2) (pv 4))))))))),?_⟩
 open_k0
 split
 ·rename_i h
  exact q2 h _ (zao.refl _)
 rename_i h0
 split
 ·rename_i h
  exact q3 h _ (zao.refl _)
 rename_i h1
 have q:=q1 (by omega) (by omega)
 refine ⟨p,_,rfl,hc.1,rfl,?_⟩
 open_k0
 obtain ⟨c0,c1⟩:=hc.2
 cases dy with
 |true=>
  rw [if_neg (by decide)]
  rw [if_pos rfl] at c1
  refine ⟨.inl ⟨by omega,by omega⟩,?_⟩
  exact q H (zao.refl _)
 |false=>
  rw [if_pos (by decide)]
  rw [if_neg (by decide)] at c1
  obtain ⟨y,m,d,va,hn⟩:=Cal.date_exists f0 (show f≤3652058 by omega)
  have mb:=Cal.mul_bound c0 c1 (show 0≤k by omega) (show k≤60 by omega)
  have mo:=Cal.mon_ok va (by omega) mb.1 mb.2
  refine ⟨.inl ⟨by omega,by omega⟩,f,k*c,y,m,d,rfl,va,hn,fun _ H' s'=> ?_,fun no=>absurd mo no⟩
  have e:Cal.beg f false c k=Cal.num (Cal.monY y m (k*c)) (Cal.monM y m (k*c)) (Cal.monD y m d (k*c)):=by
   unfold Cal.beg
   rw [if_neg (by decide),←hn,Cal.mon_eq va]
  rw [←e]
  exact q H' s'
def zjN (K:PySem.W.Frag) (t:Adr):Sp:=fun vs H Q E=> ∃(f:Int) (p:Addr) (dy:Bool) (c d:Int),vs= [.int f, .ref p, .int d]∧0≤f∧f≤3500000∧zfe K H p dy c∧
 (∀k:Int,0≤k→k<60→Cal.beg f dy c k≤d→d<Cal.beg f dy c (k+1)→ ∀p H',zao H H'→H' p=some (.tup [.int k, .int (Cal.beg f dy c k), .int (Cal.beg f dy c (k+1))])→Q (.ref p) H')∧
 (d<f→ ∀H',zao H H'→E (.ref t.c_Z09) none H')∧(Cal.beg f dy c 60≤d→ ∀H',zao H H'→E (.ref t.c_Z0e) none H')
theorem sc_08:FnScope ["first","cycle","day","low","high","middle"] ["first","cycle","day"] (zap s_08):=⟨rfl,rfl,rfl,by decide+kernel,rfl,by decide+kernel,by decide+kernel⟩
theorem ok_08 (T:Txt w K mg t):FnOk P w K mg base (CXE P w) 6 t.a_08 t.d_08 ["first","cycle","day"] (zjN K t):=by
 refine T.fn_08.okX sc_08 (fun vs H Q E h=> ?_) (fun cdv A outer s H vs Q E L hr h=> ?_)
 ·obtain ⟨f,p,dy,c,d,rfl,f0,f1,hc,q1,q2,q3⟩:=h
  rfl
 obtain ⟨f,p,dy,c,d,rfl,f0,f1,hc,q1,q2,q3⟩:=h
 have nd:=sc_08.nd
 obtain ⟨u_SPANS,h_SPANS,r_SPANS⟩:=T.k_Z0b
 refine ⟨_,(zad (zaM (zar zcM (pv 2) (pv 0) (zat _)) (zaf (zcA L T.ex_Z09 (by rfl) (by rfl) T.mg_Z09 (zaa zc1 zae))) zaz) (zad (zaM (zar zi7 (pv 2) (zag L.toLv (ok_07 T) (hr.mono (by decide)) (by rfl) T.mg_07 T.fn_07.kp T.b_07 .nil (zaa (pv 0) (zaa (pv 1) (zaa (zbS (by rfl) h_SPANS r_SPANS) zae zab) zab) zab)) (zat _)) (zaf (zcA L T.ex_Z0e (by rfl) (by rfl) T.mg_Z0e (zaa zc1 zae))) zaz) (zad (zan (i:=3) nd rfl (Or.inl rfl) zac) (zad (zan (i:=4) nd rfl (Or.inl rfl) (zbS (by rfl) h_SPANS r_SPANS)) (zad (zgx (by passes_own) (zar zd4 (zai zbP (pv 4) (pv 3)) zac (zat _)) (zad (zan (i:=5) nd rfl (Or.inl rfl) (zai zaK (zai zaE (pv 3) (pv 4)) zac)) (zaf (zaM (zar zcM (pv 2) (zag L.toLv (ok_07 T) (hr.mono (by decide)) (by rfl) T.mg_07 T.fn_07.kp T.b_07 .nil (zaa (pv 0) (zaa (pv 1) (zaa (pv 5) zae zab) zab) zab)) (zat _)) (zaf (zan (i:=4) nd rfl (Or.inl rfl) (pv 5))) (zaf (zan (i:=3) nd rfl (Or.inl rfl) (pv 5))))))) (zaf (zaw (zaJ (zaa (pv 3) (zaa (zag L.toLv (ok_07 T) (hr.mono (by decide)) (by rfl) T.mg_07 T.fn_07.kp T.b_07 .nil (zaa (pv 0) (zaa (pv 1) (zaa (pv 3) zae zab) zab) zab)) (zaa (zag L.toLv (ok_07 T) (hr.mono (by decide)) (by rfl) T.mg_07 T.fn_07.kp T.b_07 .nil (zaa (pv 0) (zaa (pv 1) (zaa (pv 4) zae zab) zab) zab)) zae zaB) zaB) zab))))))))),?_⟩
 open_k0
 split
 ·rename_i h
  exact q2 h _ (zao.refl _)
 rename_i h0
 refine ⟨f,p,dy,c,60,rfl,f0,f1,hc,fun _ _ H1 s1=> ?_,fun z=>absurd z (by decide),fun z=>absurd z (by decide)⟩
 try open_k0
 split
 ·rename_i h
  exact q3 h _ s1
 rename_i h1
 have b0:Cal.beg f dy c 0=f:=Cal.beg_zero f0 f1
 obtain ⟨Pv,hPv⟩: ∃Pv:St→Hp→Prop,Pv=fun σ1 H2=>zao H H2∧ ∃(lo hi:Int) (x5:Option V),0≤lo∧lo<hi∧hi≤60∧Cal.beg f dy c lo≤d∧d<Cal.beg f dy c hi∧σ1= [some (.int f),some (.ref p),some (.int d),some (.int lo),some (.int hi),x5]:=⟨_,rfl⟩
 obtain ⟨mu,hmu⟩: ∃mu:St→Hp→Nat,mu=fun σ1 _=>(match σ1 with| [_,_,_,some (.int lo),some (.int hi),_]=>(hi - lo).toNat|_=>0):=⟨_,rfl⟩
 refine zi4 Pv mu (by rw [hPv];exact ⟨s1,0,60,_,by decide,by decide,by decide,by omega,by omega,rfl⟩) (fun σ1 H2 h=> ?_) ?_
 ·rw [hPv] at h
  obtain ⟨s2,lo,hi,x5,l0,lh,l1,d0,d1,rfl⟩:=h
  open_k0
  split
  ·rename_i c2
   have m0:lo<(lo+hi) / 2∧(lo+hi) / 2<hi:=by omega
   generalize (lo+hi) / 2=mi at m0 ⊢
   refine ⟨f,p,dy,c,mi,rfl,f0,f1,hc.same s2,fun _ _ H3 s3=> ?_,fun z=>absurd z (by omega),fun z=>absurd z (by omega)⟩
   try open_k0
   split
   ·rename_i dm
    rw [hPv,hmu]
    exact ⟨⟨s2.trans s3,lo,mi,_,l0,m0.1,by omega,d0,dm,rfl⟩,by show (mi - lo).toNat<(hi - lo).toNat;omega⟩
   ·rename_i dm
    rw [hPv,hmu]
    exact ⟨⟨s2.trans s3,mi,hi,_,by omega,m0.2,l1,by omega,d1,rfl⟩,by show (hi - mi).toNat<(hi - lo).toNat;omega⟩
  ·rename_i c2
   obtain rfl:hi=lo+1:=by omega
   refine ⟨f,p,dy,c,lo,rfl,f0,f1,hc.same s2,fun _ _ H3 s3=> ?_,fun z=>absurd z (by omega),fun z=>absurd z (by omega)⟩
   try open_k0
   refine ⟨f,p,dy,c,lo+1,rfl,f0,f1,(hc.same s2).same s3,fun _ _ H4 s4=> ?_,fun z=>absurd z (by omega),fun z=>absurd z (by omega)⟩
   try open_k0
   intro p5 H5 _ s5 e5
   exact q1 lo l0 (by omega) d0 d1 p5 H5 (((s2.trans s3).trans s4).trans s5) e5
 ·intro σ1 H1 Q1 Q2 hm h
  obtain ⟨x,hx,y,hy,i,j,e1,e2,i2,j2,e3,e4,k,e5,r⟩:=h
  exact ⟨x,hx,y,hy,i,j,e1,e2,i2,j2,e3,e4,k,e5,hm _ _ r⟩
theorem zbR (v:V) (r:List V):atI (v::r) 0=some v:=zbw (j:=0) rfl
theorem zb7 (u v:V) (r:List V):atI (u::v::r) 1=some v:=zbw (j:=1) rfl
theorem zdw (u v x:V) (r:List V):atI (u::v::x::r) 2=some x:=zbw (j:=2) rfl
theorem zmy (u v x y:V) (r:List V):atI (u::v::x::y::r) 3=some y:=zbw (j:=3) rfl
theorem zih {f c d:Int} {dy:Bool} (b0:Cal.beg f dy c 0≤d): ∀n:Nat,d<Cal.beg f dy c n→ ∃k:Int,0≤k∧k<n∧Cal.beg f dy c k≤d∧d<Cal.beg f dy c (k+1)
 |0,h=>absurd h (by have:Cal.beg f dy c ((0:Nat):Int)=Cal.beg f dy c 0:=rfl;omega)
 |n+1,h=>by
  by_cases z:d<Cal.beg f dy c n
  ·obtain ⟨k,h1,h2,h3,h4⟩:=zih b0 n z
   exact ⟨k,h1,by omega,h3,h4⟩
  ·exact ⟨n,by omega,by omega,by omega,h⟩
def zcO (K:PySem.W.Frag) (H:Hp) (p:Addr) (l:Addr) (f:Int) (dy:Bool) (cc:Int):Prop:= ∃pc,0≤f∧f≤3500000∧zfe K H pc dy cc∧H p=some (.tup [.ref l, .int f, .ref pc])
theorem zcO.same {K:PySem.W.Frag} {H H':Hp} {p l:Addr} {f:Int} {dy:Bool} {cc:Int} (h:zcO K H p l f dy cc) (s:zao H H'):zcO K H' p l f dy cc:=
 let ⟨pc,h1,h2,h3,h4⟩:=h;⟨pc,h1,h2,h3.same s,s _ _ h4⟩
theorem zcO.cyc {K:PySem.W.Frag} {H:Hp} {p l:Addr} {f:Int} {dy:Bool} {cc:Int} (h:zcO K H p l f dy cc):0≤f∧f≤3500000∧Cal.CycOk dy cc:=let ⟨_,h1,h2,h3,_⟩:=h;⟨h1,h2,h3.2⟩
theorem zeo {f c k:Int} {dy:Bool} (f0:0≤f) (f1:f≤3500000) (hc:Cal.CycOk dy c) (k0:0≤k) (k1:k<60):0≤Cal.beg f dy c k∧Cal.beg f dy c k<Cal.beg f dy c (k+1)∧Cal.beg f dy c (k+1)<4000000:=by
 have a1:=Cal.beg_lt (k:=k) (j:=k+1) f0 f1 hc k0 (by omega) (by omega)
 have a2:=Cal.beg_ge (k:=k) f0 f1 hc k0 (by omega)
 have a3:=Cal.beg_range (k:=k+1) f0 f1 hc (by omega) (by omega)
 exact ⟨by omega,a1,by omega⟩
def zhF (K:PySem.W.Frag) (t:Adr):Sp:=fun vs H Q E=> ∃(pa l:Addr) (f:Int) (dy:Bool) (c k:Int),vs= [.ref pa, .int k]∧zcO K H pa l f dy c∧(0≤k→k<60→ ∀p H',zao H H'→H' p=some (.tup [.int (Cal.beg f dy c k), .int (Cal.beg f dy c (k+1))])→Q (.ref p) H')∧(k<0→ ∀H',zao H H'→E (.ref t.c_Z09) none H')∧(60≤k→ ∀H',zao H H'→E (.ref t.c_Z0e) none H')
theorem sc_0d:FnScope ["account","k","plans","first","cycle"] ["account","k"] (zap s_0d):=⟨rfl,rfl,rfl,by decide+kernel,rfl,by decide+kernel,by decide+kernel⟩
theorem ok_0d (T:Txt w K mg t):FnOk P w K mg base (CXE P w) 6 t.a_0d t.d_0d ["account","k"] (zhF K t):=by
 refine T.fn_0d.okX sc_0d (fun vs H Q E h=> ?_) (fun cdv A outer s H vs Q E L hr h=> ?_)
 ·obtain ⟨pa,l,f,dy,c,k,rfl,⟨pc,f0,f1,hc,ep⟩,q,q2,q3⟩:=h
  rfl
 obtain ⟨pa,l,f,dy,c,k,rfl,⟨pc,f0,f1,hc,ep⟩,q,q2,q3⟩:=h
 have nd:=sc_0d.nd
 refine ⟨_,(zad (zby (pv 0) (zbi (n:=3) rfl (zal (zaj (i:=2) nd rfl (Or.inl rfl)) (zal (zaj (i:=3) nd rfl (Or.inl rfl)) (zal (zaj (i:=4) nd rfl (Or.inl rfl)) zaV))))) (zaf (zaw (zaJ (zaa (zag L.toLv (ok_07 T) (hr.mono (by decide)) (by rfl) T.mg_07 T.fn_07.kp T.b_07 .nil (zaa (pv 3) (zaa (pv 4) (zaa (pv 1) zae zab) zab) zab)) (zaa (zag L.toLv (ok_07 T) (hr.mono (by decide)) (by rfl) T.mg_07 T.fn_07.kp T.b_07 .nil (zaa (pv 3) (zaa (pv 4) (zaa (zai zaE (pv 1) zac) zae zav) zab) zab)) zae zaB) zaB))))),?_⟩
 open_k0
 refine ⟨pa,_,rfl,SqT.of ep,rfl,?_⟩
 open_k0
 refine ⟨f,pc,dy,c,k,rfl,f0,f1,hc,fun k0 _ H1 s1=> ?_,q2,fun z=>q3 (by omega)⟩
 refine ⟨f,pc,dy,c,k+1,rfl,f0,f1,hc.same s1,fun _ k1 H2 s2=> ?_,fun z=>by omega,fun z H3 s3=>q3 (by omega) H3 (s1.trans s3)⟩
 exact fun p H3 _ s3 e3=>q k0 (by omega) p H3 ((s1.trans s2).trans s3) e3
def zhG (K:PySem.W.Frag) (t:Adr):Sp:=fun vs H Q E=> ∃(pa l:Addr) (f:Int) (dy:Bool) (c d:Int),vs= [.ref pa, .int d]∧zcO K H pa l f dy c∧
 (∀k:Int,0≤k→k<60→Cal.beg f dy c k≤d→d<Cal.beg f dy c (k+1)→ ∀p H',zao H H'→H' p=some (.tup [.int k, .int (Cal.beg f dy c k), .int (Cal.beg f dy c (k+1))])→Q (.ref p) H')∧
 (d<f→ ∀H',zao H H'→E (.ref t.c_Z09) none H')∧(Cal.beg f dy c 60≤d→ ∀H',zao H H'→E (.ref t.c_Z0e) none H')
theorem sc_0e:FnScope ["account","day","plans","first","cycle"] ["account","day"] (zap s_0e):=⟨rfl,rfl,rfl,by decide+kernel,rfl,by decide+kernel,by decide+kernel⟩
theorem ok_0e (T:Txt w K mg t):FnOk P w K mg base (CXE P w) 7 t.a_0e t.d_0e ["account","day"] (zhG K t):=by
 refine T.fn_0e.okX sc_0e (fun vs H Q E h=> ?_) (fun cdv A outer s H vs Q E L hr h=> ?_)
 ·obtain ⟨pa,l,f,dy,c,d,rfl,⟨pc,f0,f1,hc,ep⟩,q1,q2,q3⟩:=h
  rfl
 obtain ⟨pa,l,f,dy,c,d,rfl,⟨pc,f0,f1,hc,ep⟩,q1,q2,q3⟩:=h
 have nd:=sc_0e.nd
 refine ⟨_,(zad (zby (pv 0) (zbi (n:=3) rfl (zal (zaj (i:=2) nd rfl (Or.inl rfl)) (zal (zaj (i:=3) nd rfl (Or.inl rfl)) (zal (zaj (i:=4) nd rfl (Or.inl rfl)) zaV))))) (zaf (zaw (zag L.toLv (ok_08 T) (hr.mono (by decide)) (by rfl) T.mg_08 T.fn_08.kp T.b_08 .nil (zaa (pv 3) (zaa (pv 4) (zaa (pv 1) zae zab) zab) zab))))),?_⟩
 open_k0
 refine ⟨pa,_,rfl,SqT.of ep,rfl,?_⟩
 open_k0
 exact ⟨f,pc,dy,c,d,rfl,f0,f1,hc,q1,q2,q3⟩
theorem zcP (ch:Ch) (h:zbs ch=true): ∃r,(chD ch).map sv= .str (SL (chW ch)):: .int (zaA ch)::r:=by
 cases ch with
 |plan d nm=>exact ⟨_,rfl⟩
 |seats d n=>exact ⟨_,rfl⟩
 |word w d=>exact ⟨_,rfl⟩
 |undo k=>cases h
 |grant k=>cases h
 |back=>cases h
theorem zgX {ch:Ch} (h:zbs ch=true) (w4: ∀w d,ch= .word w d→w<4):(chW ch= [108,97,115,116]↔zjI ch=true):=by
 cases ch with
 |plan d nm=>exact ⟨fun z=>absurd z (by show¬([112,108,97,110]:List Nat)=_;decide),fun z=>by cases z⟩
 |seats d n=>exact ⟨fun z=>absurd z (by show¬([115,101,97,116,115]:List Nat)=_;decide),fun z=>by cases z⟩
 |word w d=>
  have:=w4 w d rfl
  match w,this with
  |0,_=>exact ⟨fun z=>absurd z (by show¬([104,111,108,100]:List Nat)=_;decide),fun z=>by cases z⟩
  |1,_=>exact ⟨fun z=>absurd z (by show¬([103,111]:List Nat)=_;decide),fun z=>by cases z⟩
  |2,_=>exact ⟨fun z=>absurd z (by show¬([115,116,111,112]:List Nat)=_;decide),fun z=>by cases z⟩
  |3,_=>exact ⟨fun _=>rfl,fun _=>rfl⟩
 |undo k=>cases h
 |grant k=>cases h
 |back=>cases h
def TmB (f e:Int) (ch:Ch):Prop:=zbs ch=true∧f≤zaA ch∧zaA ch<e∧ ∀w d,ch= .word w d→w<4
def zjO (K:PySem.W.Frag):Sp:=fun vs H Q _=> ∃(pa p l:Addr) (f:Int) (dy:Bool) (c:Int) (ch:Ch),vs= [.ref pa, .ref p]∧zcO K H pa l f dy c∧SqT K H p ((chD ch).map sv)∧TmB f (Cal.beg f dy c 60) ch∧ ∀H',zao H H'→Q (.int (cntF f dy c ch)) H'
theorem sc_0g:FnScope ["account","change","own_day","k","begin","end"] ["account","change"] (zap s_0g):=⟨rfl,rfl,rfl,by decide+kernel,rfl,by decide+kernel,by decide+kernel⟩
theorem ok_0g (T:Txt w K mg t):FnOk P w K mg base (CXE P w) 8 t.a_0g t.d_0g ["account","change"] (zjO K):=by
 refine T.fn_0g.okX sc_0g (fun vs H Q E h=> ?_) (fun cdv A outer s H vs Q E L hr h=> ?_)
 ·obtain ⟨pa,p,l,f,dy,c,ch,rfl,ha,hp,⟨tm,d0,d1,w4⟩,q⟩:=h
  rfl
 obtain ⟨pa,p,l,f,dy,c,ch,rfl,ha,hp,⟨tm,d0,d1,w4⟩,q⟩:=h
 have nd:=sc_0g.nd
 refine ⟨_,(zad (zan (i:=2) nd rfl (Or.inl rfl) (zaq zas (pv 1) zac (fun _ _=>rfl))) (zad (zaM (zar zbv (zaq zas (pv 1) zac (fun _ _=>rfl)) (zax st_9) (zat _)) (zad (zby (zag L.toLv (ok_0e T) (hr.mono (by decide)) (by rfl) T.mg_0e T.fn_0e.kp T.b_0e .nil (zaa (pv 0) (zaa (pv 2) zae zab) zab)) (zbi (n:=3) rfl (zal (zaj (i:=3) nd rfl (Or.inl rfl)) (zal (zaj (i:=4) nd rfl (Or.inl rfl)) (zal (zaj (i:=5) nd rfl (Or.inl rfl)) zaV))))) (zaf (zaw (pv 5)))) zaz) (zaf (zaw (pv 2))))),?_⟩
 obtain ⟨r,er⟩:=zcP ch tm
 rw [er] at hp
 have lw:=zgX tm w4
 unfold cntF at q
 open_k0
 refine ixT hp (zb7 _ _ _) (ixT hp (zbR _ _) ⟨rfl,?_⟩)
 by_cases e:chW ch= [108,97,115,116]
 ·rw [if_pos (lw.mp e)] at q
  obtain ⟨f0,f1,hc⟩:=ha.cyc
  refine zbr (by rw [e]) ⟨pa,l,f,dy,c,_,rfl,ha,fun k k0 k1 a1 a2 p1 H1 s1 e1=> ?_,fun z=>by omega,fun z=>by omega⟩
  rw [←zjJ f0 f1 hc k0 k1 a1 a2] at e1
  refine ⟨p1,_,rfl,SqT.of e1,rfl,?_⟩
  open_k0
  exact q H1 s1
 ·rw [if_neg (fun z=>e (lw.mpr z))] at q
  exact zaT (zbo e) (q _ (zao.refl _))
theorem zlB {f c:Int} {dy:Bool} {ch:Ch} (f0:0≤f) (f1:f≤3500000) (hc:Cal.CycOk dy c) (h:TmB f (Cal.beg f dy c 60) ch):0≤cntF f dy c ch∧cntF f dy c ch<4000000:=by
 obtain ⟨tm,d0,d1,w4⟩:=h
 have b6:=Cal.beg_range (k:=60) f0 f1 hc (by decide) (by decide)
 unfold cntF
 split
 ·have b0:Cal.beg f dy c 0=f:=Cal.beg_zero f0 f1
  obtain ⟨k,k0,k1,a1,a2⟩:=zih (f:=f) (c:=c) (dy:=dy) (d:=zaA ch) (by omega) 60 d1
  rw [zjJ f0 f1 hc k0 k1 a1 a2]
  have:=Cal.beg_range (k:=k+1) f0 f1 hc (by omega) (by omega)
  omega
 ·omega
abbrev Tm:=Addr×Addr×Int×Ch
def zkB (K:PySem.W.Frag) (H:Hp) (f e:Int) (t:Tm):Prop:=(H t.1=some (.tup [.int t.2.2.1, .ref t.2.1])∧SqT K H t.2.1 ((chD t.2.2.2).map sv))∧(0≤t.2.2.1∧t.2.2.1<64)∧TmB f e t.2.2.2
def zde (K:PySem.W.Frag) (H:Hp) (l:Addr) (f e:Int) (ts:List Tm):Prop:=H l=some (.lst (ts.map fun t=>V.ref t.1))∧ts.length<64∧(∀t∈ts,zkB K H f e t)∧ts.Pairwise (fun x y=>x.2.2.1≠y.2.2.1)
theorem zkB.same {K:PySem.W.Frag} {H H':Hp} {f e:Int} {t:Tm} (h:zkB K H f e t) (s:zao H H'):zkB K H' f e t:=⟨⟨s _ _ h.1.1,s.sqT h.1.2⟩,h.2⟩
theorem zde.same {K:PySem.W.Frag} {H H':Hp} {l:Addr} {f e:Int} {ts:List Tm} (h:zde K H l f e ts) (s:zao H H'):zde K H' l f e ts:=⟨s _ _ h.1,h.2.1,fun t ht=>(h.2.2.1 t ht).same s,h.2.2.2⟩
theorem zjP {α β:Type} {g:α→β} {ws l:List β} (h:ws.Perm l): ∀os:List α,l=os.map g→ ∃os':List α,os'.Perm os∧os'.map g=ws:=by
 induction h with
 |nil=>intro os e;exact ⟨os, .refl _,e.symm⟩
 |cons x _ ih=>
  intro os e
  match os,e with
  |o::r,e=>
   obtain ⟨e1,e2⟩:=List.cons.inj e
   obtain ⟨r',p,m⟩:=ih r e2
   exact ⟨o::r',p.cons o,by rw [List.map_cons,m,e1]⟩
 |swap x y l=>
  intro os e
  match os,e with
  |a::b::r,e=>
   obtain ⟨e1,e2⟩:=List.cons.inj e
   obtain ⟨e3,e4⟩:=List.cons.inj e2
   exact ⟨b::a::r, .swap a b r,by rw [List.map_cons,List.map_cons,e1,e3,e4]⟩
 |trans _ _ ih1 ih2=>
  intro os e
  obtain ⟨os2,p2,m2⟩:=ih2 os e
  obtain ⟨os1,p1,m1⟩:=ih1 os2 m2.symm
  exact ⟨os1,p1.trans p2,m1⟩
noncomputable def rtT (f:Int) (dy:Bool) (c:Int) (t:Tm):Rt:=rtF f dy c t.2.2.1 t.2.2.2
abbrev Or':=Addr×Tm
def zff (K:PySem.W.Frag) (H:Hp) (l:Addr) (f:Int) (dy:Bool) (c:Int) (os:List Or'):Prop:=H l=some (.lst (os.map fun o=>V.ref o.1))∧os.length<64∧(∀o∈os,H o.1=some (.tup [.int (cntF f dy c o.2.2.2.2), .int (zaA o.2.2.2.2), .int o.2.2.2.1, .ref o.2.2.1])∧SqT K H o.2.2.1 ((chD o.2.2.2.2).map sv)∧TmB f (Cal.beg f dy c 60) o.2.2.2.2)∧os.Pairwise (fun x y=>cntF f dy c x.2.2.2.2≤cntF f dy c y.2.2.2.2∧(rtT f dy c x.2).2.2.1<(rtT f dy c y.2).2.2.1)
def ziI (K:PySem.W.Frag):Sp:=fun vs H Q _=> ∃(pa l la:Addr) (f:Int) (dy:Bool) (c:Int) (ts:List Tm),vs= [.ref pa, .ref l]∧zcO K H pa la f dy c∧zde K H l f (Cal.beg f dy c 60) ts∧ ∀l' os H',zao H H'→zff K H' l' f dy c os→(∀t,t∈os.map (·.2)↔t∈ts)→Q (.ref l') H'
theorem sc_0h:FnScope ["account","terms"] ["account","terms"] (zap s_0h):=⟨rfl,rfl,rfl,by decide+kernel,rfl,by decide+kernel,by decide+kernel⟩
theorem ok_0h (T:Txt w K mg t):FnOk P w K mg base (CXE P w) 9 t.a_0h t.d_0h ["account","terms"] (ziI K):=by
 refine T.fn_0h.okX sc_0h (fun vs H Q E h=> ?_) (fun cdv A outer s H vs Q E L hr h=> ?_)
 ·obtain ⟨pa,l,la,f,dy,c,ts,rfl,ha,ht,q⟩:=h
  rfl
 obtain ⟨pa,l,la,f,dy,c,ts,rfl,ha,ht,q⟩:=h
 have nd:=sc_0h.nd
 refine ⟨_,(zaf (zaw (zaF zgf (by rfl) T.no_sorted zfF (zaa (zcK (n:=2) (N:= ["number","change","account"]) (js:= [0]) (by rfl) rfl rfl (zbu (pv 1)) (fun a=>(zbi (n:=2) rfl (zal (zaj (i:=0) (show List.Nodup (["number","change","account"]:List Str) from by decide+kernel) rfl (Or.inl rfl)) (zal (zaj (i:=1) (show List.Nodup (["number","change","account"]:List Str) from by decide+kernel) rfl (Or.inl rfl)) zaV)))) (fun a=>zcC) (fun a=>(zaJ (zaa (zag zfD (ok_0g T) (hr.mono (by decide)) (by rfl) T.mg_0g T.fn_0g.kp T.b_0g .nil (zaa (pv 2) (zaa (pv 1) zae zab) zab)) (zaa (zaq zas (pv 1) zac (fun _ _=>rfl)) (zaa (pv 0) (zaa (pv 1) zae zab) zab) zak) zaB)))) zae)))),?_⟩
 obtain ⟨f0,f1,hc⟩:=ha.cyc
 have b6:=Cal.beg_range (k:=60) f0 f1 hc (by decide) (by decide)
 obtain ⟨el,n64,hts,hn⟩:=id ht
 open_k0
 refine ⟨_,rfl,l,rfl,⟨_,SqL.of el⟩,fun l2 hl2 aa=> ?_⟩
 refine zb0 (fun j xs H5=> ∃as:List Addr,xs=as.map V.ref∧as.length=j∧ ∀(i:Nat) (a:Addr) (t:Tm),as[i]? =some a→ts[i]? =some t→H5 a=some (.tup [.int (cntF f dy c t.2.2.2), .int (zaA t.2.2.2), .int t.2.2.1, .ref t.2.1])) (zb3 (SqL.of el)) hl2 (by rw [List.length_map];exact za7 (by omega)) (fun _ _=>⟨[],rfl,rfl,fun i a t h=>by rw [List.getElem?_nil] at h;cases h⟩) (fun j x xs H8 K1 K0 hx sm pv hl k1 k0=> ?_) (fun xs H2 s2 pv _ w2=> ?_)
 ·obtain ⟨u,hz,rfl⟩: ∃u,ts[j]? =some u∧x= .ref u.1:=by
   rw [List.getElem?_map] at hx
   obtain ⟨u,e,rfl⟩:=Option.map_eq_some_iff.mp hx
   exact ⟨u,e,rfl⟩
  obtain ⟨⟨z1,z2⟩,zn,tb⟩:=hts u (List.mem_of_getElem? hz)
  obtain ⟨as,rfl,al,pa'⟩:=pv
  obtain ⟨r,er⟩:=zcP u.2.2.2 tb.1
  lgec_open0
  refine ⟨_,_,rfl,SqT.of (sm _ _ z1),rfl,?_⟩
  lgec_open0
  refine ⟨pa,u.2.1,la,f,dy,c,u.2.2.2,rfl,ha.same sm,sm.sqT z2,tb,fun H9 s9=> ?_⟩
  rw [er] at z2
  refine ixT (s9.sqT (sm.sqT z2)) (zb7 _ _ _) ⟨zbU (by decide),fun p H10 hp s10 e10=>k1 _ _ (s9.trans s10) fun H5 h5=>⟨as++ [p],by rw [List.map_append];rfl,by rw [List.length_append,al];rfl,fun i a t h1 h2=> ?_⟩⟩
  have s810:=s9.trans s10
  have nl: ∀a xs,H10 a=some (.tup xs)→a≠l2:=fun a xs h z=>by rw [z,s810 _ _ hl] at h;cases h
  rw [List.getElem?_append] at h1
  by_cases hi:i<as.length
  ·rw [if_pos hi] at h1
   have:=s810 _ _ (pa' i a t h1 h2)
   exact h5 _ _ (nl _ _ this) this
  ·rw [if_neg hi] at h1
   have i0:i - as.length=0:=by
    rcases Nat.lt_or_ge (i - as.length) 1 with z|z
    ·omega
    ·rw [List.getElem?_eq_none (by simpa using z)] at h1;cases h1
   rw [i0] at h1
   cases h1
   obtain rfl:i=j:=by omega
   rw [hz] at h2
   cases h2
   exact h5 _ _ (nl _ _ e10) e10
 rw [List.length_map] at pv
 obtain ⟨as,rfl,al,pa'⟩:=pv
 obtain ⟨os,hos⟩: ∃os:List Or',os=as.zip ts:=⟨_,rfl⟩
 have om: ∀o∈os,∃i:Nat,as[i]? =some o.1∧ts[i]? =some o.2:=fun o ho=>by
  rw [hos] at ho
  obtain ⟨i,hi,e⟩:=List.mem_iff_getElem.mp ho
  rw [List.length_zip] at hi
  refine ⟨i,?_,?_⟩
  ·rw [List.getElem?_eq_getElem (by omega),←e,List.getElem_zip]
  ·rw [List.getElem?_eq_getElem (by omega),←e,List.getElem_zip]
 have ol:os.length=ts.length:=by rw [hos,List.length_zip,al,Nat.min_self]
 have o1:os.map (·.1)=as:=by rw [hos];exact List.map_fst_zip (by omega)
 have o2:os.map (·.2)=ts:=by rw [hos];exact List.map_snd_zip (by omega)
 have ob: ∀o∈os,H2 o.1=some (.tup [.int (cntF f dy c o.2.2.2.2), .int (zaA o.2.2.2.2), .int o.2.2.2.1, .ref o.2.2.1])∧SqT K H2 o.2.2.1 ((chD o.2.2.2.2).map sv)∧TmB f (Cal.beg f dy c 60) o.2.2.2.2∧(0≤o.2.2.2.1∧o.2.2.2.1<64):=fun o ho=>by
  obtain ⟨i,h1,h2⟩:=om o ho
  obtain ⟨⟨z1,z2⟩,zn,tb⟩:=hts o.2 (List.mem_of_getElem? h2)
  exact ⟨pa' i _ _ h1 h2,s2.sqT z2,tb,zn⟩
 obtain ⟨zf,hzf⟩: ∃zf:Or'→Tz,zf=fun o=>(o.1,cntF f dy c o.2.2.2.2,zaA o.2.2.2.2,o.2.2.2.1):=⟨_,rfl⟩
 refine ⟨l2,rfl,os.map zf,by rw [w2,List.map_map,←o1,List.map_map,hzf];rfl,by rw [List.length_map];omega,fun z hz=> ?_,?_,fun ws wp wo p H3 hp s3 e3=> ?_⟩
 ·obtain ⟨o,ho,rfl⟩:=List.mem_map.mp hz
  obtain ⟨a1,a2,a3,a4⟩:=ob o ho
  have ci:=zlB f0 f1 hc a3
  rw [hzf]
  exact ⟨⟨ci,⟨by show 0≤zaA o.2.2.2.2;have:=a3.2.1;omega,by show zaA o.2.2.2.2<4000000;have:=a3.2.2.1;omega⟩,a4⟩,_,a1⟩
 ·rw [List.pairwise_map,hzf]
  have:=hn
  rw [←o2,List.pairwise_map] at this
  exact this
 ·obtain ⟨os',op,rfl⟩:=zjP wp os rfl
  refine q p os' H3 (s2.trans s3) ⟨by rw [e3,List.map_map,hzf];rfl,by rw [op.length_eq];omega,fun o ho=> ?_,?_⟩ fun t=> ?_
  ·obtain ⟨a1,a2,a3,_⟩:=ob o (op.mem_iff.mp ho)
   exact ⟨s3 _ _ a1,s3.sqT a2,a3⟩
  ·rw [List.pairwise_map,hzf] at wo
   exact wo
  ·rw [(op.map (·.2)).mem_iff,o2]
theorem zfg: ∀{w:Nat},w<4→(zcD w= [104,111,108,100]∧zeE w= [104,101,108,100])∨(zcD w= [103,111]∧zeE w= [111,110])∨(zcD w= [115,116,111,112]∧zeE w= [111,102,102])∨(zcD w= [108,97,115,116]∧zeE w= [111,102,102])
 |0,_=> .inl ⟨rfl,rfl⟩
 |1,_=> .inr (.inl ⟨rfl,rfl⟩)
 |2,_=> .inr (.inr (.inl ⟨rfl,rfl⟩))
 |3,_=> .inr (.inr (.inr ⟨rfl,rfl⟩))
def on':D:= .str [111,110]
def stT (o0 o1 o2:Option Rt):List D:= [stV o0 .non,stV o1 (.int 1),stV o2 on']
def zd1 (f:Int) (dy:Bool) (c:Int) (ts:List Tm) (day:Int) (o0 o1 o2:Option Rt):Prop:=Bst (ts.map (rtT f dy c)) day 0 o0∧Bst (ts.map (rtT f dy c)) day 1 o1∧Bst (ts.map (rtT f dy c)) day 2 o2
def ziJ (K:PySem.W.Frag):Sp:=fun vs H Q _=> ∃(l:Addr) (d:Int) (f:Int) (dy:Bool) (c:Int) (os:List Or'),vs= [.ref l, .int d]∧zff K H l f dy c os∧ ∀p o0 o1 o2 H',zao H H'→zd1 f dy c (os.map (·.2)) d o0 o1 o2→H' p=some (.tup ((stT o0 o1 o2).map sv))→Q (.ref p) H'
theorem sc_0i:FnScope ["ordered","day","name","seats","word","counts","own_day","number","change"] ["ordered","day"] (zap s_0i):=⟨rfl,rfl,rfl,by decide+kernel,rfl,by decide+kernel,by decide+kernel⟩
theorem ok_0i (T:Txt w K mg t):FnOk P w K mg base (CXE P w) 1 t.a_0i t.d_0i ["ordered","day"] (ziJ K):=by
 refine T.fn_0i.okX sc_0i (fun vs H Q E h=> ?_) (fun cdv A outer s H vs Q E L hr h=> ?_)
 ·obtain ⟨l,d,f,dy,c,os,rfl,ho,q⟩:=h
  rfl
 obtain ⟨l,d,f,dy,c,os,rfl,ho,q⟩:=h
 have nd:=sc_0i.nd
 refine ⟨_,(zad (zan (i:=2) nd rfl (Or.inl rfl) zeN) (zad (zan (i:=3) nd rfl (Or.inl rfl) zac) (zad (zan (i:=4) nd rfl (Or.inl rfl) (zax st_10)) (zad (zbO (by passes_own) rfl (zbu (pv 0)) (zbi (n:=4) rfl (zal (zaj (i:=5) nd rfl (Or.inl rfl)) (zal (zaj (i:=6) nd rfl (Or.inl rfl)) (zal (zaj (i:=7) nd rfl (Or.inl rfl)) (zal (zaj (i:=8) nd rfl (Or.inl rfl)) zaV))))) (zad (zaM (zar zd4 (pv 5) (pv 1) (zat _)) (zaf zgv) zaz) (zaf (zaM (zar zbv (zaq zas (pv 8) zac (fun _ _=>rfl)) (zax st_11) (zat _)) (zaf (zan (i:=2) nd rfl (Or.inl rfl) (zaq zas (pv 8) zac (fun _ _=>rfl)))) (zaf (zaM (zar zbv (zaq zas (pv 8) zac (fun _ _=>rfl)) (zax st_12) (zat _)) (zaf (zan (i:=3) nd rfl (Or.inl rfl) (zaq zas (pv 8) zac (fun _ _=>rfl)))) (zaf (zan (i:=4) nd rfl (Or.inl rfl) (zjB (by rfl) T.k_Z0f (zaq zas (pv 8) zac (fun _ _=>rfl)) (fun _ _=>rfl)))))))))) (zaf (zaw (zaJ (zaa (pv 2) (zaa (pv 3) (zaa (pv 4) zae zab) zab) zab)))))))),?_⟩
 obtain ⟨el,n64,h3,so⟩:=id ho
 have fin: ∀(i:Nat) (kd:Nat) (o':Option Rt),(i=os.length∨ ∃x,os[i]? =some x∧d<cntF f dy c x.2.2.2.2)→Bst ((os.take i).map fun x=>rtT f dy c x.2) d kd o'→Bst ((os.map (·.2)).map (rtT f dy c)) d kd o':=fun i kd o' hi hb=>by
  rw [List.map_map]
  refine hb.more (fun t ht=> ?_) fun t ht nt=> ?_
  ·obtain ⟨x,hx,rfl⟩:=List.mem_map.mp ht
   exact List.mem_map.mpr ⟨x,List.mem_of_mem_take hx,rfl⟩
  ·obtain ⟨x,hx,rfl⟩:=List.mem_map.mp ht
   have nx:x∉os.take i:=fun z=>nt (List.mem_map.mpr ⟨x,z,rfl⟩)
   show d<cntF f dy c x.2.2.2.2
   rcases hi with rfl|⟨y,hy,ly⟩
   ·rw [List.take_length] at nx
    exact absurd hx nx
   ·obtain ⟨j,hj,ej⟩:=List.mem_iff_getElem.mp hx
    obtain ⟨hi',ey⟩:=List.getElem?_eq_some_iff.mp hy
    by_cases jl:j<i
    ·exact absurd (List.mem_iff_getElem.mpr ⟨j,by rw [List.length_take];omega,by rw [List.getElem_take,ej]⟩) nx
    ·by_cases ji:j=i
     ·subst ji
      rw [ej] at ey
      rw [ey]
      exact ly
     ·have:=(List.pairwise_iff_getElem.mp so i j hi' hj (by omega)).1
      rw [ey,ej] at this
      omega
 open_k0
 ((try dsimp only);refine zbX fun R hR=> ?_;lge_open0)
 refine ⟨⟨_,SqL.of el⟩,hR _ _ ?_⟩
 clear hR
 obtain ⟨Pv,hPv⟩: ∃Pv:Nat→St→Hp→Prop,Pv=fun i σ1 H7=>zao H H7∧ ∃(o0 o1 o2:Option Rt) (x5 x6 x7 x8:Option V),(Bst ((os.take i).map fun x=>rtT f dy c x.2) d 0 o0∧Bst ((os.take i).map fun x=>rtT f dy c x.2) d 1 o1∧Bst ((os.take i).map fun x=>rtT f dy c x.2) d 2 o2)∧σ1= [some (.ref l),some (.int d),some (sv (stV o0 .non)),some (sv (stV o1 (.int 1))),some (sv (stV o2 on')),x5,x6,x7,x8]:=⟨_,rfl⟩
 have b0: ∀kd,Bst ((os.take 0).map fun x=>rtT f dy c x.2) d kd none:=fun kd t h=>by rw [List.take_zero] at h;cases h
 refine zcz (xs:=os.map fun o=>V.ref o.1) Pv (by rw [hPv];exact ⟨zao.refl _,none,none,none,_,_,_,_,⟨b0 0,b0 1,b0 2⟩,rfl⟩) (fun _ _ _ _ h=>by rw [hPv] at h;exact SqL.of (h.1 _ _ el)) (fun i x σ1 H7 hx h=> ?_) (fun σ1 H7 h=> ?_)
 ·rw [hPv] at h
  obtain ⟨s7,o0,o1,o2,x5,x6,x7,x8,⟨c0,c1,c2⟩,rfl⟩:=h
  obtain ⟨o,hz,rfl⟩: ∃o,os[i]? =some o∧x= .ref o.1:=by
   rw [List.getElem?_map] at hx
   obtain ⟨u,e,rfl⟩:=Option.map_eq_some_iff.mp hx
   exact ⟨u,e,rfl⟩
  obtain ⟨a1,a2,tb⟩:=h3 o (List.mem_of_getElem? hz)
  have a2':=s7.sqT a2
  obtain ⟨r,er⟩:=zcP o.2.2.2.2 tb.1
  rw [er] at a2'
  have tk:(os.take (i+1)).map (fun x=>rtT f dy c x.2)=(os.take i).map (fun x=>rtT f dy c x.2)++ [rtT f dy c o.2]:=by rw [List.take_add_one,hz,Option.toList_some,List.map_append];rfl
  have rb: ∀(kd:Nat) (o':Option Rt),Bst ((os.take i).map fun x=>rtT f dy c x.2) d kd o'→ ∀t,o'=some t→t.2.2.1≤(rtT f dy c o.2).2.2.1:=fun kd o' hb t e=>by
   subst e
   obtain ⟨y,hy,rfl⟩:=List.mem_map.mp hb.1
   obtain ⟨j,hj,ej⟩:=List.mem_iff_getElem.mp hy
   rw [List.length_take] at hj
   rw [List.getElem_take] at ej
   obtain ⟨hi',eo⟩:=List.getElem?_eq_some_iff.mp hz
   have:=(List.pairwise_iff_getElem.mp so j i (by omega) hi' (by omega)).2
   rw [ej,eo] at this
   omega
  open_k0
  refine ⟨o.1,_,rfl,SqT.of (s7 _ _ a1),rfl,?_⟩
  simp only [zbe,zaU,zbK,zbd,zcx,zbc,zcr,zaS,zbJ,zbb,zbm,zbI,tDc,za4,za5,za3,zbG,zbH,zbl,zbn,za2,zaG,zaH,zcq,List.replicate,Option.join_some,Option.join_none,za6,zcv,zbF,zaR,tSl,zcs,zcp,zcu,slT,zcg,Int.reduceLT,Int.reduceLE,Int.reduceToNat,Int.reduceNeg,Int.reduceAdd,Int.reduceSub,Int.reduceMul,forall_const,zcl,zbC,zcn,zcm,zbM,zbD,zcc,zbq,zbt,zcf,zce,tC,tOp,rI,rI0,tUn,rU,zbE,tB,zci,tOr,zcj,zbA,zck,zbB,tIf,zbx,zch,za9,zbk,tCB,zba,rEq,rNe,zaX,zaY,zaZ,za0,za1,zbj,zco,ipI,L2.start,List.map_cons,List.map_nil,List.length_cons,List.length_nil,List.cons_append,List.nil_append,List.append_nil,List.replicate_succ,List.replicate_zero,Nat.reduceAdd,Nat.reduceSub,List.getElem?_cons_zero,List.getElem?_cons_succ,List.set_cons_zero,List.set_cons_succ,Option.some.injEq,V.int.injEq,V.bl.injEq,V.ref.injEq,V.str.injEq,exists_eq_left',exists_eq_left,exists_eq',exists_and_left,List.cons.injEq,and_true,true_and,and_self,and_assoc,decide_eq_true_eq,if_true,if_false,Bool.true_eq_false,Bool.false_eq_true,Bool.not_eq_true',Bool.not_true,Bool.not_false,decide_eq_false_iff_not,ite_true,ite_false,reduceCtorEq,false_and,exists_false,false_or,or_false,and_false,zg8,Nat.reduceLeDiff]
  refine zbY (fun h p H8 _ s8 e8=>q p o0 o1 o2 H8 (s7.trans s8) ⟨fin i 0 _ (.inr ⟨o,hz,h⟩) c0,fin i 1 _ (.inr ⟨o,hz,h⟩) c1,fin i 2 _ (.inr ⟨o,hz,h⟩) c2⟩ e8) (fun h=> ?_)
  have nx: ∀(o0' o1' o2':Option Rt),Bst ((os.take i).map (fun x=>rtT f dy c x.2)++ [rtT f dy c o.2]) d 0 o0'→Bst ((os.take i).map (fun x=>rtT f dy c x.2)++ [rtT f dy c o.2]) d 1 o1'→Bst ((os.take i).map (fun x=>rtT f dy c x.2)++ [rtT f dy c o.2]) d 2 o2'→Pv (i+1) [some (.ref l),some (.int d),some (sv (stV o0' .non)),some (sv (stV o1' (.int 1))),some (sv (stV o2' on')),some (.int (cntF f dy c o.2.2.2.2)),some (.int (zaA o.2.2.2.2)),some (.int o.2.2.2.1),some (.ref o.2.2.1)] H7:=fun o0' o1' o2' h0 h1 h2=>by
   rw [←tk] at h0 h1 h2
   rw [hPv]
   exact ⟨s7,o0',o1',o2',_,_,_,_,⟨h0,h1,h2⟩,rfl⟩
  have le:(rtT f dy c o.2).2.1≤d:=by show cntF f dy c o.2.2.2.2≤d;omega
  have ne: ∀{kd:Nat},chK o.2.2.2.2≠kd→(rtT f dy c o.2).1=kd→d<(rtT f dy c o.2).2.1:=fun h e=>absurd e h
  refine ixT a2' (zbR _ _) ⟨rfl,?_⟩
  cases hch:o.2.2.2.2 with
  |plan dd nm=>
   rw [hch] at er a2'
   cases er
   have k0:chK o.2.2.2.2=0:=by rw [hch];rfl
   have g:=nx (some (rtT f dy c o.2)) o1 o2 (c0.last k0 le (rb 0 o0 c0)) (c1.skip (ne (by rw [k0];decide))) (c2.skip (ne (by rw [k0];decide)))
   rw [show sv (stV (some (rtT f dy c o.2)) .non)= .str (SL nm) by show sv (zem o.2.2.2.2)=_;rw [hch];rfl,hch] at g
   exact zbr rfl (ixT a2' (zdw _ _ _ _) g)
  |seats dd n=>
   rw [hch] at er a2'
   cases er
   have k0:chK o.2.2.2.2=1:=by rw [hch];rfl
   have g:=nx o0 (some (rtT f dy c o.2)) o2 (c0.skip (ne (by rw [k0];decide))) (c1.last k0 le (rb 1 o1 c1)) (c2.skip (ne (by rw [k0];decide)))
   rw [show sv (stV (some (rtT f dy c o.2)) (.int 1))= .int n by show sv (zem o.2.2.2.2)=_;rw [hch];rfl,hch] at g
   exact zaT (zbo (by show¬([115,101,97,116,115]:List Nat)=_;decide)) (ixT a2' (zbR _ _) ⟨rfl,zbr rfl (ixT a2' (zdw _ _ _ _) g)⟩)
  |word wi dd=>
   have w4:=tb.2.2.2 wi dd hch
   rw [hch] at er a2'
   have k0:chK o.2.2.2.2=2:=by rw [hch];rfl
   have g:=nx o0 o1 (some (rtT f dy c o.2)) (c0.skip (ne (by rw [k0];decide))) (c1.skip (ne (by rw [k0];decide))) (c2.last k0 le (rb 2 o2 c2))
   rw [show sv (stV (some (rtT f dy c o.2)) on')= .str (SL (zeE wi)) by show sv (zem o.2.2.2.2)=_;rw [hch];rfl,hch] at g
   rw [show chW (.word wi dd)=zcD wi from rfl] at a2' ⊢
   rcases zfg w4 with ⟨ew,et⟩|⟨ew,et⟩|⟨ew,et⟩|⟨ew,et⟩
   ·rw [ew] at a2' ⊢
    rw [et] at g
    exact zaT (zbo (by decide)) (ixT a2' (zbR _ _) ⟨rfl,zaT (zbo (by decide)) (ixT a2' (zbR _ _) ⟨_,rfl,_,rfl,g⟩)⟩)
   ·rw [ew] at a2' ⊢
    rw [et] at g
    exact zaT (zbo (by decide)) (ixT a2' (zbR _ _) ⟨rfl,zaT (zbo (by decide)) (ixT a2' (zbR _ _) ⟨_,rfl,_,rfl,g⟩)⟩)
   ·rw [ew] at a2' ⊢
    rw [et] at g
    exact zaT (zbo (by decide)) (ixT a2' (zbR _ _) ⟨rfl,zaT (zbo (by decide)) (ixT a2' (zbR _ _) ⟨_,rfl,_,rfl,g⟩)⟩)
   ·rw [ew] at a2' ⊢
    rw [et] at g
    exact zaT (zbo (by decide)) (ixT a2' (zbR _ _) ⟨rfl,zaT (zbo (by decide)) (ixT a2' (zbR _ _) ⟨_,rfl,_,rfl,g⟩)⟩)
  |undo k=>have:=tb.1;rw [hch] at this;cases this
  |grant k=>have:=tb.1;rw [hch] at this;cases this
  |back=>have:=tb.1;rw [hch] at this;cases this
 ·rw [hPv] at h
  obtain ⟨s7,o0,o1,o2,x5,x6,x7,x8,⟨c0,c1,c2⟩,rfl⟩:=h
  rw [List.length_map] at c0 c1 c2
  open_k0
  exact fun p H8 _ s8 e8=>q p o0 o1 o2 H8 (s7.trans s8) ⟨fin _ 0 _ (.inl rfl) c0,fin _ 1 _ (.inl rfl) c1,fin _ 2 _ (.inl rfl) c2⟩ e8
def ziK (K:PySem.W.Frag) (t:Adr):Sp:=fun vs H Q E=> ∃(pa l la:Addr) (f:Int) (dy:Bool) (c d:Int) (ts:List Tm),vs= [.ref pa, .ref l, .int d]∧zcO K H pa la f dy c∧zde K H l f (Cal.beg f dy c 60) ts∧
 (f≤d→d<Cal.beg f dy c 60→ ∀p ts' o0 o1 o2 H',zao H H'→(∀t,t∈ts'↔t∈ts)→zd1 f dy c ts' d o0 o1 o2→H' p=some (.tup ((stT o0 o1 o2).map sv))→Q (.ref p) H')∧
 (d<f→ ∀H',zao H H'→E (.ref t.c_Z09) none H')∧(Cal.beg f dy c 60≤d→ ∀H',zao H H'→E (.ref t.c_Z0e) none H')
theorem sc_0j:FnScope ["account","terms","day"] ["account","terms","day"] (zap s_0j):=⟨rfl,rfl,rfl,by decide+kernel,rfl,by decide+kernel,by decide+kernel⟩
theorem ok_0j (T:Txt w K mg t):FnOk P w K mg base (CXE P w) 10 t.a_0j t.d_0j ["account","terms","day"] (ziK K t):=by
 refine T.fn_0j.okX sc_0j (fun vs H Q E h=> ?_) (fun cdv A outer s H vs Q E L hr h=> ?_)
 ·obtain ⟨pa,l,la,f,dy,c,d,ts,rfl,ha,ht,q1,q2,q3⟩:=h
  rfl
 obtain ⟨pa,l,la,f,dy,c,d,ts,rfl,ha,ht,q1,q2,q3⟩:=h
 have nd:=sc_0j.nd
 refine ⟨_,(zad (zb8 (zag L.toLv (ok_0e T) (hr.mono (by decide)) (by rfl) T.mg_0e T.fn_0e.kp T.b_0e .nil (zaa (pv 0) (zaa (pv 2) zae zab) zab))) (zaf (zaw (zag L.toLv (ok_0i T) (hr.mono (by decide)) (by rfl) T.mg_0i T.fn_0i.kp T.b_0i .nil (zaa (zag L.toLv (ok_0h T) (hr.mono (by decide)) (by rfl) T.mg_0h T.fn_0h.kp T.b_0h .nil (zaa (pv 0) (zaa (pv 1) zae zab) zab)) (zaa (pv 2) zae zab) zaB))))),?_⟩
 obtain ⟨f0,f1,hc⟩:=ha.cyc
 have b0:Cal.beg f dy c 0=f:=Cal.beg_zero f0 f1
 open_k0
 refine ⟨pa,la,f,dy,c,d,rfl,ha,fun k k0 k1 a1 a2 p1 H1 s1 _=> ?_,q2,q3⟩
 refine ⟨pa,l,la,f,dy,c,ts,rfl,ha.same s1,ht.same s1,fun l2 os H2 s2 ho om=> ?_⟩
 have g0:=Cal.beg_ge (k:=k) f0 f1 hc k0 (by omega)
 have g1:=Cal.beg_le (k:=k+1) (j:=60) f0 f1 hc (by omega) (by omega) (by decide)
 exact ⟨l2,d,f,dy,c,os,rfl,ho,fun p o0 o1 o2 H3 s3 so e3=>q1 (by omega) (by omega) p _ o0 o1 o2 H3 ((s1.trans s2).trans s3) om so e3⟩
def zl9 (K:PySem.W.Frag) (H:Hp) (pa:Addr) (f:Int) (dy:Bool) (c:Int) (nm:List Nat) (pr ct:Int):Prop:= ∃(l:Addr) (zs:List (V×Pl)),zcO K H pa l f dy c∧H l=some (.lst (zs.map (·.1)))∧zeh K H zs∧zs.length≤8∧(∃z0,(zs.filter fun z=>decide (z.2.1=nm))[0]? =some z0∧z0.2.2=(pr,ct))∧(0≤pr∧pr<10 ^ 30)∧0≤ct∧ct≤400
def zkC (K:PySem.W.Frag):Sp:=fun vs H Q _=> ∃(pa:Addr) (f:Int) (dy:Bool) (c:Int) (nm:List Nat) (pr ct:Int),vs= [.ref pa, .str (SL nm)]∧zl9 K H pa f dy c nm pr ct∧ ∀p H',zao H H'→H' p=some (.tup [.int pr, .int ct])→Q (.ref p) H'
theorem sc_0l:FnScope ["account","name"] ["account","name"] (zap s_0l):=⟨rfl,rfl,rfl,by decide+kernel,rfl,by decide+kernel,by decide+kernel⟩
theorem ok_0l (T:Txt w K mg t):FnOk P w K mg base (CXE P w) 1 t.a_0l t.d_0l ["account","name"] (zkC K):=by
 refine T.fn_0l.okX sc_0l (fun vs H Q E h=> ?_) (fun cdv A outer s H vs Q E L hr h=> ?_)
 ·obtain ⟨pa,f,dy,c,nm,pr,ct,rfl,⟨l,zs,⟨pc,f0,f1,hc,ep⟩,el,za,z8,⟨z0,hz0,ez0⟩,_⟩,q⟩:=h
  rfl
 obtain ⟨pa,f,dy,c,nm,pr,ct,rfl,⟨l,zs,⟨pc,f0,f1,hc,ep⟩,el,za,z8,⟨z0,hz0,ez0⟩,_⟩,q⟩:=h
 have nd:=sc_0l.nd
 refine ⟨_,(zaf (zaw (zaq zaI (zcK (n:=3) (N:= ["plan","price","count","name"]) (js:= [1]) (by rfl) rfl rfl (zbu (zaq zas (pv 0) zac (fun _ _=>rfl))) (fun a=>(zbi (n:=3) rfl (zal (zaj (i:=0) (show List.Nodup (["plan","price","count","name"]:List Str) from by decide+kernel) rfl (Or.inl rfl)) (zal (zaj (i:=1) (show List.Nodup (["plan","price","count","name"]:List Str) from by decide+kernel) rfl (Or.inl rfl)) (zal (zaj (i:=2) (show List.Nodup (["plan","price","count","name"]:List Str) from by decide+kernel) rfl (Or.inl rfl)) zaV))))) (fun a=>(zd9 (zar zbv (pv 0) (pv 3) (zat _)))) (fun a=>(zaJ (zaa (pv 1) (zaa (pv 2) zae zab) zab)))) zac (fun _ _=>rfl)))),?_⟩
 simp only [zbe,zaU,zbK,zbd,zcx,zbc,zcr,zaS,zbJ,zbb,zbm,zbI,tDc,za4,za5,za3,zbG,zbH,zbl,zbn,za2,zaG,zaH,zcq,List.replicate,Option.join_some,Option.join_none,za6,zcv,zbF,zaR,tSl,zcs,zcp,zcu,slT,zcg,Int.reduceLT,Int.reduceLE,Int.reduceToNat,Int.reduceNeg,Int.reduceAdd,Int.reduceSub,Int.reduceMul,forall_const,zcl,zbC,zcn,zcm,zbM,zbD,zcc,zbq,zbt,zcf,zce,tC,tOp,rI,rI0,tUn,rU,zbE,tB,zci,tOr,zcj,zbA,zck,zbB,tIf,zbx,zch,za9,zbk,tCB,zba,rEq,rNe,zaX,zaY,zaZ,za0,za1,zbj,zco,ipI,L2.start,List.map_cons,List.map_nil,List.length_cons,List.length_nil,List.cons_append,List.nil_append,List.append_nil,List.replicate_succ,List.replicate_zero,Nat.reduceAdd,Nat.reduceSub,List.getElem?_cons_zero,List.getElem?_cons_succ,List.set_cons_zero,List.set_cons_succ,Option.some.injEq,V.int.injEq,V.bl.injEq,V.ref.injEq,V.str.injEq,exists_eq_left',exists_eq_left,exists_eq',exists_and_left,List.cons.injEq,and_true,true_and,and_self,and_assoc,decide_eq_true_eq,if_true,if_false,Bool.true_eq_false,Bool.false_eq_true,Bool.not_eq_true',Bool.not_true,Bool.not_false,decide_eq_false_iff_not,ite_true,ite_false,reduceCtorEq,false_and,exists_false,false_or,or_false,and_false,zds,zdz,Nat.reduceLeDiff]
 refine ixT (SqT.of ep) (zbR _ _) ⟨l,rfl,⟨_,SqL.of el⟩,fun l2 hl2 aa=> ?_⟩
 refine zb0 (fun j xs H5=> ∃as:List Addr,xs=as.map V.ref∧as.length=((zs.take j).filter fun z=>decide (z.2.1=nm)).length∧ ∀(i:Nat) (a:Addr) (z:V×Pl),as[i]? =some a→((zs.take j).filter fun z=>decide (z.2.1=nm))[i]? =some z→H5 a=some (.tup [.int z.2.2.1, .int z.2.2.2])) (zb3 (SqL.of el)) hl2 (by rw [List.length_map];exact za7 (by omega)) (fun _ _=>⟨[],rfl,rfl,fun i a t h=>by rw [List.getElem?_nil] at h;cases h⟩) (fun j x xs H8 K1 K0 hx sm pv hl k1 k0=> ?_) (fun xs H2 s2 pv _ w2=> ?_)
 ·obtain ⟨z,hz,rfl⟩: ∃z,zs[j]? =some z∧x=z.1:=by
   rw [List.getElem?_map] at hx
   obtain ⟨u,e,rfl⟩:=Option.map_eq_some_iff.mp hx
   exact ⟨u,e,rfl⟩
  obtain ⟨pz,ez,hT⟩:=za z (List.mem_of_getElem? hz)
  obtain ⟨as,rfl,al,pa'⟩:=pv
  have fe:(zs.take (j+1)).filter (fun z=>decide (z.2.1=nm))=(zs.take j).filter (fun z=>decide (z.2.1=nm))++ [z].filter (fun z=>decide (z.2.1=nm)):=by rw [List.take_add_one,hz,Option.toList_some,List.filter_append]
  rw [ez]
  lgec_open0
  refine ⟨pz,_,rfl,sm.sqT hT,rfl,?_⟩
  lgec_open0
  have nl: ∀(Ha:Hp) a xs,zao H8 Ha→Ha a=some (.tup xs)→a≠l2:=fun Ha a xs sa h z=>by rw [z,sa _ _ hl] at h;cases h
  by_cases en:z.2.1=nm
  ·have f1: [z].filter (fun z=>decide (z.2.1=nm))= [z]:=by rw [List.filter_cons_of_pos (by rw [decide_eq_true_eq];exact en)];rfl
   rw [f1] at fe
   refine zbr en ⟨zbU (by decide),fun p H9 hp s9 e9=>k1 _ _ s9 fun H5 h5=>⟨as++ [p],by rw [List.map_append];rfl,by rw [fe,List.length_append,List.length_append,al];rfl,fun i a t h1 h2=> ?_⟩⟩
   rw [fe,List.getElem?_append,←al] at h2
   rw [List.getElem?_append] at h1
   by_cases hi:i<as.length
   ·rw [if_pos hi] at h1 h2
    have:=s9 _ _ (pa' i a t h1 h2)
    exact h5 _ _ (nl _ _ _ s9 this) this
   ·rw [if_neg hi] at h1 h2
    have i0:i - as.length=0:=by
     rcases Nat.lt_or_ge (i - as.length) 1 with z|z
     ·omega
     ·rw [List.getElem?_eq_none (by simpa using z)] at h1;cases h1
    rw [i0] at h1 h2
    cases h1
    cases h2
    exact h5 _ _ (nl _ _ _ s9 e9) e9
  ·have f1: [z].filter (fun z=>decide (z.2.1=nm))= []:=List.filter_cons_of_neg (by rw [decide_eq_true_eq];exact en)
   rw [f1,List.append_nil] at fe
   exact zaT en (k0 _ (zao.refl _) ⟨as,rfl,by rw [fe];exact al,by rw [fe];exact pa'⟩)
 rw [List.length_map,List.take_length] at pv
 obtain ⟨as,rfl,al,pa'⟩:=pv
 obtain ⟨h0,_⟩:=List.getElem?_eq_some_iff.mp hz0
 have ea:as[0]? =some (as[0]'(by omega)):=List.getElem?_eq_getElem _
 have e0:=pa' 0 _ z0 ea hz0
 rw [ez0] at e0
 refine ixL (v:= .ref (as[0]'(by omega))) (SqL.of w2) (zbw (j:=0) (by rw [List.getElem?_map,ea];rfl)) (q _ H2 s2 e0)
def zkD:Sp:=fun vs H Q _=> ∃p n b e:Int,vs= [.int p, .int n, .int b, .int e]∧0≤p∧p<10 ^ 60∧0<n∧n<10 ^ 20∧0≤b∧b≤e∧e<10 ^ 20∧ ∀H',zao H H'→Q (.int (p*e / n - p*b / n)) H'
theorem sc_0f:FnScope ["price","count","begin","end"] ["price","count","begin","end"] (zap s_0f):=⟨rfl,rfl,rfl,by decide+kernel,rfl,by decide+kernel,by decide+kernel⟩
theorem ok_0f (T:Txt w K mg t):FnOk P w K mg base (CXE P w) 1 t.a_0f t.d_0f ["price","count","begin","end"] (zkD):=by
 refine T.fn_0f.okX sc_0f (fun vs H Q E h=> ?_) (fun cdv A outer s H vs Q E L hr h=> ?_)
 ·obtain ⟨p,n,b,e,rfl,p0,p1,n0,n1,b0,be,e1,q⟩:=h
  rfl
 obtain ⟨p,n,b,e,rfl,p0,p1,n0,n1,b0,be,e1,q⟩:=h
 have nd:=sc_0f.nd
 refine ⟨_,(zaf (zaw (zai zbP (zai zec (zai zdO (pv 0) (pv 3)) (pv 1)) (zai zec (zai zdO (pv 0) (pv 2)) (pv 1))))),?_⟩
 have mp:Sm p:=Sm.pow10 (k:=60) (by decide) (by omega)
 have mn:Sm n:=Sm.pow10 (k:=20) (by decide) (by omega)
 have mb:Sm b:=Sm.pow10 (k:=20) (by decide) (by omega)
 have me:Sm e:=Sm.pow10 (k:=20) (by decide) (by omega)
 open_k0
 refine ⟨.inr ⟨mp,me⟩,n0,mn, .inr ⟨mp,mb⟩,n0,mn,q H (zao.refl _)⟩
def zfV (pr ct st sb se b e:Int):Int:=pr*st*(e - sb) / (if ct=0 then se - sb else ct) - pr*st*(b - sb) / (if ct=0 then se - sb else ct)
def zkZ (zs:List (V×Pl)):Prop:=1≤zs.length∧zs.length≤8∧ ∀z∈zs,(0≤z.2.2.1∧z.2.2.1<10 ^ 30)∧0≤z.2.2.2∧z.2.2.2≤400
def zdf (K:PySem.W.Frag) (H:Hp) (pa l:Addr) (f:Int) (dy:Bool) (c:Int) (zs:List (V×Pl)):Prop:=zcO K H pa l f dy c∧H l=some (.lst (zs.map (·.1)))∧zeh K H zs∧zkZ zs
theorem zdf.same {K:PySem.W.Frag} {H H':Hp} {pa l:Addr} {f:Int} {dy:Bool} {c:Int} {zs:List (V×Pl)} (h:zdf K H pa l f dy c zs) (s:zao H H'):zdf K H' pa l f dy c zs:=⟨h.1.same s,s _ _ h.2.1,h.2.2.1.same s,h.2.2.2⟩
def plF (zs:List (V×Pl)) (nm:List Nat):Int×Int:=(((zs.filter fun z=>decide (z.2.1=nm))[0]?).map fun z=>z.2.2).getD (0,0)
theorem zdf.p {K:PySem.W.Frag} {H:Hp} {pa l:Addr} {f:Int} {dy:Bool} {c:Int} {zs:List (V×Pl)} (h:zdf K H pa l f dy c zs) {nm:List Nat} (hn:nm∈zs.map fun z=>z.2.1):zl9 K H pa f dy c nm (plF zs nm).1 (plF zs nm).2:=by
 obtain ⟨h1,h2,h3,h4,h5,h6⟩:=h
 obtain ⟨z,hz,e⟩:=List.mem_map.mp hn
 have hm:z∈zs.filter fun z=>decide (z.2.1=nm):=List.mem_filter.mpr ⟨hz,decide_eq_true e⟩
 have hl:=List.length_pos_of_mem hm
 have e0:(zs.filter fun z=>decide (z.2.1=nm))[0]? =some ((zs.filter fun z=>decide (z.2.1=nm))[0]'hl):=List.getElem?_eq_getElem _
 have ef:plF zs nm=((zs.filter fun z=>decide (z.2.1=nm))[0]'hl).2.2:=by unfold plF;rw [e0];rfl
 have b:=h6 _ (List.mem_filter.mp (List.getElem_mem hl)).1
 rw [←ef] at b
 exact ⟨l,zs,h1,h2,h3,h5,⟨_,e0,ef.symm⟩,b.1,b.2⟩
def StX (zs:List (V×Pl)) (d:List D):Prop:= ∃d0 n wd,d= [d0, .int n, .str wd]∧(d0= .non∨ ∃nm,d0= .str nm∧nm∈zs.map fun z=>z.2.1)∧0≤n∧n≤1000000
def zcQ (zs:List (V×Pl)) (sb se b e:Int):List D→Int
 | [.str nm, .int st, .str wd]=>if wd= [111,110] then zfV (plF zs nm).1 (plF zs nm).2 st sb se b e else 0
 |_=>0
def ziL (K:PySem.W.Frag):Sp:=fun vs H Q _=> ∃(pa l:Addr) (f:Int) (dy:Bool) (c:Int) (zs:List (V×Pl)) (d:List D) (p1 p2 p3:Addr) (sb se b e:Int),vs= [.ref pa, .ref p1, .ref p2]∧zdf K H pa l f dy c zs∧StX zs d∧H p1=some (.tup [.int sb, .int se])∧H p2=some (.tup [.int b, .int e, .ref p3])∧H p3=some (.tup (d.map sv))∧sb≤b∧b≤e∧e≤se∧sb<se∧se - sb<10 ^ 10∧ ∀H',zao H H'→Q (.int (zcQ zs sb se b e d)) H'
theorem sc_0m:FnScope ["account","span","stretch","begin","end","state","name","seats","word","span_begin","span_end","price","count"] ["account","span","stretch"] (zap s_0m):=⟨rfl,rfl,rfl,by decide+kernel,rfl,by decide+kernel,by decide+kernel⟩
theorem ok_0m (T:Txt w K mg t):FnOk P w K mg base (CXE P w) 2 t.a_0m t.d_0m ["account","span","stretch"] (ziL K):=by
 refine T.fn_0m.okX sc_0m (fun vs H Q E h=> ?_) (fun cdv A outer s H vs Q E L hr h=> ?_)
 ·obtain ⟨pa,l,f,dy,c,zs,d,p1,p2,p3,sb,se,b,e,rfl,hz,⟨d0,st,wd,rfl,hd,st0,st1⟩,e1,e2,e3,h1,h2,h3,h4,h5,q⟩:=h
  rfl
 obtain ⟨pa,l,f,dy,c,zs,d,p1,p2,p3,sb,se,b,e,rfl,hz,⟨d0,st,wd,rfl,hd,st0,st1⟩,e1,e2,e3,h1,h2,h3,h4,h5,q⟩:=h
 have nd:=sc_0m.nd
 refine ⟨_,(zad (zby (pv 2) (zbi (n:=3) rfl (zal (zaj (i:=3) nd rfl (Or.inl rfl)) (zal (zaj (i:=4) nd rfl (Or.inl rfl)) (zal (zaj (i:=5) nd rfl (Or.inl rfl)) zaV))))) (zad (zby (pv 5) (zbi (n:=3) rfl (zal (zaj (i:=6) nd rfl (Or.inl rfl)) (zal (zaj (i:=7) nd rfl (Or.inl rfl)) (zal (zaj (i:=8) nd rfl (Or.inl rfl)) zaV))))) (zad (zaM (zdS (zar zi8 (pv 6) zeN (zat _)) (zc2 (zar zeQ (pv 8) (zax st_10) (zat _)))).pt (zaf (zaw zac)) zaz) (zad (zby (pv 1) (zbi (n:=2) rfl (zal (zaj (i:=9) nd rfl (Or.inl rfl)) (zal (zaj (i:=10) nd rfl (Or.inl rfl)) zaV)))) (zad (zby (zag L.toLv (ok_0l T) (hr.mono (by decide)) (by rfl) T.mg_0l T.fn_0l.kp T.b_0l .nil (zaa (pv 0) (zaa (pv 6) zae zab) zab)) (zbi (n:=2) rfl (zal (zaj (i:=11) nd rfl (Or.inl rfl)) (zal (zaj (i:=12) nd rfl (Or.inl rfl)) zaV)))) (zad (zaM (zar zbv (pv 12) zac (zat _)) (zaf (zan (i:=12) nd rfl (Or.inl rfl) (zai zbP (pv 10) (pv 9)))) zaz) (zaf (zaw (zag L.toLv (ok_0f T) (hr.mono (by decide)) (by rfl) T.mg_0f T.fn_0f.kp T.b_0f .nil (zaa (zai zdO (pv 11) (pv 7)) (zaa (pv 12) (zaa (zai zbP (pv 3) (pv 9)) (zaa (zai zbP (pv 4) (pv 9)) zae zav) zav) zab) zav)))))))))),?_⟩
 open_k0
 refine ⟨p2,_,rfl,SqT.of e2,rfl,?_⟩
 open_k0
 rcases hd with rfl|⟨nm,rfl,hn⟩
 ·have e3':H p3=some (.tup [.non, .int st, .str (SL wd)]):=e3
  refine ⟨p3,_,rfl,SqT.of e3',rfl,?_⟩
  open_k0
  exact q H (zao.refl _)
 have e3':H p3=some (.tup [.str (SL nm), .int st, .str (SL wd)]):=e3
 have ha:=hz.p hn
 have q0: ∀H',zao H H'→Q (.int (if wd= [111,110] then zfV (plF zs nm).1 (plF zs nm).2 st sb se b e else 0)) H':=q
 generalize (plF zs nm).1=pr at ha q0
 generalize (plF zs nm).2=ct at ha q0
 have ⟨_,_,_,_,_,_,_,⟨pr0,pr1⟩,ct0,ct1⟩:=ha
 refine ⟨p3,_,rfl,SqT.of e3',rfl,?_⟩
 open_k0
 by_cases on:wd= [111,110]
 ·subst on
  refine zaT (fun z=>z rfl) ?_
  refine ⟨p1,_,rfl,SqT.of e1,rfl,?_⟩
  open_k0
  refine ⟨pa,f,dy,c,nm,pr,ct,rfl,ha,fun p4 H4 s4 e4=> ?_⟩
  refine ⟨p4,_,rfl,SqT.of e4,rfl,?_⟩
  open_k0
  have mp:Sm pr:=Sm.pow10 (k:=30) (by decide) (by omega)
  have ms:Sm st:=Sm.pow10 (k:=7) (by decide) (by omega)
  have m0:0≤pr*st:=Int.mul_nonneg pr0 st0
  have m1:pr*st<10 ^ 60:=by
   have:=Int.mul_le_mul (show pr≤10 ^ 30 by omega) st1 st0 (by decide)
   exact Int.lt_of_le_of_lt this (by decide)
  have q':=q0
  rw [if_pos rfl] at q'
  unfold zfV at q'
  refine zbY (fun z=>⟨.inr ⟨mp,ms⟩,pr*st,se - sb,b - sb,e - sb,rfl,m0,m1,by omega,by omega,by omega,by omega,by omega,fun H5 s5=> ?_⟩) (fun z=>⟨.inr ⟨mp,ms⟩,pr*st,ct,b - sb,e - sb,rfl,m0,m1,by omega,by omega,by omega,by omega,by omega,fun H5 s5=> ?_⟩)
  ·rw [if_pos z] at q'
   exact q' H5 (s4.trans s5)
  ·rw [if_neg z] at q'
   exact q' H5 (s4.trans s5)
 ·rw [if_neg on] at q0
  exact zbr on (q0 H (zao.refl _))
def TmX (zs:List (V×Pl)) (ch:Ch):Prop:=(∀d nm,ch= .plan d nm→nm∈zs.map fun z=>z.2.1)∧ ∀d n,ch= .seats d n→0≤n∧n≤1000000
theorem st_x {f:Int} {dy:Bool} {c:Int} {zs:List (V×Pl)} {ts:List Tm} {day:Int} {o0 o1 o2:Option Rt} (hb: ∀t∈ts,zbs t.2.2.2=true) (hx: ∀t∈ts,TmX zs t.2.2.2) (h:zd1 f dy c ts day o0 o1 o2):StX zs (stT o0 o1 o2):=by
 obtain ⟨h0,h1,h2⟩:=h
 have of: ∀(kd:Nat) (t:Rt),Bst (ts.map (rtT f dy c)) day kd (some t)→ ∃u:Tm,u∈ts∧chK u.2.2.2=kd∧t.2.2.2=zem u.2.2.2:=fun kd t hb'=>by
  obtain ⟨u,hu,rfl⟩:=List.mem_map.mp hb'.1
  exact ⟨u,hu,hb'.2.1,rfl⟩
 have a0:stV o0 .non= .non∨ ∃nm,stV o0 .non= .str nm∧nm∈zs.map fun z=>z.2.1:=by
  cases o0 with
  |none=>exact .inl rfl
  |some t=>
   obtain ⟨u,hu,k,e⟩:=of 0 t h0
   have x:=hx u hu
   show t.2.2.2= .non∨ ∃nm,t.2.2.2= .str nm∧_
   rw [e]
   cases hch:u.2.2.2 with
   |plan d nm=>exact .inr ⟨nm,rfl,x.1 d nm hch⟩
   |seats d n=>rw [hch] at k;cases k
   |word w d=>rw [hch] at k;cases k
   |undo k'=>rw [hch] at k;cases k
   |grant k'=>rw [hch] at k;cases k
   |back=>rw [hch] at k;cases k
 have a1: ∃n,stV o1 (.int 1)= .int n∧0≤n∧n≤1000000:=by
  cases o1 with
  |none=>exact ⟨1,rfl,by decide,by decide⟩
  |some t=>
   obtain ⟨u,hu,k,e⟩:=of 1 t h1
   have x:=hx u hu
   show∃n,t.2.2.2= .int n∧_
   rw [e]
   cases hch:u.2.2.2 with
   |seats d n=>exact ⟨n,rfl,x.2 d n hch⟩
   |plan d nm=>rw [hch] at k;cases k
   |word w d=>rw [hch] at k;cases k
   |undo k'=>rw [hch] at k;cases k
   |grant k'=>rw [hch] at k;cases k
   |back=>rw [hch] at k;cases k
 have a2: ∃w,stV o2 on'= .str w:=by
  cases o2 with
  |none=>exact ⟨_,rfl⟩
  |some t=>
   obtain ⟨u,hu,k,e⟩:=of 2 t h2
   have tm:=hb u hu
   show∃w,t.2.2.2= .str w
   rw [e]
   cases hch:u.2.2.2 with
   |word w d=>exact ⟨_,rfl⟩
   |plan d nm=>rw [hch] at k;cases k
   |seats d n=>rw [hch] at k;cases k
   |undo k'=>rw [hch] at tm;cases tm
   |grant k'=>rw [hch] at tm;cases tm
   |back=>rw [hch] at tm;cases tm
 obtain ⟨n,e1,n0,n1⟩:=a1
 obtain ⟨wd,e2⟩:=a2
 exact ⟨_,n,wd,by unfold stT;rw [e1,e2],a0,n0,n1⟩
def ziM (K:PySem.W.Frag) (t:Adr):Sp:=fun vs H Q E=> ∃(pa l la:Addr) (f:Int) (dy:Bool) (c d:Int) (zs:List (V×Pl)) (ts:List Tm),vs= [.ref pa, .ref l, .int d]∧zdf K H pa la f dy c zs∧zde K H l f (Cal.beg f dy c 60) ts∧(∀t∈ts,TmX zs t.2.2.2)∧
 (∀k,0≤k→k<60→Cal.beg f dy c k≤d→d<Cal.beg f dy c (k+1)→ ∀ts' o0 o1 o2 H',zao H H'→(∀t,t∈ts'↔t∈ts)→zd1 f dy c ts' d o0 o1 o2→Q (.int (zcQ zs (Cal.beg f dy c k) (Cal.beg f dy c (k+1)) d (d+1) (stT o0 o1 o2))) H')∧
 (d<f→ ∀H',zao H H'→E (.ref t.c_Z09) none H')∧(Cal.beg f dy c 60≤d→ ∀H',zao H H'→E (.ref t.c_Z0e) none H')
theorem sc_0n:FnScope ["account","terms","day","k","begin","end"] ["account","terms","day"] (zap s_0n):=⟨rfl,rfl,rfl,by decide+kernel,rfl,by decide+kernel,by decide+kernel⟩
theorem ok_0n (T:Txt w K mg t):FnOk P w K mg base (CXE P w) 11 t.a_0n t.d_0n ["account","terms","day"] (ziM K t):=by
 refine T.fn_0n.okX sc_0n (fun vs H Q E h=> ?_) (fun cdv A outer s H vs Q E L hr h=> ?_)
 ·obtain ⟨pa,l,la,f,dy,c,d,zs,ts,rfl,hz,ht,hx,q1,q2,q3⟩:=h
  rfl
 obtain ⟨pa,l,la,f,dy,c,d,zs,ts,rfl,hz,ht,hx,q1,q2,q3⟩:=h
 have nd:=sc_0n.nd
 refine ⟨_,(zad (zby (zag L.toLv (ok_0e T) (hr.mono (by decide)) (by rfl) T.mg_0e T.fn_0e.kp T.b_0e .nil (zaa (pv 0) (zaa (pv 2) zae zab) zab)) (zbi (n:=3) rfl (zal (zaj (i:=3) nd rfl (Or.inl rfl)) (zal (zaj (i:=4) nd rfl (Or.inl rfl)) (zal (zaj (i:=5) nd rfl (Or.inl rfl)) zaV))))) (zaf (zaw (zag L.toLv (ok_0m T) (hr.mono (by decide)) (by rfl) T.mg_0m T.fn_0m.kp T.b_0m .nil (zaa (pv 0) (zaa (zaJ (zaa (pv 4) (zaa (pv 5) zae zab) zab)) (zaa (zaJ (zaa (pv 2) (zaa (zai zaE (pv 2) zac) (zaa (zag L.toLv (ok_0j T) (hr.mono (by decide)) (by rfl) T.mg_0j T.fn_0j.kp T.b_0j .nil (zaa (pv 0) (zaa (pv 1) (zaa (pv 2) zae zab) zab) zab)) zae zaB) zav) zab)) zae zdp) zdp) zab))))),?_⟩
 obtain ⟨f0,f1,hc⟩:=hz.1.cyc
 open_k0
 refine ⟨pa,la,f,dy,c,d,rfl,hz.1,fun k k0 k1 a1 a2 p1 H1 s1 e1=> ?_,q2,q3⟩
 have bw:=zeo f0 f1 hc k0 k1
 have g0:=Cal.beg_ge (k:=k) f0 f1 hc k0 (by omega)
 have g1:=Cal.beg_le (k:=k+1) (j:=60) f0 f1 hc (by omega) (by omega) (by decide)
 refine ⟨p1,_,rfl,SqT.of e1,rfl,?_⟩
 open_k0
 intro p2 H2 _ s2 e2
 have s12:=s1.trans s2
 refine ⟨pa,l,la,f,dy,c,d,ts,rfl,hz.1.same s12,ht.same s12,fun _ _ p3 ts' o0 o1 o2 H3 s3 om so e3=> ?_,fun z=>by omega,fun z=>by omega⟩
 intro p4 H4 _ s4 e4
 have s34:=s3.trans s4
 have sx:=st_x (zs:=zs) (fun t h=>(ht.2.2.1 t ((om t).mp h)).2.2.1) (fun t h=>hx t ((om t).mp h)) so
 exact ⟨pa,la,f,dy,c,zs,_,p2,p4,p3,_,_,_,_,rfl,hz.same (s12.trans s34),sx,s34 _ _ e2,e4,s4 _ _ e3,a1,by omega,by omega,by omega,by omega,fun H5 s5=>q1 k k0 k1 a1 a2 ts' o0 o1 o2 H5 ((s12.trans s34).trans s5) om so⟩
def zkE:Sp:=fun vs H Q _=> ∃c k:Int,vs= [.int c, .int k]∧0≤k∧k≤1100∧ ∀r,0≤r→r<2147483579→Q (.int r) H
theorem sc_14:FnScope ["_law_cell","_law_k","_law_number"] ["_law_cell","_law_k"] (zap s_14):=⟨rfl,rfl,rfl,by decide+kernel,rfl,by decide+kernel,by decide+kernel⟩
theorem ok_14 (T:Txt w K mg t):FnOk P w K mg base (CXE P w) 1 t.a_14 t.d_14 ["_law_cell","_law_k"] (zkE):=by
 refine T.fn_14.okX sc_14 (fun vs H Q E h=> ?_) (fun cdv A outer s H vs Q E L hr h=> ?_)
 ·obtain ⟨c,k,rfl,k0,k1,q⟩:=h
  rfl
 obtain ⟨c,k,rfl,k0,k1,q⟩:=h
 have nd:=sc_14.nd
 refine ⟨_,(zad (zan (i:=2) nd rfl (Or.inl rfl) (zai zaC (zai zaE (zai zaE (zai zb9 (zai zaC (pv 0) zac) zac) (zai zb9 (pv 1) zac)) zac) zac)) (zad (zan (i:=2) nd rfl (Or.inl rfl) (zai zaC (zai zaE (zai zb9 (pv 2) (pv 2)) zac) zac)) (zaf (zaw (zai zaC (zai zb9 (pv 2) (pv 2)) zac))))),?_⟩
 open_k0
 generalize h1:(c % 2147483647*48271+k*69621+7919) % 2147483629=n1
 have b1:0≤n1∧n1<2147483629:=by omega
 generalize h2:(n1*n1+69621) % 2147483587=n2
 have b2:0≤n2∧n2<2147483587:=by
  rw [←h2]
  exact ⟨Int.emod_nonneg _ (by decide),Int.emod_lt_of_pos _ (by decide)⟩
 refine ⟨.inr ⟨by decide,by decide⟩, .inl ⟨by omega,by omega⟩, .inl ⟨by omega,by omega⟩, .inl ⟨by omega,by omega⟩,q _ (Int.emod_nonneg _ (by decide)) (Int.emod_lt_of_pos _ (by decide))⟩
def zkF (K:PySem.W.Frag):Sp:=fun vs H Q _=> ∃c m:Int,vs= [.int c, .int m]∧0≤m∧m≤8∧ ∀l (ws:List (List Nat)) H',zao H H'→(ws.length:Int)=m→H' l=some (.lst (ws.map fun w=> .str (SL w)))→Q (.ref l) H'
theorem sc_15:FnScope ["_law_cell","_law_many","_law_letters","_law_size","_law_at","_law_names","_law_k","_law_name","_law_j","_law_turn"] ["_law_cell","_law_many"] (zap s_15):=⟨rfl,rfl,rfl,by decide+kernel,rfl,by decide+kernel,by decide+kernel⟩
theorem ok_15 (T:Txt w K mg t):FnOk P w K mg base (CXE P w) 1 t.a_15 t.d_15 ["_law_cell","_law_many"] (zkF K):=by
 refine T.fn_15.okX sc_15 (fun vs H Q E h=> ?_) (fun cdv A outer s H vs Q E L hr h=> ?_)
 ·obtain ⟨c,m,rfl,m0,m1,q⟩:=h
  rfl
 obtain ⟨c,m,rfl,m0,m1,q⟩:=h
 have nd:=sc_15.nd
 refine ⟨_,(zad (zan (i:=2) nd rfl (Or.inl rfl) (zax st_17)) (zad (zan (i:=3) nd rfl (Or.inl rfl) (zai zaE zac (zai zaC (pv 0) zac))) (zad (zan (i:=4) nd rfl (Or.inl rfl) (zai zaC (zai zaK (pv 0) zac) (pv 3))) (zad (zan (i:=5) nd rfl (Or.inl rfl) (zbg zae)) (zad (zbO (by passes_own) rfl (zbL (by rfl) T.no_range (zaa (pv 1) zae)) (zaj (i:=6) nd rfl (Or.inl rfl)) (zad (zan (i:=7) nd rfl (Or.inl rfl) (zax st_18)) (zad (zbO (by passes_own) rfl (zbL (by rfl) T.no_range (zaa (pv 3) zae)) (zaj (i:=8) nd rfl (Or.inl rfl)) (zad (zan (i:=9) nd rfl (Or.inl rfl) (zai zaE (zai zb9 (pv 8) (pv 8)) (zai zb9 (pv 6) (zer zeq (by rfl) T.no_int zf6 (zaa (zbT zbv (pv 8) (pv 4) (zat _)) zae))))) (zaf (zan (i:=7) nd rfl (Or.inl rfl) (zai zjh (pv 7) (zaq zmo (pv 2) (zai zaC (zai zaE (zai zaK (pv 0) (zai zb9 zac (zai zaE (pv 8) zac))) (pv 9)) zac) (fun _ _=>rfl))))))) (zaf (zb8 (zdB PySem.F.plainAttrs_list PySem.F.slot_list_append PySem.F.type_list_append zb2 (pv 5) (zaa (pv 7) zae))))))) (zaf (zaw (pv 5)))))))),?_⟩
 open_k0
 have sb:1≤1+c % 8∧1+c % 8≤8:=by omega
 generalize 1+c % 8=sz at sb ⊢
 refine ⟨by omega,fun ln H1 hln s1 e1=> ?_⟩
 ((try dsimp only);refine zbX fun R hR=> ?_;lge_open0)
 refine ⟨by omega,by omega,hR _ _ ?_⟩
 clear hR
 generalize c / 8 % sz=at'
 obtain ⟨Pv,hPv⟩: ∃Pv:Nat→St→Hp→Prop,Pv=fun i σ1 H5=>zao H H5∧ ∃ws:List (List Nat),ws.length=i∧H5 ln=some (.lst (ws.map fun w=>V.str (SL w)))∧ ∃x6 x7 x8 x9,σ1= [some (.int c),some (.int m),some (.str (SL azL)),some (.int sz),some (.int at'),some (.ref ln),x6,x7,x8,x9]:=⟨_,rfl⟩
 refine zb1 Pv (by rw [hPv];exact ⟨s1, [],rfl,e1,_,_,_,_,rfl⟩) (fun i σ1 H5 hi h=> ?_) (fun σ1 H5 h=> ?_)
 ·rw [hPv] at h
  obtain ⟨s5,ws,wl,e5,x6,x7,x8,x9,rfl⟩:=h
  open_k0
  ((try dsimp only);refine zbX fun R hR=> ?_;lge_open0)
  refine ⟨by omega,by omega,hR _ _ ?_⟩
  clear hR
  obtain ⟨Pw,hPw⟩: ∃Pw:Nat→St→Hp→Prop,Pw=fun j σ2 H6=>H6=H5∧ ∃(cs:List Nat) (y8 y9:Option V),cs.length=j∧σ2= [some (.int c),some (.int m),some (.str (SL azL)),some (.int sz),some (.int at'),some (.ref ln),some (.int (0+(i:Int))),some (.str (SL cs)),y8,y9]:=⟨_,rfl⟩
  refine zb1 Pw (by rw [hPw];exact ⟨rfl, [],_,_,rfl,rfl⟩) (fun j σ2 H6 hj h=> ?_) (fun σ2 H6 h=> ?_)
  ·rw [hPw] at h
   obtain ⟨rfl,cs,y8,y9,cl,rfl⟩:=h
   open_k0
   have rb:0≤(c / (64*(0+(j:Int)+1))+((0+(j:Int))*(0+(j:Int))+(0+(i:Int))*if 0+(j:Int)=at' then 1 else 0)) % 26∧(c / (64*(0+(j:Int)+1))+((0+(j:Int))*(0+(j:Int))+(0+(i:Int))*if 0+(j:Int)=at' then 1 else 0)) % 26<26:=⟨Int.emod_nonneg _ (by decide),Int.emod_lt_of_pos _ (by decide)⟩
   refine ⟨.inl ⟨by omega,by omega⟩, .inl ⟨by omega,by omega⟩, .inl ⟨by decide,by decide⟩,by omega,by omega,_,zlZ rb.1 rb.2,zbU (by omega),?_⟩
   rw [hPw]
   exact ⟨rfl,_,_,_,by rw [List.length_append,cl];rfl,rfl⟩
  ·rw [hPw] at h
   obtain ⟨rfl,cs,y8,y9,cl,rfl⟩:=h
   w_why
   refine ⟨.inl ⟨rfl,_,SqL.of e5⟩,ln,_,_,rfl,rfl,e5,by rw [List.length_map];exact zc7 (by omega),?_⟩
   rw [hPv]
   exact ⟨zc8 s5 hln,ws++ [cs],by rw [List.length_append,wl];rfl,by rw [zay,List.map_append];rfl,_,_,_,_,rfl⟩
 ·rw [hPv] at h
  obtain ⟨s5,ws,wl,e5,x6,x7,x8,x9,rfl⟩:=h
  open_k0
  exact q ln ws H5 s5 (by omega) e5
def ziN (K:PySem.W.Frag):Sp:=fun vs H Q _=> ∃(a:Addr) (ns:List Int),vs= [.ref a]∧SqL K H a (ns.map V.int)∧ns.length≤63∧ ∀p l (zs:List (V×Pl)) (f:Int) dy cc H',zao H H'→zcO K H' p l f dy cc→H' l=some (.lst (zs.map (·.1)))→zeh K H' zs→zkZ zs→Q (.ref p) H'
theorem sc_16:FnScope ["_law_script","_law_cell","_law_first","_law_m","_law_cycle","_law_names","_law_plans","_law_k","_law_n","_law_price"] ["_law_script"] (zap s_16):=⟨rfl,rfl,rfl,by decide+kernel,rfl,by decide+kernel,by decide+kernel⟩
theorem ok_16 (T:Txt w K mg t):FnOk P w K mg base (CXE P w) 2 t.a_16 t.d_16 ["_law_script"] (ziN K):=by
 refine T.fn_16.okX sc_16 (fun vs H Q E h=> ?_) (fun cdv A outer s H vs Q E L hr h=> ?_)
 ·obtain ⟨a,ns,rfl,hS,h63,q⟩:=h
  rfl
 obtain ⟨a,ns,rfl,hS,h63,q⟩:=h
 have nd:=sc_16.nd
 refine ⟨_,(zad (zan (i:=1) nd rfl (Or.inl rfl) (zag L.toLv (ok_13 T) (hr.mono (by decide)) (by rfl) T.mg_13 T.fn_13.kp T.b_13 .nil (zaa (pv 0) (zaa zac zae zah) zab))) (zad (zan (i:=2) nd rfl (Or.inl rfl) (zaq zaI (zbg (zaa zac (zaa (zai zaE zac (zai zaC (zai zaK (pv 1) zac) zac)) (zaa (zai zaC (zai zaK (pv 1) zac) zac) (zaa (zai zbP zac (zai zaC (zai zaK (pv 1) zac) zac)) zae zav) zav) zav) zah)) (zai zaC (pv 1) zac) (fun _ _=>rfl))) (zad (zan (i:=3) nd rfl (Or.inl rfl) (zag L.toLv (ok_14 T) (hr.mono (by decide)) (by rfl) T.mg_14 T.fn_14.kp T.b_14 .nil (zaa (zag L.toLv (ok_13 T) (hr.mono (by decide)) (by rfl) T.mg_13 T.fn_13.kp T.b_13 .nil (zaa (pv 0) (zaa zac zae zah) zab)) (zaa zac zae zah) zaB))) (zad (zan (i:=4) nd rfl (Or.inl rfl) (zaJ (zaa (zax st_4) (zaa (zai zaE zac (zai zaC (zai zaK (pv 3) zac) zac)) zae zav) zah))) (zad (zc3 (zaM (zar zcM (zai zaC (pv 3) zac) zac (zat _)) (zaf (zan (i:=4) nd rfl (Or.inl rfl) (zaJ (zaa (zax st_19) (zaa (zai zaE zac (zai zaC (zai zaK (pv 3) zac) zac)) zae zav) zah)))) zaz)) (zad (zc3 (zaM (zar zbv (zai zaC (pv 3) zac) zac (zat _)) (zaf (zan (i:=4) nd rfl (Or.inl rfl) (zaJ (zaa (zax st_19) (zaa (zai zaE zac (zai zaC (zai zaK (pv 3) zac) zac)) zae zav) zah)))) zaz)) (zad (zc3 (zaM (zar zbv (zai zaC (pv 3) zac) zac (zat _)) (zaf (zan (i:=4) nd rfl (Or.inl rfl) (zaJ (zaa (zax st_4) (zaa (zai zaE zac (zai zaC (zai zaK (pv 3) zac) zac)) zae zav) zah)))) zaz)) (zad (zan (i:=5) nd rfl (Or.inl rfl) (zag L.toLv (ok_15 T) (hr.mono (by decide)) (by rfl) T.mg_15 T.fn_15.kp T.b_15 .nil (zaa (zag L.toLv (ok_13 T) (hr.mono (by decide)) (by rfl) T.mg_13 T.fn_13.kp T.b_13 .nil (zaa (pv 0) (zaa zac zae zah) zab)) (zaa zac zae zah) zaB))) (zad (zan (i:=6) nd rfl (Or.inl rfl) (zbg zae)) (zad (zbO (by passes_own) rfl (zbL (by rfl) T.no_range (zaa (zaq zaI (zbg (zaa (zai zaE zac (zai zaC (zai zaK (pv 3) zac) zac)) (zaa zac zae zah) zav)) (zer zeq (by rfl) T.no_int zf6 (zaa (zbT zbv (zai zaC (zai zaK (pv 3) zac) zac) zac (zat _)) zae)) (fun _ _=>rfl)) zae)) (zaj (i:=7) nd rfl (Or.inl rfl)) (zad (zan (i:=8) nd rfl (Or.inl rfl) (zag L.toLv (ok_14 T) (hr.mono (by decide)) (by rfl) T.mg_14 T.fn_14.kp T.b_14 .nil (zaa (zag L.toLv (ok_13 T) (hr.mono (by decide)) (by rfl) T.mg_13 T.fn_13.kp T.b_13 .nil (zaa (pv 0) (zaa zac zae zah) zab)) (zaa (pv 7) zae zab) zaB))) (zad (zan (i:=9) nd rfl (Or.inl rfl) (zaq zaI (zbg (zaa (zai zaC (zai zaK (pv 8) zac) zac) (zaa (zai zaC (zai zaK (pv 8) zac) zac) (zaa (zai zaC (zai zaK (zag L.toLv (ok_13 T) (hr.mono (by decide)) (by rfl) T.mg_13 T.fn_13.kp T.b_13 .nil (zaa (pv 0) (zaa zac zae zah) zab)) (zai zaE (pv 7) zac)) (zai zi5 zac zac)) zae zav) zav) zav)) (zai zaC (zai zaK (pv 8) zac) zac) (fun _ _=>rfl))) (zaf (zb8 (zdB PySem.F.plainAttrs_list PySem.F.slot_list_append PySem.F.type_list_append zb2 (pv 6) (zaa (zaJ (zaa (zaq zaI (pv 5) (pv 7) (fun _ _=>rfl)) (zaa (pv 9) (zaa (zaq zaI (zbg (zaa zac (zaa zac (zaa zac (zaa (zai zaE zac (zai zaC (zai zaK (pv 8) zac) zac)) (zaa (zai zaE zac (zai zaC (zai zaK (pv 8) zac) zac)) (zaa zac (zaa zac zae zah) zah) zav) zav) zah) zah) zah)) (zai zaC (pv 8) zac) (fun _ _=>rfl)) zae zak) zab) zak)) zae))))))) (zaf (zaw (zaJ (zaa (pv 6) (zaa (pv 2) (zaa (pv 4) zae zab) zab) zab)))))))))))))),?_⟩
 open_k0
 refine ⟨a,ns,0,rfl,hS,h63,by decide,?_⟩
 generalize cellOf ns 0=cl
 refine ⟨_,rfl,_,rfl,_,rfl,fun p1 H1 _ s1 e1=>⟨_,rfl,?_⟩⟩
 have e1':H1 p1=some (.lst (([0,738885+cl / 4 % 800,cl / 4 % 3500001,3500000 - cl / 4 % 40]:List Int).map V.int)):=e1
 have i4:0≤cl % 4∧cl % 4<4:=by omega
 have bf:=zdm (xs:= [0,738885+cl / 4 % 800,cl / 4 % 3500001,3500000 - cl / 4 % 40]) (lo:=0) (hi:=3500000) (fun x hx=>by
  simp only [List.mem_cons,List.not_mem_nil,or_false] at hx
  rcases hx with rfl|rfl|rfl|rfl<;>omega) i4.1 i4.2
 refine ixL (SqL.of e1') (zcR i4.1 i4.2) ?_
 clear e1 e1'
 generalize ([0,738885+cl / 4 % 800,cl / 4 % 3500001,3500000 - cl / 4 % 40]:List Int).getD (cl % 4).toNat 0=f at bf ⊢
 refine ⟨a,ns,1,rfl,s1.seq hS,h63,by decide,_,1,rfl,by decide,by decide,fun m m0 m1=> ?_⟩
 refine ⟨_,rfl,fun p2 H2 _ s2 e2=> ?_⟩
 obtain ⟨R,hR⟩: ∃R:St→Hp→Prop,R=fun σ' H'=>zao H H'∧ ∃(pc:Addr) (dy:Bool) (cc:Int),zfe K H' pc dy cc∧σ'= [some (.ref a),some (.int cl),some (.int f),some (.int m),some (.ref pc),none,none,none,none,none]:=⟨_,rfl⟩
 have s12:=s1.trans s2
 have mk: ∀(pc:Addr) (dy:Bool) (cc:Int) (H':Hp),zao H H'→H' pc=some (.tup [.str (SL (if dy then [100,97,121,115] else [109,111,110,116,104,115])), .int cc])→Cal.CycOk dy cc→R [some (.ref a),some (.int cl),some (.int f),some (.int m),some (.ref pc),none,none,none,none,none] H':=fun pc dy cc H' s e h=>by
  rw [hR]
  exact ⟨s,pc,dy,cc,⟨SqT.of e,h⟩,rfl⟩
 refine ⟨R,?_,fun σ3 H3 h3=> ?_⟩
 ·open_k0
  exact zbY (fun _ p3 H3 _ s3 e3=>mk p3 true _ H3 (s12.trans s3) e3 (Cal.cyc_days (by omega) (by omega))) (fun _=>mk p2 false _ H2 s12 e2 (Cal.cyc_months (by omega) (by omega)))
 have h3':=h3
 rw [hR] at h3
 obtain ⟨s3,pc3,dy3,cc3,c3,rfl⟩:=h3
 open_k0
 refine ⟨R,?_,fun σ4 H4 h4=> ?_⟩
 ·open_k0
  exact zbY (fun _ p4 H4 _ s4 e4=>mk p4 true _ H4 (s3.trans s4) e4 (Cal.cyc_days (by omega) (by omega))) (fun _=>h3')
 clear h3'
 have h4':=h4
 rw [hR] at h4
 obtain ⟨s4,pc4,dy4,cc4,c4,rfl⟩:=h4
 open_k0
 refine ⟨R,?_,fun σ5 H5 h5=> ?_⟩
 ·open_k0
  exact zbY (fun _ p5 H5 _ s5 e5=>mk p5 false _ H5 (s4.trans s5) e5 (Cal.cyc_months (by omega) (by omega))) (fun _=>h4')
 clear h4'
 rw [hR] at h5
 obtain ⟨s5,pc,dy,cc,hc,rfl⟩:=h5
 clear mk hR s3 c3 s4 c4 R
 open_k0
 refine ⟨a,ns,2,rfl,s5.seq hS,h63,by decide,?_⟩
 refine ⟨_,8,rfl,by decide,by decide,fun ln ws H6 s6 wl e6=> ?_⟩
 intro lp H7 hlp s7 e7
 ((try dsimp only);refine zbX fun R hR=> ?_;lge_open0)
 intro p8 H8 _ s8 e8
 have e8':H8 p8=some (.lst (([1+m / 640 % 4,8]:List Int).map V.int)):=e8
 obtain ⟨ix,hix⟩: ∃ix:Int,ix=if m / 2560 % 8=5 then 1 else 0:=⟨_,rfl⟩
 rw [←hix]
 have ib:0≤ix∧ix<2:=by rw [hix];split<;>decide
 have bn:=zdm (xs:= [1+m / 640 % 4,8]) (lo:=1) (hi:=8) (fun x hx=>by
  simp only [List.mem_cons,List.not_mem_nil,or_false] at hx
  rcases hx with rfl|rfl<;>omega) ib.1 ib.2
 refine ixL (SqL.of e8') (zcR ib.1 ib.2) ⟨_,rfl,?_⟩
 clear e8 e8' hix
 generalize ([1+m / 640 % 4,8]:List Int).getD ix.toNat 0=n at bn ⊢
 refine ⟨by omega,by omega,hR _ _ ?_⟩
 clear hR
 have s08:=((s5.trans s6).trans s7).trans s8
 have s06:=s5.trans s6
 obtain ⟨Pv,hPv⟩: ∃Pv:Nat→St→Hp→Prop,Pv=fun i σ1 H9=>zao H6 H9∧ ∃zs:List (V×Pl),zs.length=i∧H9 lp=some (.lst (zs.map (·.1)))∧zeh K H9 zs∧(∀z∈zs,(0≤z.2.2.1∧z.2.2.1<10 ^ 30)∧0≤z.2.2.2∧z.2.2.2≤400)∧ ∃x7 x8 x9,σ1= [some (.ref a),some (.int cl),some (.int f),some (.int m),some (.ref pc),some (.ref ln),some (.ref lp),x7,x8,x9]:=⟨_,rfl⟩
 refine zb1 Pv (by rw [hPv];exact ⟨s7.trans s8, [],rfl,s8 _ _ e7,(fun _ h=>nomatch h),(fun _ h=>nomatch h),_,_,_,rfl⟩) (fun i σ1 H9 hi h=> ?_) (fun σ1 H9 h=> ?_)
 ·rw [hPv] at h
  obtain ⟨s9,zs,zl,e9,za,zb,x7,x8,x9,rfl⟩:=h
  have s09:=s06.trans s9
  w_why
  refine ⟨a,ns,2,rfl,s09.seq hS,h63,by decide,_,_,rfl,by omega,by omega,fun nn n0 n1=> ?_⟩
  refine ⟨_,rfl,_,rfl,a,ns,2,rfl,s09.seq hS,h63,by decide,_,rfl,by omega,by omega,⟨by decide,by decide,by decide⟩,by decide,fun p10 H10 _ s10 e10=>⟨_,rfl,?_⟩⟩
  generalize cellOf ns 2 / (0+(i:Int)+1)=cd at e10
  have e10':H10 p10=some (.lst (([nn / 7 % 1000,nn / 7 % 100,cd % 10 ^ 30]:List Int).map V.int)):=e10
  have i3:0≤nn / 7000 % 3∧nn / 7000 % 3<3:=by omega
  have bp:=zdm (xs:= [nn / 7 % 1000,nn / 7 % 100,cd % 10 ^ 30]) (lo:=0) (hi:=10 ^ 30 - 1) (fun x hx=>by
   simp only [List.mem_cons,List.not_mem_nil,or_false] at hx
   rcases hx with rfl|rfl|rfl<;>omega) i3.1 i3.2
  refine ixL (SqL.of e10') (zcR i3.1 i3.2) ?_
  clear e10 e10'
  generalize ([nn / 7 % 1000,nn / 7 % 100,cd % 10 ^ 30]:List Int).getD (nn / 7000 % 3).toNat 0=pr at bp ⊢
  have e910:=s10 _ _ e9
  have en10:=s10 _ _ (s9 _ _ e6)
  obtain ⟨y,hy,ey⟩:=zkj (ys:=ws) (i:=0+(i:Int)) (by omega) (by omega)
  refine ⟨.inl ⟨rfl,_,SqL.of e910⟩,ixL (SqL.of en10) ey ⟨_,rfl,_,rfl,fun p11 H11 _ s11 e11=>⟨_,rfl,?_⟩⟩⟩
  have e11':H11 p11=some (.lst (([0,0,7,28+nn / 7 % 4,1+nn / 7 % 400,30,0]:List Int).map V.int)):=e11
  have i7:0≤nn % 7∧nn % 7<7:=by omega
  have bc:=zdm (xs:= [0,0,7,28+nn / 7 % 4,1+nn / 7 % 400,30,0]) (lo:=0) (hi:=400) (fun x hx=>by
   simp only [List.mem_cons,List.not_mem_nil,or_false] at hx
   rcases hx with rfl|rfl|rfl|rfl|rfl|rfl|rfl<;>omega) i7.1 i7.2
  refine ixL (SqL.of e11') (zcR i7.1 i7.2) (fun p12 H12 _ s12 e12=> ?_)
  clear e11 e11'
  generalize ([0,0,7,28+nn / 7 % 4,1+nn / 7 % 400,30,0]:List Int).getD (nn % 7).toNat 0=ct at bc e12
  have t12:=(s10.trans s11).trans s12
  have e912:=t12 _ _ e9
  have ne: ∀a xs,H12 a=some (.tup xs)→a≠lp:=fun a xs h z=>by rw [z,e912] at h;cases h
  have z12:zeh K H12 zs:=za.same t12
  refine ⟨lp,_,_,rfl,rfl,e912,by rw [List.length_map];exact zc7 (by omega),?_⟩
  rw [hPv]
  refine ⟨zc8 (s9.trans t12) hlp,zs++ [(.ref p12,y,pr,ct)],by rw [List.length_append,zl];rfl,by rw [zay,List.map_append];rfl,?_,fun z hz=> ?_,_,_,_,rfl⟩
  ·intro z hz
   rcases List.mem_append.mp hz with h|h
   ·obtain ⟨p,e,hq⟩:=z12 z h
    exact ⟨p,e,zkp hq e912⟩
   ·rw [List.mem_singleton.mp h]
    exact ⟨p12,rfl,SqT.of (by rw [zau (ne _ _ e12)];exact e12)⟩
  ·rcases List.mem_append.mp hz with h|h
   ·exact zb z h
   ·rw [List.mem_singleton.mp h]
    exact ⟨⟨bp.1,by show pr<10 ^ 30;omega⟩,bc⟩
 ·rw [hPv] at h
  obtain ⟨s9,zs,zl,e9,za,zb,x7,x8,x9,rfl⟩:=h
  open_k0
  intro pr H10 _ s10 e10
  exact q pr lp zs f dy cc H10 ((s06.trans s9).trans s10) ⟨pc,bf.1,bf.2,((hc.same s6).same s9).same s10,e10⟩ (s10 _ _ e9) (za.same s10) ⟨by omega,by omega,zb⟩
theorem st_kinds {f:Int} {dy:Bool} {c:Int} {ts:List Tm} {day:Int} {o0 o1 o2:Option Rt} (hb: ∀t∈ts,zbs t.2.2.2=true) (h:zd1 f dy c ts day o0 o1 o2):ScD (stV o0 .non)∧(∃n,stV o1 (.int 1)= .int n)∧ ∃w,stV o2 on'= .str w:=by
 obtain ⟨h0,h1,h2⟩:=h
 have of: ∀(kd:Nat) (t:Rt),Bst (ts.map (rtT f dy c)) day kd (some t)→ ∃u:Tm,zbs u.2.2.2=true∧chK u.2.2.2=kd∧t.2.2.2=zem u.2.2.2:=fun kd t hb'=>by
  obtain ⟨u,hu,rfl⟩:=List.mem_map.mp hb'.1
  exact ⟨u,hb u hu,hb'.2.1,rfl⟩
 refine ⟨?_,?_,?_⟩
 ·cases o0 with
  |none=>exact .inl rfl
  |some t=>
   obtain ⟨u,tm,k,e⟩:=of 0 t h0
   show ScD t.2.2.2
   rw [e]
   cases hch:u.2.2.2 with
   |plan d nm=>exact .inr (.inr ⟨_,rfl⟩)
   |seats d n=>exact .inr (.inl ⟨_,rfl⟩)
   |word w d=>exact .inr (.inr ⟨_,rfl⟩)
   |undo k=>exact .inl rfl
   |grant k=>exact .inl rfl
   |back=>exact .inl rfl
 ·cases o1 with
  |none=>exact ⟨1,rfl⟩
  |some t=>
   obtain ⟨u,tm,k,e⟩:=of 1 t h1
   show∃n,t.2.2.2= .int n
   rw [e]
   cases hch:u.2.2.2 with
   |seats d n=>exact ⟨n,rfl⟩
   |plan d nm=>rw [hch] at k;cases k
   |word w d=>rw [hch] at k;cases k
   |undo k'=>rw [hch] at tm;cases tm
   |grant k'=>rw [hch] at tm;cases tm
   |back=>rw [hch] at tm;cases tm
 ·cases o2 with
  |none=>exact ⟨_,rfl⟩
  |some t=>
   obtain ⟨u,tm,k,e⟩:=of 2 t h2
   show∃n,t.2.2.2= .str n
   rw [e]
   cases hch:u.2.2.2 with
   |word w d=>exact ⟨_,rfl⟩
   |plan d nm=>rw [hch] at k;cases k
   |seats d nm=>rw [hch] at k;cases k
   |undo k'=>rw [hch] at tm;cases tm
   |grant k'=>rw [hch] at tm;cases tm
   |back=>rw [hch] at tm;cases tm
theorem zff.same {K:PySem.W.Frag} {H H':Hp} {l:Addr} {f:Int} {dy:Bool} {c:Int} {os:List Or'} (h:zff K H l f dy c os) (s:zao H H'):zff K H' l f dy c os:=⟨s _ _ h.1,h.2.1,fun o ho=>⟨s _ _ (h.2.2.1 o ho).1,s.sqT (h.2.2.1 o ho).2.1,(h.2.2.1 o ho).2.2⟩,h.2.2.2⟩
theorem st_std {f:Int} {dy:Bool} {c:Int} {ts:List Tm} {day:Int} {o0 o1 o2:Option Rt} (hb: ∀t∈ts,zbs t.2.2.2=true) (h:zd1 f dy c ts day o0 o1 o2):StD (stT o0 o1 o2):=by
 obtain ⟨k0,⟨n,k1⟩,w,k2⟩:=st_kinds hb h
 exact ⟨_,n,w,k0,by unfold stT;rw [k1,k2]⟩
theorem zd1.on {f:Int} {dy:Bool} {c:Int} {ts:List Tm} {day d2:Int} {o0 o1 o2:Option Rt} (h:zd1 f dy c ts day o0 o1 o2) (le:day≤d2) (n: ∀t∈ts,cntF f dy c t.2.2.2≤day∨d2<cntF f dy c t.2.2.2):zd1 f dy c ts d2 o0 o1 o2:=by
 have n': ∀r∈ts.map (rtT f dy c),r.2.1≤day∨d2<r.2.1:=fun r hr=>by
  obtain ⟨t,ht,rfl⟩:=List.mem_map.mp hr
  exact n t ht
 exact ⟨h.1.on le n',h.2.1.on le n',h.2.2.on le n'⟩
def IsG (f:Int) (dy:Bool) (c:Int) (ts:List Tm) (G:Int→List D):Prop:= ∀d o0 o1 o2,zd1 f dy c ts d o0 o1 o2→stT o0 o1 o2=G d
def zlC (f:Int) (dy:Bool) (c:Int) (ts:List Tm) (d:List D):Prop:= ∃dd o0 o1 o2,zd1 f dy c ts dd o0 o1 o2∧d=stT o0 o1 o2
def zgY (K:PySem.W.Frag):Sp:=fun vs H Q _=> ∃(l:Addr) (b e:Int) (f:Int) (dy:Bool) (c:Int) (os:List Or') (G:Int→List D),vs= [.ref l, .int b, .int e]∧zff K H l f dy c os∧b≤e∧IsG f dy c (os.map (·.2)) G∧ ∀r zs H',H r=none→zao H H'→zfS H' r zs→Rws G b (zs.map (·.2)) e→(∀z∈zs,zlC f dy c (os.map (·.2)) z.2.2.2)→zs.length≤64→Q (.ref r) H'
theorem sc_0k:FnScope ["ordered","begin","end","told","opened","state","term","day","behind"] ["ordered","begin","end"] (zap s_0k):=⟨rfl,rfl,rfl,by decide+kernel,rfl,by decide+kernel,by decide+kernel⟩
theorem ok_0k (T:Txt w K mg t):FnOk P w K mg base (CXE P w) 2 t.a_0k t.d_0k ["ordered","begin","end"] (zgY K):=by
 refine T.fn_0k.okX sc_0k (fun vs H Q E h=> ?_) (fun cdv A outer s H vs Q E L hr h=> ?_)
 ·obtain ⟨l,b,e,f,dy,c,os,G,rfl,ho,be,hG,q⟩:=h
  rfl
 obtain ⟨l,b,e,f,dy,c,os,G,rfl,ho,be,hG,q⟩:=h
 have nd:=sc_0k.nd
 refine ⟨_,(zad (zaM (zar zbv (pv 1) (pv 2) (zat _)) (zaf (zaw (zbg zae))) zaz) (zad (zan (i:=3) nd rfl (Or.inl rfl) (zbg zae)) (zad (zan (i:=4) nd rfl (Or.inl rfl) (pv 1)) (zad (zan (i:=5) nd rfl (Or.inl rfl) (zag L.toLv (ok_0i T) (hr.mono (by decide)) (by rfl) T.mg_0i T.fn_0i.kp T.b_0i .nil (zaa (pv 0) (zaa (pv 1) zae zab) zab))) (zad (zbO (by passes_own) rfl (zbu (pv 0)) (zaj (i:=6) nd rfl (Or.inl rfl)) (zad (zan (i:=7) nd rfl (Or.inl rfl) (zaq zas (pv 6) zac (fun _ _=>rfl))) (zaf (zaM (zdj (zar zcM (pv 1) (pv 7) (zat _)) (zcV (zar zcM (pv 7) (pv 2) (zat _)))).pt (zad (zan (i:=8) nd rfl (Or.inl rfl) (zag L.toLv (ok_0i T) (hr.mono (by decide)) (by rfl) T.mg_0i T.fn_0i.kp T.b_0i .nil (zaa (pv 0) (zaa (pv 7) zae zab) zab))) (zaf (zaM (zar (zhj hr) (pv 8) (pv 5) (zat _)) (zad (zb8 (zdB PySem.F.plainAttrs_list PySem.F.slot_list_append PySem.F.type_list_append zb2 (pv 3) (zaa (zaJ (zaa (pv 4) (zaa (pv 7) (zaa (pv 5) zae zab) zab) zab)) zae))) (zad (zan (i:=4) nd rfl (Or.inl rfl) (pv 7)) (zaf (zan (i:=5) nd rfl (Or.inl rfl) (pv 8))))) zaz))) zaz)))) (zad (zb8 (zdB PySem.F.plainAttrs_list PySem.F.slot_list_append PySem.F.type_list_append zb2 (pv 3) (zaa (zaJ (zaa (pv 4) (zaa (pv 2) (zaa (pv 5) zae zab) zab) zab)) zae))) (zaf (zaw (pv 3))))))))),?_⟩
 obtain ⟨el,n64,h3,so⟩:=id ho
 have tm: ∀t∈os.map (·.2),zbs t.2.2.2=true:=fun t ht=>by
  obtain ⟨o,ho',rfl⟩:=List.mem_map.mp ht
  exact (h3 o ho').2.2.1
 open_k0
 refine zbY (fun z=> ?_) (fun z=> ?_)
 ·exact fun r H1 hr s1 e1=>q r [] H1 hr s1 ⟨e1,(fun _ h=>nomatch h)⟩ z (fun _ h=>nomatch h) (by decide)
 intro lt H1 hlt s1 e1
 refine ⟨l,b,f,dy,c,os,rfl,ho.same s1,fun ps o0 o1 o2 H2 s2 so2 e2=> ?_⟩
 have s12:=s1.trans s2
 ((try dsimp only);refine zbX fun R hR=> ?_;lge_open0)
 refine ⟨⟨_,SqL.of (s12 _ _ el)⟩,hR _ _ ?_⟩
 clear hR
 obtain ⟨Pv,hPv⟩: ∃Pv:Nat→St→Hp→Prop,Pv=fun i σ1 H7=>zao H H7∧ ∃(zs:List (Addr×Rw)) (op:Int) (ps:Addr) (d:List D) (x6 x7 x8:Option V),zfS H7 lt zs∧zs.length≤i∧Rws G b (zs.map (·.2)) op∧(∀x,(zs.map (·.2)).getLast? =some x→x.2.2≠d)∧(H7 ps=some (.tup (d.map sv))∧StD d)∧((∀z∈zs,zlC f dy c (os.map (·.2)) z.2.2.2)∧zlC f dy c (os.map (·.2)) d)∧op<e∧(∀(j:Nat) o,os[j]? =some o→i≤j→b<cntF f dy c o.2.2.2.2→op≤cntF f dy c o.2.2.2.2)∧(∀day,op≤day→day<e→(∀(j:Nat) o,os[j]? =some o→i≤j→cntF f dy c o.2.2.2.2≤op∨day<cntF f dy c o.2.2.2.2)→G day=d)∧σ1= [some (.ref l),some (.int b),some (.int e),some (.ref lt),some (.int op),some (.ref ps),x6,x7,x8]:=⟨_,rfl⟩
 have go: ∀(k i:Nat) (x o:Or'),os[k]? =some x→os[i]? =some o→k≤i→cntF f dy c x.2.2.2.2≤cntF f dy c o.2.2.2.2:=fun k i x o hk hi ki=>by
  obtain ⟨hk',ek⟩:=List.getElem?_eq_some_iff.mp hk
  obtain ⟨hi',ei⟩:=List.getElem?_eq_some_iff.mp hi
  rcases Nat.lt_or_ge k i with z|z
  ·have:=(List.pairwise_iff_getElem.mp so k i hk' hi' z).1
   rw [ek,ei] at this
   exact this
  ·obtain rfl:k=i:=by omega
   rw [hk] at hi
   cases hi
   exact Int.le_refl _
 refine zcz (xs:=os.map fun o=>V.ref o.1) Pv ?_ (fun _ _ _ _ h=>by rw [hPv] at h;exact SqL.of (h.1 _ _ el)) (fun i x σ1 H7 hx h=> ?_) (fun σ1 H7 h=> ?_)
 ·rw [hPv]
  refine ⟨s12, [],b,ps,_,_,_,_,⟨s2 _ _ e1,(fun _ h=>nomatch h)⟩,Nat.le_refl _,rfl,(fun _ h=>nomatch h),⟨e2,st_std tm so2⟩,⟨(fun _ h=>nomatch h),_,_,_,_,so2,rfl⟩,by omega,fun _ _ _ _ h=>by omega,fun day h1 _ h2=> ?_,rfl⟩
  refine (hG _ _ _ _ (so2.on h1 fun t ht=> ?_)).symm
  obtain ⟨o,ho',rfl⟩:=List.mem_map.mp ht
  obtain ⟨j,hj⟩:=List.getElem?_of_mem ho'
  exact h2 j o hj (Nat.zero_le _)
 ·rw [hPv] at h
  obtain ⟨s7,zs,op,ps,d,x6,x7,x8,zA,zl,hr,la,⟨e7,sd⟩,⟨zS,dS⟩,oe,oc,ok,rfl⟩:=h
  obtain ⟨o,hz,rfl⟩: ∃o,os[i]? =some o∧x= .ref o.1:=by
   rw [List.getElem?_map] at hx
   obtain ⟨u,e,rfl⟩:=Option.map_eq_some_iff.mp hx
   exact ⟨u,e,rfl⟩
  obtain ⟨a1,a2,tb⟩:=h3 o (List.mem_of_getElem? hz)
  have bo:=Rws.le hr
  open_k0
  refine ixT (SqT.of (s7 _ _ a1)) (zbR _ _) ?_
  have nx: ∀(x8':Option V) (H8:Hp),zao H7 H8→(∀day,op≤day→day<e→(∀(j:Nat) o,os[j]? =some o→i+1≤j→cntF f dy c o.2.2.2.2≤op∨day<cntF f dy c o.2.2.2.2)→G day=d)→Pv (i+1) [some (.ref l),some (.int b),some (.int e),some (.ref lt),some (.int op),some (.ref ps),some (.ref o.1),some (.int (cntF f dy c o.2.2.2.2)),x8'] H8:=fun x8' H8 s8 hd=>by
   rw [hPv]
   exact ⟨s7.trans s8,zs,op,ps,d,_,_,_,zA.same s8,by omega,hr,la,⟨s8 _ _ e7,sd⟩,⟨zS,dS⟩,oe,fun j o hj ij=>oc j o hj (by omega),hd,rfl⟩
  have far:(cntF f dy c o.2.2.2.2≤op∨e≤cntF f dy c o.2.2.2.2)→ ∀day,op≤day→day<e→(∀(j:Nat) o,os[j]? =some o→i+1≤j→cntF f dy c o.2.2.2.2≤op∨day<cntF f dy c o.2.2.2.2)→G day=d:=fun hf day h1 h2 h4=>ok day h1 h2 fun j o' hj ij=>by
   rcases Nat.lt_or_ge i j with z|z
   ·exact h4 j o' hj z
   ·obtain rfl:i=j:=by omega
    rw [hz] at hj
    cases hj
    rcases hf with z|z
    ·exact .inl z
    ·exact .inr (by omega)
  refine ⟨_,rfl,zbY (fun hb=>⟨_,rfl,zbY (fun he=> ?_) fun he=>nx _ _ (zao.refl _) (far (.inr (by omega)))⟩) fun hb=>nx _ _ (zao.refl _) (far (.inl (by omega)))⟩
  refine ⟨l,cntF f dy c o.2.2.2.2,f,dy,c,os,rfl,ho.same s7,fun pb o0 o1 o2 H8 s8 so8 e8=> ?_⟩
  have oc':=oc i o hz (Nat.le_refl _) hb
  have sd8:=st_std tm so8
  have gb:=hG _ _ _ _ so8
  have all: ∀day,cntF f dy c o.2.2.2.2≤day→(∀(j:Nat) o',os[j]? =some o'→i+1≤j→cntF f dy c o'.2.2.2.2≤cntF f dy c o.2.2.2.2∨day<cntF f dy c o'.2.2.2.2)→G day=stT o0 o1 o2:=fun day h1 h2=>by
   refine (hG _ _ _ _ (so8.on h1 fun t ht=> ?_)).symm
   obtain ⟨o',ho',rfl⟩:=List.mem_map.mp ht
   obtain ⟨j,hj⟩:=List.getElem?_of_mem ho'
   rcases Nat.lt_or_ge i j with z|z
   ·exact h2 j o' hj z
   ·exact .inl (go j i o' o hj hz z)
  have go': ∀(j:Nat) o',os[j]? =some o'→i+1≤j→cntF f dy c o.2.2.2.2≤cntF f dy c o'.2.2.2.2:=fun j o' hj ij=>go i j o o' hz hj (by omega)
  refine ⟨0, .tup (stT o0 o1 o2), .tup d,sd8.dp e8,sd.dp (s8 _ _ e7),rfl,rfl,by decide,sd8.cmp sd,_,rfl,?_⟩
  by_cases eq:stT o0 o1 o2=d
  ·rw [(sd8.eqb sd).mpr eq]
   refine zaT (by decide) (nx _ _ s8 fun day h1 h2 h4=> ?_)
   by_cases dc:day<cntF f dy c o.2.2.2.2
   ·exact ok day h1 h2 fun j o' hj ij=>by
     rcases Nat.lt_or_ge i j with z|z
     ·exact h4 j o' hj z
     ·obtain rfl:i=j:=by omega
      rw [hz] at hj
      cases hj
      exact .inr dc
   ·rw [←eq]
    exact all day (by omega) fun j o' hj ij=>by
     rcases h4 j o' hj ij with z|z
     ·exact .inl (by omega)
     ·exact .inr z
  ·rw [show L2.eqb 1 (.tup (stT o0 o1 o2)) (.tup d)=false from Bool.eq_false_iff.mpr fun z=>eq ((sd8.eqb sd).mp z)]
   refine zbr rfl ?_
   have gop:=ok op (Int.le_refl _) oe fun j o' _ _=>by omega
   have lo:op<cntF f dy c o.2.2.2.2:=by
    rcases Int.lt_or_eq_of_le oc' with z|z
    ·exact z
    ·rw [z] at gop;exact absurd (gb.trans gop) eq
   have z8:=zA.same s8
   w_why
   refine ⟨.inl ⟨rfl,_,SqL.of z8.1⟩,fun pt H9 hpt s9 e9=> ?_⟩
   have z9:=z8.same s9
   have off: ∀p xs ys,H9 p=some (.tup xs)→upd H9 lt (.lst ys) p=some (.tup xs):=fun p xs ys e=>by
    rw [zau (fun y=>by rw [y,z9.1] at e;cases e)]
    exact e
   refine ⟨lt,_,_,rfl,rfl,z9.1,zbU (show _+1≤1000 by rw [List.length_map];have:=(List.getElem?_eq_some_iff.mp hz).1;omega),?_⟩
   rw [hPv]
   refine ⟨((s7.trans s8).trans s9).put hlt _,zs++ [(pt,op,cntF f dy c o.2.2.2.2,d)],cntF f dy c o.2.2.2.2,pb,stT o0 o1 o2,_,_,_,⟨by rw [zay,List.map_append];rfl,fun z hz'=> ?_⟩,by rw [List.length_append];show _+1≤_;omega,?_,fun x hx=> ?_,⟨off _ _ _ (s9 _ _ e8),sd8⟩,⟨fun z hz'=> ?_,_,_,_,_,so8,rfl⟩,he,fun j o' hj ij _=>go' j o' hj ij,fun day h1 _ h4=>all day h1 h4,rfl⟩
   ·rcases List.mem_append.mp hz' with h|h
    ·exact (z9.2 z h).put z9.1
    ·rw [List.mem_singleton.mp h]
     exact ⟨ps,off _ _ _ e9,off _ _ _ (s9 _ _ (s8 _ _ e7)),sd⟩
   ·rw [List.map_append]
    exact Rws.snoc (z:=(op,cntF f dy c o.2.2.2.2,d)) hr rfl lo (fun day h1 h2=>by
     have h2':day<cntF f dy c o.2.2.2.2:=h2
     exact ok day h1 (by omega) fun j o' hj ij=> .inr (by
      have:=go i j o o' hz hj ij
      omega)) la
   ·rw [List.map_append,List.map_cons,List.map_nil,List.getLast?_concat] at hx
    cases hx
    exact fun z=>eq z.symm
   ·rcases List.mem_append.mp hz' with h|h
    ·exact zS z h
    ·rw [List.mem_singleton.mp h]
     exact dS
 ·rw [hPv] at h
  obtain ⟨s7,zs,op,ps,d,x6,x7,x8,zA,zl,hr,la,⟨e7,sd⟩,⟨zS,dS⟩,oe,oc,ok,rfl⟩:=h
  rw [List.length_map] at zl ok
  w_why
  refine ⟨.inl ⟨rfl,_,SqL.of zA.1⟩,fun pt H9 hpt s9 e9=> ?_⟩
  have z9:=zA.same s9
  have off: ∀p xs ys,H9 p=some (.tup xs)→upd H9 lt (.lst ys) p=some (.tup xs):=fun p xs ys e=>by
   rw [zau (fun y=>by rw [y,z9.1] at e;cases e)]
   exact e
  refine ⟨lt,_,_,rfl,rfl,z9.1,zbU (show _+1≤1000 by rw [List.length_map];omega),?_⟩
  refine q lt (zs++ [(pt,op,e,d)]) _ hlt ((s7.trans s9).put hlt _) ⟨by rw [zay,List.map_append];rfl,fun z hz'=> ?_⟩ ?_ (fun z hz'=> ?_) (by rw [List.length_append];show _+1≤_;omega)
  ·rcases List.mem_append.mp hz' with h|h
   ·exact (z9.2 z h).put z9.1
   ·rw [List.mem_singleton.mp h]
    exact ⟨ps,off _ _ _ e9,off _ _ _ (s9 _ _ e7),sd⟩
  ·rw [List.map_append]
   exact Rws.snoc (z:=(op,e,d)) hr rfl oe (fun day h1 h2=>ok day h1 h2 fun j o' hj ij=>by
    have:=(List.getElem?_eq_some_iff.mp hj).1
    omega) la
  ·rcases List.mem_append.mp hz' with h|h
   ·exact zS z h
   ·rw [List.mem_singleton.mp h]
    exact dS
def Ss (F:Int→Int) (a:Int):Nat→Int
 |0=>0
 |n+1=>Ss F a n+F (a+n)
theorem Ss.add (F:Int→Int) (a:Int) (m:Nat): ∀n:Nat,Ss F a (m+n)=Ss F a m+Ss F (a+m) n
 |0=>by show Ss F a m=Ss F a m+0;omega
 |n+1=>by
  show Ss F a (m+n)+F (a+(m+n:Nat))=Ss F a m+(Ss F (a+m) n+F (a+m+n))
  rw [Ss.add F a m n,show a+((m+n:Nat):Int)=a+m+n by omega]
  omega
theorem Ss.congr {F G:Int→Int} {a:Int}: ∀{n:Nat},(∀i:Nat,i<n→F (a+i)=G (a+i))→Ss F a n=Ss G a n
 |0,_=>rfl
 |n+1,h=>by
  show Ss F a n+F (a+n)=Ss G a n+G (a+n)
  rw [Ss.congr fun i hi=>h i (by omega),h n (by omega)]
def Sb (F:Int→Int) (a b:Int):Int:=Ss F a (b - a).toNat
theorem Sb.add {F:Int→Int} {a b c:Int} (h:a≤b) (g:b≤c):Sb F a b+Sb F b c=Sb F a c:=by
 unfold Sb
 have:=Ss.add F a (b - a).toNat (c - b).toNat
 rw [show (b - a).toNat+(c - b).toNat=(c - a).toNat by omega,show a+((b - a).toNat:Int)=b by omega] at this
 omega
theorem Sb.self (F:Int→Int) (a:Int):Sb F a a=0:=by unfold Sb;rw [Int.sub_self];rfl
theorem Sb.congr {F G:Int→Int} {a b:Int} (h: ∀o,a≤o→o<b→F o=G o):Sb F a b=Sb G a b:=Ss.congr fun i hi=>h _ (by omega) (by omega)
theorem zgZ (zs:List (V×Pl)) (sb se b m e:Int) (d:List D):zcQ zs sb se b m d+zcQ zs sb se m e d=zcQ zs sb se b e d:=by
 unfold zcQ
 split
 ·split
  ·unfold zfV
   omega
  ·rfl
 ·rfl
theorem ziO (zs:List (V×Pl)) (sb se b:Int) (d:List D):zcQ zs sb se b b d=0:=by
 have:=zgZ zs sb se b b b d
 omega
theorem zii {zs:List (V×Pl)} {sb se b:Int} {G:Int→List D} {d:List D}: ∀{n:Nat},(∀i:Nat,i<n→G (b+i)=d)→Ss (fun o=>zcQ zs sb se o (o+1) (G o)) b n=zcQ zs sb se b (b+n) d
 |0,_=>by
  show 0=zcQ zs sb se b (b+(0:Nat)) d
  rw [show b+((0:Nat):Int)=b by omega,ziO]
 |n+1,h=>by
  show Ss _ b n+zcQ zs sb se (b+n) (b+n+1) (G (b+n))=_
  rw [zii fun i hi=>h i (by omega),h n (by omega),zgZ,show b+(n:Int)+1=b+((n+1:Nat):Int) by omega]
theorem zfh {zs:List (V×Pl)} {sb se:Int} {G:Int→List D}: ∀{xs:List Rw} {b e:Int},Rws G b xs e→(xs.map fun x=>zcQ zs sb se x.1 x.2.1 x.2.2).sum=Sb (fun o=>zcQ zs sb se o (o+1) (G o)) b e
 | [],b,e,h=>by
  obtain rfl:b=e:=h
  rw [Sb.self]
  rfl
 |x::r,b,e,h=>by
  obtain ⟨h1,h2,h3,_,h5⟩:=h
  rw [List.map_cons,List.sum_cons,zfh h5,←Sb.add (show b≤x.2.1 by omega) (Rws.le h5)]
  have:Sb (fun o=>zcQ zs sb se o (o+1) (G o)) b x.2.1=zcQ zs sb se b x.2.1 x.2.2:=by
   unfold Sb
   rw [zii (d:=x.2.2) fun i hi=>h3 _ (by omega) (by omega),show b+((x.2.1 - b).toNat:Int)=x.2.1 by omega]
  rw [this,h1]
def zhH (zs:List (V×Pl)) (sb se:Int) (H:Hp) (z:Addr×Rw):Prop:= ∃s,H z.1=some (.tup [.int z.2.1, .int z.2.2.1, .ref s, .int (zcQ zs sb se z.2.1 z.2.2.1 z.2.2.2)])∧H s=some (.tup (z.2.2.2.map sv))∧StD z.2.2.2
def LnR (zs:List (V×Pl)) (sb se:Int) (H:Hp) (r:Addr) (ws:List (Addr×Rw)):Prop:=H r=some (.lst (ws.map fun w=>V.ref w.1))∧ ∀w∈ws,zhH zs sb se H w
theorem zhH.same {zs:List (V×Pl)} {sb se:Int} {H H':Hp} {z:Addr×Rw} (h:zhH zs sb se H z) (s:zao H H'):zhH zs sb se H' z:=let ⟨a,h1,h2,h3⟩:=h;⟨a,s _ _ h1,s _ _ h2,h3⟩
theorem zhH.put {zs:List (V×Pl)} {sb se:Int} {H:Hp} {z:Addr×Rw} {l:Addr} {xs ys:List V} (h:zhH zs sb se H z) (e:H l=some (.lst xs)):zhH zs sb se (upd H l (.lst ys)) z:=by
 obtain ⟨a,h1,h2,h3⟩:=h
 refine ⟨a,?_,?_,h3⟩
 ·rw [zau (fun y=>by rw [y,e] at h1;cases h1)];exact h1
 ·rw [zau (fun y=>by rw [y,e] at h2;cases h2)];exact h2
def zgn (K:PySem.W.Frag):Sp:=fun vs H Q _=> ∃(pa l p1 la:Addr) (f:Int) (dy:Bool) (c:Int) (zs:List (V×Pl)) (sb se e:Int) (os:List Or') (G:Int→List D),vs= [.ref pa, .ref l, .ref p1, .int e]∧zdf K H pa la f dy c zs∧zff K H l f dy c os∧H p1=some (.tup [.int sb, .int se])∧sb≤e∧e≤se∧sb<se∧se - sb<10 ^ 10∧IsG f dy c (os.map (·.2)) G∧(∀o∈os,TmX zs o.2.2.2.2)∧ ∀r ws H',H r=none→zao H H'→LnR zs sb se H' r ws→ws.length≤64→Rws G sb (ws.map (·.2)) e→Q (.ref r) H'
theorem sc_0o:FnScope ["account","ordered","span","day","lines","stretch","begin","end","state"] ["account","ordered","span","day"] (zap s_0o):=⟨rfl,rfl,rfl,by decide+kernel,rfl,by decide+kernel,by decide+kernel⟩
theorem ok_0o (T:Txt w K mg t):FnOk P w K mg base (CXE P w) 3 t.a_0o t.d_0o ["account","ordered","span","day"] (zgn K):=by
 refine T.fn_0o.okX sc_0o (fun vs H Q E h=> ?_) (fun cdv A outer s H vs Q E L hr h=> ?_)
 ·obtain ⟨pa,l,p1,la,f,dy,c,zs,sb,se,e,os,G,rfl,hz,ho,e1,h1,h2,h3,h4,hG,hx,q⟩:=h
  rfl
 obtain ⟨pa,l,p1,la,f,dy,c,zs,sb,se,e,os,G,rfl,hz,ho,e1,h1,h2,h3,h4,hG,hx,q⟩:=h
 have nd:=sc_0o.nd
 refine ⟨_,(zad (zan (i:=4) nd rfl (Or.inl rfl) (zbg zae)) (zad (zbO (by passes_own) rfl (zbu (zag L.toLv (ok_0k T) (hr.mono (by decide)) (by rfl) T.mg_0k T.fn_0k.kp T.b_0k .nil (zaa (pv 1) (zaa (zaq zas (pv 2) zac (fun _ _=>rfl)) (zaa (pv 3) zae zab) zak) zab))) (zaj (i:=5) nd rfl (Or.inl rfl)) (zad (zby (pv 5) (zbi (n:=3) rfl (zal (zaj (i:=6) nd rfl (Or.inl rfl)) (zal (zaj (i:=7) nd rfl (Or.inl rfl)) (zal (zaj (i:=8) nd rfl (Or.inl rfl)) zaV))))) (zaf (zb8 (zdB PySem.F.plainAttrs_list PySem.F.slot_list_append PySem.F.type_list_append zb2 (pv 4) (zaa (zaJ (zaa (pv 6) (zaa (pv 7) (zaa (pv 8) (zaa (zag L.toLv (ok_0m T) (hr.mono (by decide)) (by rfl) T.mg_0m T.fn_0m.kp T.b_0m .nil (zaa (pv 0) (zaa (pv 2) (zaa (pv 5) zae zab) zab) zab)) zae zaB) zab) zab) zab)) zae)))))) (zaf (zaw (pv 4))))),?_⟩
 open_k0
 intro lt H1 hlt s1 e2
 ((try dsimp only);refine zbX fun R hR=> ?_;lge_open0)
 refine ixT (SqT.of (s1 _ _ e1)) (zbR _ _) ⟨l,sb,e,f,dy,c,os,G,rfl,ho.same s1,h1,hG,fun r ys H2 nr s2 yA yW yS yl=> ?_⟩
 refine ⟨r,rfl,⟨_,SqL.of yA.1⟩,hR _ _ ?_⟩
 clear hR
 have s12:=s1.trans s2
 have e22:=s2 _ _ e2
 have rl:r≠lt:=fun z=>by rw [z,e2] at nr;cases nr
 obtain ⟨Pv,hPv⟩: ∃Pv:Nat→St→Hp→Prop,Pv=fun i σ1 H7=>zao H H7∧zfS H7 r ys∧ ∃(ws:List (Addr×Rw)) (x5 x6 x7 x8:Option V),LnR zs sb se H7 lt ws∧ws.length=i∧ws.map (·.2)=(ys.take i).map (·.2)∧σ1= [some (.ref pa),some (.ref l),some (.ref p1),some (.int e),some (.ref lt),x5,x6,x7,x8]:=⟨_,rfl⟩
 refine zcz (xs:=ys.map fun y=>V.ref y.1) Pv (by rw [hPv];exact ⟨s12,yA, [],_,_,_,_,⟨e22,(fun _ h=>nomatch h)⟩,rfl,rfl,rfl⟩) (fun _ _ _ _ h=>by rw [hPv] at h;exact SqL.of h.2.1.1) (fun i x σ1 H7 hxx h=> ?_) (fun σ1 H7 h=> ?_)
 ·rw [hPv] at h
  obtain ⟨s7,yA7,ws,x5,x6,x7,x8,wA,wl,wm,rfl⟩:=h
  obtain ⟨y,hy,rfl⟩: ∃y,ys[i]? =some y∧x= .ref y.1:=by
   rw [List.getElem?_map] at hxx
   obtain ⟨u,e,rfl⟩:=Option.map_eq_some_iff.mp hxx
   exact ⟨u,e,rfl⟩
  have hm:=List.mem_of_getElem? hy
  obtain ⟨s,g1,g2,g3⟩:=yA7.2 y hm
  obtain ⟨dd,o0,o1,o2,so,ey⟩:=yS y hm
  have sx:=st_x (zs:=zs) (fun t h=>by obtain ⟨o,ho',rfl⟩:=List.mem_map.mp h;exact (ho.2.2.1 o ho').2.2.1) (fun t h=>by obtain ⟨o,ho',rfl⟩:=List.mem_map.mp h;exact hx o ho') so
  rw [←ey] at sx
  obtain ⟨r1,r2,r3⟩:=Rws.in hy yW
  w_why
  refine ⟨y.1,_,rfl,SqT.of g1,rfl,?_⟩
  w_why
  refine ⟨.inl ⟨rfl,_,SqL.of wA.1⟩,pa,la,f,dy,c,zs,_,p1,y.1,s,sb,se,_,_,rfl,hz.same s7,sx,s7 _ _ e1,g1,g2,r1,by omega,by omega,h3,h4,fun H3 s3=> ?_⟩
  intro p4 H4 _ s4 e4
  have s74:=s3.trans s4
  have w4:=s74 _ _ wA.1
  have off: ∀p xs zs',H4 p=some (.tup xs)→upd H4 lt (.lst zs') p=some (.tup xs):=fun p xs zs' h=>by
   rw [zau (fun z=>by rw [z,w4] at h;cases h)]
   exact h
  refine ⟨lt,_,_,rfl,rfl,w4,zc7 (show (ws.map fun w=>V.ref w.1).length≤1000 by rw [List.length_map];have:=(List.getElem?_eq_some_iff.mp hy).1;omega),?_⟩
  rw [hPv]
  refine ⟨(s7.trans s74).put hlt _,⟨by rw [zau rl];exact s74 _ _ yA7.1,fun z hz'=>((yA7.2 z hz').same s74).put w4⟩,ws++ [(p4,y.2)],_,_,_,_,⟨by rw [zay,List.map_append];rfl,fun w hw=> ?_⟩,by rw [List.length_append,wl];rfl,?_,rfl⟩
  ·rcases List.mem_append.mp hw with h|h
   ·exact ((wA.2 w h).same s74).put w4
   ·rw [List.mem_singleton.mp h]
    exact ⟨s,off _ _ _ e4,off _ _ _ (s74 _ _ g2),g3⟩
  ·rw [List.map_append,wm,List.take_add_one,hy,Option.toList_some,List.map_append]
   rfl
 ·rw [hPv] at h
  obtain ⟨s7,yA7,ws,x5,x6,x7,x8,wA,wl,wm,rfl⟩:=h
  rw [List.length_map,List.take_length] at wm
  rw [List.length_map] at wl
  open_k0
  refine q lt ws H7 hlt s7 wA (by omega) ?_
  rw [wm]
  exact yW
def zjQ (K:PySem.W.Frag):Sp:=fun vs H Q _=> ∃(l:Addr) (zs:List (V×Pl)) (sb se:Int) (ws:List (Addr×Rw)),vs= [.ref l]∧LnR zs sb se H l ws∧ws.length≤64∧ ∀H',zao H H'→Q (.int ((ws.map (·.2)).map fun x=>zcQ zs sb se x.1 x.2.1 x.2.2).sum) H'
theorem sc_0p:FnScope ["lines"] ["lines"] (zap s_0p):=⟨rfl,rfl,rfl,by decide+kernel,rfl,by decide+kernel,by decide+kernel⟩
theorem ok_0p (T:Txt w K mg t):FnOk P w K mg base (CXE P w) 1 t.a_0p t.d_0p ["lines"] (zjQ K):=by
 refine T.fn_0p.okX sc_0p (fun vs H Q E h=> ?_) (fun cdv A outer s H vs Q E L hr h=> ?_)
 ·obtain ⟨l,zs,sb,se,ws,rfl,wA,wl,q⟩:=h
  rfl
 obtain ⟨l,zs,sb,se,ws,rfl,wA,wl,q⟩:=h
 have nd:=sc_0p.nd
 refine ⟨_,(zaf (zaw (zaF (zgF (by rfl)) (by rfl) T.no_sum zjk (zaa (zcK (n:=1) (N:= ["line"]) (js:= []) (by rfl) rfl rfl (zbu (pv 0)) (fun a=>(zaj (i:=0) (show List.Nodup (["line"]:List Str) from by decide+kernel) rfl (Or.inl rfl))) (fun a=>zcC) (fun a=>(zaq zas (pv 0) zac (fun _ _=>rfl)))) zae)))),?_⟩
 simp only [zbe,zaU,zbK,zbd,zcx,zbc,zcr,zaS,zbJ,zbb,zbm,zbI,tDc,za4,za5,za3,zbG,zbH,zbl,zbn,za2,zaG,zaH,zcq,List.replicate,Option.join_some,Option.join_none,za6,zcv,zbF,zaR,tSl,zcs,zcp,zcu,slT,zcg,Int.reduceLT,Int.reduceLE,Int.reduceToNat,Int.reduceNeg,Int.reduceAdd,Int.reduceSub,Int.reduceMul,forall_const,zcl,zbC,zcn,zcm,zbM,zbD,zcc,zbq,zbt,zcf,zce,tC,tOp,rI,rI0,tUn,rU,zbE,tB,zci,tOr,zcj,zbA,zck,zbB,tIf,zbx,zch,za9,zbk,tCB,zba,rEq,rNe,zaX,zaY,zaZ,za0,za1,zbj,zco,ipI,L2.start,List.map_cons,List.map_nil,List.length_cons,List.length_nil,List.cons_append,List.nil_append,List.append_nil,List.replicate_succ,List.replicate_zero,Nat.reduceAdd,Nat.reduceSub,List.getElem?_cons_zero,List.getElem?_cons_succ,List.set_cons_zero,List.set_cons_succ,Option.some.injEq,V.int.injEq,V.bl.injEq,V.ref.injEq,V.str.injEq,exists_eq_left',exists_eq_left,exists_eq',exists_and_left,List.cons.injEq,and_true,true_and,and_self,and_assoc,decide_eq_true_eq,if_true,if_false,Bool.true_eq_false,Bool.false_eq_true,Bool.not_eq_true',Bool.not_true,Bool.not_false,decide_eq_false_iff_not,ite_true,ite_false,reduceCtorEq,false_and,exists_false,false_or,or_false,and_false,zds,zdz,Nat.reduceLeDiff]
 refine ⟨⟨_,SqL.of wA.1⟩,fun l2 hl2 aa=> ?_⟩
 refine zb0 (fun j xs _=>xs=(((ws.take j).map (·.2)).map fun x=>zcQ zs sb se x.1 x.2.1 x.2.2).map V.int) (zb3 (SqL.of wA.1)) hl2 (by rw [List.length_map];exact za7 (by omega)) (fun _ _=>rfl) (fun j y xs H8 K1 K0 hx sm pv hl k1 k0=> ?_) (fun xs H2 s2 pv _ w2=> ?_)
 ·obtain ⟨w',hw,rfl⟩: ∃w',ws[j]? =some w'∧y= .ref w'.1:=by
   rw [List.getElem?_map] at hx
   obtain ⟨u,e,rfl⟩:=Option.map_eq_some_iff.mp hx
   exact ⟨u,e,rfl⟩
  obtain ⟨s,a4,_,_⟩:=wA.2 w' (List.mem_of_getElem? hw)
  lgec_open0
  refine ixT (SqT.of (sm _ _ a4)) (zmy _ _ _ _ _) (k1 _ _ (zao.refl _) fun H5 _=> ?_)
  rw [pv,List.take_add_one,hw,Option.toList_some,List.map_append,List.map_append,List.map_append]
  rfl
 ·rw [List.length_map,List.take_length] at pv
  subst pv
  exact ⟨l2,rfl,_,SqL.of w2,q H2 s2⟩
def zjR (f:Int) (dy:Bool) (c:Int) (ts:List Tm) (G:Int→List D):Prop:= ∀ts',(∀t,t∈ts'↔t∈ts)→IsG f dy c ts' G
theorem zjS {zs:List (V×Pl)} {os:List Or'} {ts:List Tm} (om: ∀t,t∈os.map (·.2)↔t∈ts) (hx: ∀t∈ts,TmX zs t.2.2.2): ∀o∈os,TmX zs o.2.2.2.2:=fun o h=>hx o.2 ((om o.2).mp (List.mem_map.mpr ⟨o,h,rfl⟩))
def zg0 (K:PySem.W.Frag) (t:Adr):Sp:=fun vs H Q E=> ∃(pa l la:Addr) (f:Int) (dy:Bool) (c:Int) (zs:List (V×Pl)) (ts:List Tm) (G:Int→List D) (k:Int),vs= [.ref pa, .ref l, .int k]∧zdf K H pa la f dy c zs∧zde K H l f (Cal.beg f dy c 60) ts∧(∀t∈ts,TmX zs t.2.2.2)∧zjR f dy c ts G∧(0≤k→k<60→ ∀r ws H',H r=none→zao H H'→LnR zs (Cal.beg f dy c k) (Cal.beg f dy c (k+1)) H' r ws→ws.length≤64→Rws G (Cal.beg f dy c k) (ws.map (·.2)) (Cal.beg f dy c (k+1))→Q (.ref r) H')∧(k<0→ ∀H',zao H H'→E (.ref t.c_Z09) none H')∧(60≤k→ ∀H',zao H H'→E (.ref t.c_Z0e) none H')
theorem sc_0q:FnScope ["account","terms","k","span"] ["account","terms","k"] (zap s_0q):=⟨rfl,rfl,rfl,by decide+kernel,rfl,by decide+kernel,by decide+kernel⟩
theorem ok_0q (T:Txt w K mg t):FnOk P w K mg base (CXE P w) 10 t.a_0q t.d_0q ["account","terms","k"] (zg0 K t):=by
 refine T.fn_0q.okX sc_0q (fun vs H Q E h=> ?_) (fun cdv A outer s H vs Q E L hr h=> ?_)
 ·obtain ⟨pa,l,la,f,dy,c,zs,ts,G,k,rfl,hz,ht,hx,hG,q,q2,q3⟩:=h
  rfl
 obtain ⟨pa,l,la,f,dy,c,zs,ts,G,k,rfl,hz,ht,hx,hG,q,q2,q3⟩:=h
 have nd:=sc_0q.nd
 refine ⟨_,(zad (zan (i:=3) nd rfl (Or.inl rfl) (zag L.toLv (ok_0d T) (hr.mono (by decide)) (by rfl) T.mg_0d T.fn_0d.kp T.b_0d .nil (zaa (pv 0) (zaa (pv 2) zae zab) zab))) (zaf (zaw (zag L.toLv (ok_0o T) (hr.mono (by decide)) (by rfl) T.mg_0o T.fn_0o.kp T.b_0o .nil (zaa (pv 0) (zaa (zag L.toLv (ok_0h T) (hr.mono (by decide)) (by rfl) T.mg_0h T.fn_0h.kp T.b_0h .nil (zaa (pv 0) (zaa (pv 1) zae zab) zab)) (zaa (pv 3) (zaa (zaq zas (pv 3) zac (fun _ _=>rfl)) zae zak) zab) zaB) zab))))),?_⟩
 obtain ⟨f0,f1,hc⟩:=hz.1.cyc
 open_k0
 refine ⟨pa,la,f,dy,c,k,rfl,hz.1,fun k0 k1 p1 H1 s1 e1=> ?_,q2,q3⟩
 have bw:=zeo f0 f1 hc k0 k1
 refine ⟨pa,l,la,f,dy,c,ts,rfl,hz.1.same s1,ht.same s1,fun l2 os H2 s2 ho om=> ?_⟩
 refine ixT (SqT.of (s2 _ _ e1)) (zb7 _ _ _) ?_
 exact ⟨pa,l2,p1,la,f,dy,c,zs,_,_,_,os,G,rfl,hz.same (s1.trans s2),ho,s2 _ _ e1,by omega,Int.le_refl _,bw.2.1,by omega,hG _ om,zjS om hx,fun r ws H3 nr s3 wA wl ws'=>q k0 k1 r ws H3 ((s1.trans s2).none nr) ((s1.trans s2).trans s3) wA wl ws'⟩
def zhI (K:PySem.W.Frag) (t:Adr):Sp:=fun vs H Q E=> ∃(pa l la:Addr) (f:Int) (dy:Bool) (c:Int) (zs:List (V×Pl)) (ts:List Tm) (G:Int→List D) (k:Int),vs= [.ref pa, .ref l, .int k]∧zdf K H pa la f dy c zs∧zde K H l f (Cal.beg f dy c 60) ts∧(∀t∈ts,TmX zs t.2.2.2)∧zjR f dy c ts G∧(0≤k→k<60→ ∀H',zao H H'→Q (.int (Sb (fun o=>zcQ zs (Cal.beg f dy c k) (Cal.beg f dy c (k+1)) o (o+1) (G o)) (Cal.beg f dy c k) (Cal.beg f dy c (k+1)))) H')∧(k<0→ ∀H',zao H H'→E (.ref t.c_Z09) none H')∧(60≤k→ ∀H',zao H H'→E (.ref t.c_Z0e) none H')
theorem sc_0r:FnScope ["account","terms","k"] ["account","terms","k"] (zap s_0r):=⟨rfl,rfl,rfl,by decide+kernel,rfl,by decide+kernel,by decide+kernel⟩
theorem ok_0r (T:Txt w K mg t):FnOk P w K mg base (CXE P w) 11 t.a_0r t.d_0r ["account","terms","k"] (zhI K t):=by
 refine T.fn_0r.okX sc_0r (fun vs H Q E h=> ?_) (fun cdv A outer s H vs Q E L hr h=> ?_)
 ·obtain ⟨pa,l,la,f,dy,c,zs,ts,G,k,rfl,hz,ht,hx,hG,q,q2,q3⟩:=h
  rfl
 obtain ⟨pa,l,la,f,dy,c,zs,ts,G,k,rfl,hz,ht,hx,hG,q,q2,q3⟩:=h
 have nd:=sc_0r.nd
 refine ⟨_,(zaf (zaw (zag L.toLv (ok_0p T) (hr.mono (by decide)) (by rfl) T.mg_0p T.fn_0p.kp T.b_0p .nil (zaa (zag L.toLv (ok_0q T) (hr.mono (by decide)) (by rfl) T.mg_0q T.fn_0q.kp T.b_0q .nil (zaa (pv 0) (zaa (pv 1) (zaa (pv 2) zae zab) zab) zab)) zae)))),?_⟩
 open_k0
 refine ⟨pa,l,la,f,dy,c,zs,ts,G,k,rfl,hz,ht,hx,hG,fun k0 k1 r ws H1 _ s1 wA wl ws'=>⟨r,zs,_,_,ws,rfl,wA,wl,fun H2 s2=> ?_⟩,q2,q3⟩
 rw [zfh ws']
 exact q k0 k1 H2 (s1.trans s2)
noncomputable def dC (f:Int) (dy:Bool) (c:Int) (zs:List (V×Pl)) (G:Int→List D) (o:Int):Int:=open Classical in if h: ∃k:Int,0≤k∧k<60∧Cal.beg f dy c k≤o∧o<Cal.beg f dy c (k+1) then zcQ zs (Cal.beg f dy c h.choose) (Cal.beg f dy c (h.choose+1)) o (o+1) (G o) else 0
theorem zk0 {f c o k:Int} {dy:Bool} {zs:List (V×Pl)} {G:Int→List D} (f0:0≤f) (f1:f≤3500000) (hc:Cal.CycOk dy c) (k0:0≤k) (k1:k<60) (a:Cal.beg f dy c k≤o) (b:o<Cal.beg f dy c (k+1)):dC f dy c zs G o=zcQ zs (Cal.beg f dy c k) (Cal.beg f dy c (k+1)) o (o+1) (G o):=by
 unfold dC
 have h: ∃k:Int,0≤k∧k<60∧Cal.beg f dy c k≤o∧o<Cal.beg f dy c (k+1):=⟨k,k0,k1,a,b⟩
 rw [dif_pos h]
 obtain ⟨x1,x2,x3,x4⟩:=h.choose_spec
 rw [Cal.beg_one f0 f1 hc x1 x2 k0 k1 x3 x4 a b]
theorem zkG {f c k e:Int} {dy:Bool} {zs:List (V×Pl)} {G:Int→List D} (f0:0≤f) (f1:f≤3500000) (hc:Cal.CycOk dy c) (k0:0≤k) (k1:k<60) (he:e≤Cal.beg f dy c (k+1)):Sb (fun o=>zcQ zs (Cal.beg f dy c k) (Cal.beg f dy c (k+1)) o (o+1) (G o)) (Cal.beg f dy c k) e=Sb (dC f dy c zs G) (Cal.beg f dy c k) e:=
 Sb.congr fun o h1 h2=>(zk0 f0 f1 hc k0 k1 h1 (by omega)).symm
def zma (K:PySem.W.Frag):Sp:=fun vs H Q _=> ∃(pa l:Addr) (f:Int) (dy:Bool) (c:Int),vs= [.ref pa]∧zcO K H pa l f dy c∧ ∀H',zao H H'→Q (.int (Cal.beg f dy c 60)) H'
theorem sc_0b:FnScope ["account","plans","first","cycle"] ["account"] (zap s_0b):=⟨rfl,rfl,rfl,by decide+kernel,rfl,by decide+kernel,by decide+kernel⟩
theorem ok_0b (T:Txt w K mg t):FnOk P w K mg base (CXE P w) 6 t.a_0b t.d_0b ["account"] (zma K):=by
 refine T.fn_0b.okX sc_0b (fun vs H Q E h=> ?_) (fun cdv A outer s H vs Q E L hr h=> ?_)
 ·obtain ⟨pa,l,f,dy,c,rfl,⟨pc,f0,f1,hc,ep⟩,q⟩:=h
  rfl
 obtain ⟨pa,l,f,dy,c,rfl,⟨pc,f0,f1,hc,ep⟩,q⟩:=h
 have nd:=sc_0b.nd
 obtain ⟨u_SPANS,h_SPANS,r_SPANS⟩:=T.k_Z0b
 refine ⟨_,(zad (zby (pv 0) (zbi (n:=3) rfl (zal (zaj (i:=1) nd rfl (Or.inl rfl)) (zal (zaj (i:=2) nd rfl (Or.inl rfl)) (zal (zaj (i:=3) nd rfl (Or.inl rfl)) zaV))))) (zaf (zaw (zag L.toLv (ok_07 T) (hr.mono (by decide)) (by rfl) T.mg_07 T.fn_07.kp T.b_07 .nil (zaa (pv 2) (zaa (pv 3) (zaa (zbS (by rfl) h_SPANS r_SPANS) zae zab) zab) zab))))),?_⟩
 open_k0
 refine ⟨pa,_,rfl,SqT.of ep,rfl,?_⟩
 open_k0
 exact ⟨f,pc,dy,c,60,rfl,f0,f1,hc,fun _ _ H1 s1=>q H1 s1,fun z=>absurd z (by decide),fun z=>absurd z (by decide)⟩
def zjT (K:PySem.W.Frag):Sp:=fun vs H Q _=> ∃(pa l la:Addr) (f:Int) (dy:Bool) (c d:Int) (zs:List (V×Pl)) (ts:List Tm) (G:Int→List D),vs= [.ref pa, .ref l, .int d]∧zdf K H pa la f dy c zs∧zde K H l f (Cal.beg f dy c 60) ts∧(∀t∈ts,TmX zs t.2.2.2)∧zjR f dy c ts G∧f≤d∧d≤Cal.beg f dy c 60∧ ∀H',zao H H'→Q (.int (Sb (dC f dy c zs G) f d)) H'
theorem sc_0s:FnScope ["account","terms","day","ordered","total","k","span"] ["account","terms","day"] (zap s_0s):=⟨rfl,rfl,rfl,by decide+kernel,rfl,by decide+kernel,by decide+kernel⟩
theorem ok_0s (T:Txt w K mg t):FnOk P w K mg base (CXE P w) 10 t.a_0s t.d_0s ["account","terms","day"] (zjT K):=by
 refine T.fn_0s.okX sc_0s (fun vs H Q E h=> ?_) (fun cdv A outer s H vs Q E L hr h=> ?_)
 ·obtain ⟨pa,l,la,f,dy,c,d,zs,ts,G,rfl,hz,ht,hx,hG,d0,d1,q⟩:=h
  rfl
 obtain ⟨pa,l,la,f,dy,c,d,zs,ts,G,rfl,hz,ht,hx,hG,d0,d1,q⟩:=h
 have nd:=sc_0s.nd
 obtain ⟨u_SPANS,h_SPANS,r_SPANS⟩:=T.k_Z0b
 refine ⟨_,(zad (zc3 (zaM (zar zeQ (pv 2) (zag L.toLv (ok_0b T) (hr.mono (by decide)) (by rfl) T.mg_0b T.fn_0b.kp T.b_0b .nil (zaa (pv 0) zae)) (zat _)) (zaf (zb8 (zag L.toLv (ok_0e T) (hr.mono (by decide)) (by rfl) T.mg_0e T.fn_0e.kp T.b_0e .nil (zaa (pv 0) (zaa (pv 2) zae zab) zab)))) zaz)) (zad (zan (i:=3) nd rfl (Or.inl rfl) (zag L.toLv (ok_0h T) (hr.mono (by decide)) (by rfl) T.mg_0h T.fn_0h.kp T.b_0h .nil (zaa (pv 0) (zaa (pv 1) zae zab) zab))) (zad (zan (i:=4) nd rfl (Or.inl rfl) zac) (zad (zbO (by passes_own) rfl (zbL (by rfl) T.no_range (zaa (zbS (by rfl) h_SPANS r_SPANS) zae)) (zaj (i:=5) nd rfl (Or.inl rfl)) (zad (zan (i:=6) nd rfl (Or.inl rfl) (zag L.toLv (ok_0d T) (hr.mono (by decide)) (by rfl) T.mg_0d T.fn_0d.kp T.b_0d .nil (zaa (pv 0) (zaa (pv 5) zae zab) zab))) (zad (zaM (zar zi7 (zaq zas (pv 6) zac (fun _ _=>rfl)) (pv 2) (zat _)) (zaf zgv) zaz) (zaf (zeO (i:=4) nd rfl (Or.inl rfl) (zag L.toLv (ok_0p T) (hr.mono (by decide)) (by rfl) T.mg_0p T.fn_0p.kp T.b_0p .nil (zaa (zag L.toLv (ok_0o T) (hr.mono (by decide)) (by rfl) T.mg_0o T.fn_0o.kp T.b_0o .nil (zaa (pv 0) (zaa (pv 3) (zaa (pv 6) (zaa (zaF (zc6 (by rfl)) (by rfl) T.no_min zeT (zaa (zaq zas (pv 6) zac (fun _ _=>rfl)) (zaa (pv 2) zae zab) zak)) zae zaB) zab) zab) zab)) zae)) zg9))))) (zaf (zaw (pv 4))))))),?_⟩
 obtain ⟨f0,f1,hc⟩:=hz.1.cyc
 have b0:Cal.beg f dy c 0=f:=Cal.beg_zero f0 f1
 open_k0
 obtain ⟨R,hR⟩: ∃R:St→Hp→Prop,R=fun σ' H'=>zao H H'∧σ'= [some (.ref pa),some (.ref l),some (.int d),none,none,none,none]:=⟨_,rfl⟩
 refine ⟨R,?_,fun σ1 H1 h1=> ?_⟩
 ·open_k0
  refine ⟨pa,la,f,dy,c,rfl,hz.1,fun H1 s1=>⟨rfl,zbY (fun h=>⟨pa,la,f,dy,c,d,rfl,hz.1.same s1,fun k k0 k1 a1 a2 p1 H2 s2 e2=> ?_,fun z=>by omega,fun z=> ?_⟩) (fun _=> ?_)⟩⟩
  ·rw [hR]
   exact ⟨s1.trans s2,rfl⟩
  ·exact absurd (by rw [show d=Cal.beg f dy c 60 by omega]) h
  ·rw [hR]
   exact ⟨s1,rfl⟩
 rw [hR] at h1
 obtain ⟨s1,rfl⟩:=h1
 clear hR
 open_k0
 refine ⟨pa,l,la,f,dy,c,ts,rfl,hz.1.same s1,ht.same s1,fun l2 os H2 s2 ho om=> ?_⟩
 have s12:=s1.trans s2
 have hox:=zjS om hx
 ((try dsimp only);refine zbX fun R hR=> ?_;lge_open0)
 refine ⟨by decide,by decide,hR _ _ ?_⟩
 clear hR
 obtain ⟨mf,hmf⟩: ∃mf:Int→Int,mf=fun i=>if Cal.beg f dy c i≤d then Cal.beg f dy c i else d:=⟨_,rfl⟩
 have m0:mf 0=f:=by rw [hmf];dsimp only;rw [b0,if_pos d0]
 obtain ⟨Pv,hPv⟩: ∃Pv:Nat→St→Hp→Prop,Pv=fun (i:Nat) σ1 H7=>zao H2 H7∧ ∃x5 x6:Option V,σ1= [some (.ref pa),some (.ref l),some (.int d),some (.ref l2),some (.int (Sb (dC f dy c zs G) f (mf (i:Int)))),x5,x6]:=⟨_,rfl⟩
 refine zb1 (n:=60) Pv (by rw [hPv];exact ⟨zao.refl _,_,_,by rw [show ((0:Nat):Int)=0 from rfl,m0,Sb.self]⟩) (fun i σ1 H7 hi h=> ?_) (fun σ1 H7 h=> ?_)
 ·rw [hPv] at h
  obtain ⟨s7,x5,x6,rfl⟩:=h
  have s17:=s12.trans s7
  have bw:=zeo (k:=(i:Int)) f0 f1 hc (by omega) (by omega)
  have bge:=Cal.beg_ge (k:=(i:Int)) f0 f1 hc (by omega) (by omega)
  simp only [zbe,zaU,zbK,zbd,zcx,zbc,zcr,zaS,zbJ,zbb,zbm,zbI,tDc,za4,za5,za3,zbG,zbH,zbl,zbn,za2,zaG,zaH,zcq,List.replicate,Option.join_some,Option.join_none,za6,zcv,zbF,zaR,tSl,zcs,zcp,zcu,slT,zcg,Int.reduceLT,Int.reduceLE,Int.reduceToNat,Int.reduceNeg,Int.reduceAdd,Int.reduceSub,Int.reduceMul,forall_const,zcl,zbC,zcn,zcm,zbM,zbD,zcc,zbq,zbt,zcf,zce,tC,tOp,rI,rI0,tUn,rU,zbE,tB,zci,tOr,zcj,zbA,zck,zbB,tIf,zbx,zch,za9,zbk,tCB,zba,rEq,rNe,zaX,zaY,zaZ,za0,za1,zbj,zco,ipI,L2.start,List.map_cons,List.map_nil,List.length_cons,List.length_nil,List.cons_append,List.nil_append,List.append_nil,List.replicate_succ,List.replicate_zero,Nat.reduceAdd,Nat.reduceSub,List.getElem?_cons_zero,List.getElem?_cons_succ,List.set_cons_zero,List.set_cons_succ,Option.some.injEq,V.int.injEq,V.bl.injEq,V.ref.injEq,V.str.injEq,exists_eq_left',exists_eq_left,exists_eq',exists_and_left,List.cons.injEq,and_true,true_and,and_self,and_assoc,decide_eq_true_eq,if_true,if_false,Bool.true_eq_false,Bool.false_eq_true,Bool.not_eq_true',Bool.not_true,Bool.not_false,decide_eq_false_iff_not,ite_true,ite_false,reduceCtorEq,false_and,exists_false,false_or,or_false,and_false,zg8,Nat.reduceLeDiff]
  refine ⟨pa,la,f,dy,c,(i:Int),by rw [Int.zero_add],hz.1.same s17,fun _ _ p1 H8 s8 e8=> ?_,fun z=>absurd z (by omega),fun z=>absurd z (by omega)⟩
  refine ixT (SqT.of e8) (zbR _ _) ⟨_,rfl,zbY (fun hb=> ?_) (fun hb=> ?_)⟩
  ·have em:mf (i:Int)=d:=by rw [hmf];dsimp only;split<;>omega
   rw [em]
   exact q H8 (s17.trans s8)
  ·have em:mf (i:Int)=Cal.beg f dy c i:=by rw [hmf];dsimp only;rw [if_pos (by omega)]
   have em1:mf ((i+1:Nat):Int)=if d<Cal.beg f dy c ((i:Int)+1) then d else Cal.beg f dy c ((i:Int)+1):=by
    rw [hmf,show ((i+1:Nat):Int)=(i:Int)+1 by omega]
    dsimp only
    split<;>split<;>omega
   have s18:=s17.trans s8
   refine ixT (SqT.of e8) (zb7 _ _ _) ⟨_,rfl,pa,l2,p1,la,f,dy,c,zs,_,_,_,os,G,rfl,hz.same s18,ho.same (s7.trans s8),e8,by split<;>omega,by split<;>omega,bw.2.1,by omega,hG _ om,hox,fun r ws H9 _ s9 wA wl wW=>⟨r,zs,_,_,ws,rfl,wA,wl,fun H10 s10=>⟨_,rfl,?_⟩⟩⟩
   rw [hPv,zfh wW,zkG f0 f1 hc (by omega) (by omega) (by split<;>omega),em,Sb.add bge (by split<;>omega),←em1]
   exact ⟨s7.trans (s8.trans (s9.trans s10)),_,_,rfl⟩
 ·rw [hPv] at h
  obtain ⟨s7,x5,x6,rfl⟩:=h
  have em:mf ((60:Nat):Int)=d:=by rw [hmf];dsimp only;rw [show ((60:Nat):Int)=60 from rfl];split<;>omega
  rw [em]
  open_k0
  exact q H7 (s12.trans s7)
def ziP:Sp:=fun vs H Q _=> ∃d:D,vs= [sv d]∧zlo d∧Q (.bl (isI d)) H
theorem sc_09:FnScope ["value"] ["value"] (zap s_09):=⟨rfl,rfl,rfl,by decide+kernel,rfl,by decide+kernel,by decide+kernel⟩
theorem ok_09 (T:Txt w K mg t):FnOk P w K mg base (CXE P w) 1 t.a_09 t.d_09 ["value"] (ziP):=by
 refine T.fn_09.okX sc_09 (fun vs H Q E h=> ?_) (fun cdv A outer s H vs Q E L hr h=> ?_)
 ·obtain ⟨d,rfl,hd,q⟩:=h
  rfl
 obtain ⟨d,rfl,hd,q⟩:=h
 have nd:=sc_09.nd
 refine ⟨_,(zaf (zaw (zdk (zaF zeA (by rfl) T.no_isinstance zdT (zaa (pv 0) (zaa (zkU (by rfl) T.no_int zf6) zae zab) zab)) (zdy (zk8 (zaF zeA (by rfl) T.no_isinstance zdT (zaa (pv 0) (zaa (zkU (by rfl) T.no_bool zkg) zae zab) zab))))))),?_⟩
 rcases hd with ⟨i,rfl⟩|⟨cs,rfl,hl⟩
 ·simp only [zbe,zaU,zbK,zbd,zcx,zbc,zcr,zaS,zbJ,zbb,zbm,zbI,tDc,za4,za5,za3,zbG,zbH,zbl,zbn,za2,zaG,zaH,zcq,List.replicate,Option.join_some,Option.join_none,za6,zcv,zbF,zaR,tSl,zcs,zcp,zcu,slT,zcg,Int.reduceLT,Int.reduceLE,Int.reduceToNat,Int.reduceNeg,Int.reduceAdd,Int.reduceSub,Int.reduceMul,forall_const,zcl,zbC,zcn,zcm,zbM,zbD,zcc,zbq,zbt,zcf,zce,tC,tOp,rI,rI0,tUn,rU,zbE,tB,zci,tOr,zcj,zbA,zck,zbB,tIf,zbx,zch,za9,zbk,tCB,zba,rEq,rNe,zaX,zaY,zaZ,za0,za1,zbj,zco,ipI,L2.start,List.map_cons,List.map_nil,List.length_cons,List.length_nil,List.cons_append,List.nil_append,List.append_nil,List.replicate_succ,List.replicate_zero,Nat.reduceAdd,Nat.reduceSub,List.getElem?_cons_zero,List.getElem?_cons_succ,List.set_cons_zero,List.set_cons_succ,Option.some.injEq,V.int.injEq,V.bl.injEq,V.ref.injEq,V.str.injEq,exists_eq_left',exists_eq_left,exists_eq',exists_and_left,List.cons.injEq,and_true,true_and,and_self,and_assoc,decide_eq_true_eq,if_true,if_false,Bool.true_eq_false,Bool.false_eq_true,Bool.not_eq_true',Bool.not_true,Bool.not_false,decide_eq_false_iff_not,ite_true,ite_false,reduceCtorEq,false_and,exists_false,false_or,or_false,and_false,Nat.reduceLeDiff,sv]
  refine ⟨_, .old (.int _),_,rfl,_,zgD,?_⟩
  rw [if_pos rfl]
  refine ⟨_, .old (.int _),_,rfl,_,zf7,?_⟩
  exact q
 ·simp only [zbe,zaU,zbK,zbd,zcx,zbc,zcr,zaS,zbJ,zbb,zbm,zbI,tDc,za4,za5,za3,zbG,zbH,zbl,zbn,za2,zaG,zaH,zcq,List.replicate,Option.join_some,Option.join_none,za6,zcv,zbF,zaR,tSl,zcs,zcp,zcu,slT,zcg,Int.reduceLT,Int.reduceLE,Int.reduceToNat,Int.reduceNeg,Int.reduceAdd,Int.reduceSub,Int.reduceMul,forall_const,zcl,zbC,zcn,zcm,zbM,zbD,zcc,zbq,zbt,zcf,zce,tC,tOp,rI,rI0,tUn,rU,zbE,tB,zci,tOr,zcj,zbA,zck,zbB,tIf,zbx,zch,za9,zbk,tCB,zba,rEq,rNe,zaX,zaY,zaZ,za0,za1,zbj,zco,ipI,L2.start,List.map_cons,List.map_nil,List.length_cons,List.length_nil,List.cons_append,List.nil_append,List.append_nil,List.replicate_succ,List.replicate_zero,Nat.reduceAdd,Nat.reduceSub,List.getElem?_cons_zero,List.getElem?_cons_succ,List.set_cons_zero,List.set_cons_succ,Option.some.injEq,V.int.injEq,V.bl.injEq,V.ref.injEq,V.str.injEq,exists_eq_left',exists_eq_left,exists_eq',exists_and_left,List.cons.injEq,and_true,true_and,and_self,and_assoc,decide_eq_true_eq,if_true,if_false,Bool.true_eq_false,Bool.false_eq_true,Bool.not_eq_true',Bool.not_true,Bool.not_false,decide_eq_false_iff_not,ite_true,ite_false,reduceCtorEq,false_and,exists_false,false_or,or_false,and_false,Nat.reduceLeDiff,sv]
  refine ⟨_, .old (.str _),_,rfl,_,zgN,?_⟩
  rw [if_neg (by decide)]
  exact q
def zmb:Sp:=fun vs H Q _=> ∃(d:D) (lo hi:Int),vs= [sv d, .int lo, .int hi]∧zlo d∧Q (.bl (btw lo hi d)) H
theorem sc_0a:FnScope ["value","least","greatest"] ["value","least","greatest"] (zap s_0a):=⟨rfl,rfl,rfl,by decide+kernel,rfl,by decide+kernel,by decide+kernel⟩
theorem ok_0a (T:Txt w K mg t):FnOk P w K mg base (CXE P w) 2 t.a_0a t.d_0a ["value","least","greatest"] (zmb):=by
 refine T.fn_0a.okX sc_0a (fun vs H Q E h=> ?_) (fun cdv A outer s H vs Q E L hr h=> ?_)
 ·obtain ⟨d,lo,hi,rfl,hd,q⟩:=h
  rfl
 obtain ⟨d,lo,hi,rfl,hd,q⟩:=h
 have nd:=sc_0a.nd
 refine ⟨_,(zaf (zaw (zdk (zag L.toLv (ok_09 T) (hr.mono (by decide)) (by rfl) T.mg_09 T.fn_09.kp T.b_09 .nil (zaa (pv 0) zae)) (zdk (zbT zfu (pv 1) (pv 0) (zat _)) (zdy (zbT zfu (pv 0) (pv 2) (zat _))))))),?_⟩
 open_k0
 refine ⟨d,rfl,hd,?_⟩
 rcases hd with ⟨i,rfl⟩|⟨cs,rfl,hl⟩
 ·have e:btw lo hi (.int i)=(decide (lo≤i) && decide (i≤hi)):=rfl
  rw [e] at q
  simp only [zbe,zaU,zbK,zbd,zcx,zbc,zcr,zaS,zbJ,zbb,zbm,zbI,tDc,za4,za5,za3,zbG,zbH,zbl,zbn,za2,zaG,zaH,zcq,List.replicate,Option.join_some,Option.join_none,za6,zcv,zbF,zaR,tSl,zcs,zcp,zcu,slT,zcg,Int.reduceLT,Int.reduceLE,Int.reduceToNat,Int.reduceNeg,Int.reduceAdd,Int.reduceSub,Int.reduceMul,forall_const,zcl,zbC,zcn,zcm,zbM,zbD,zcc,zbq,zbt,zcf,zce,tC,tOp,rI,rI0,tUn,rU,zbE,tB,zci,tOr,zcj,zbA,zck,zbB,tIf,zbx,zch,za9,zbk,tCB,zba,rEq,rNe,zaX,zaY,zaZ,za0,za1,zbj,zco,ipI,L2.start,List.map_cons,List.map_nil,List.length_cons,List.length_nil,List.cons_append,List.nil_append,List.append_nil,List.replicate_succ,List.replicate_zero,Nat.reduceAdd,Nat.reduceSub,List.getElem?_cons_zero,List.getElem?_cons_succ,List.set_cons_zero,List.set_cons_succ,Option.some.injEq,V.int.injEq,V.bl.injEq,V.ref.injEq,V.str.injEq,exists_eq_left',exists_eq_left,exists_eq',exists_and_left,List.cons.injEq,and_true,true_and,and_self,and_assoc,decide_eq_true_eq,if_true,if_false,Bool.true_eq_false,Bool.false_eq_true,Bool.not_eq_true',Bool.not_true,Bool.not_false,decide_eq_false_iff_not,ite_true,ite_false,reduceCtorEq,false_and,exists_false,false_or,or_false,and_false,Nat.reduceLeDiff,sv,isI]
  by_cases h1:lo≤i
  ·rw [if_pos h1]
   rw [decide_eq_true h1,Bool.true_and] at q
   exact q
  ·rw [if_neg h1]
   rw [decide_eq_false h1,Bool.false_and] at q
   exact q
 ·simp only [zbe,zaU,zbK,zbd,zcx,zbc,zcr,zaS,zbJ,zbb,zbm,zbI,tDc,za4,za5,za3,zbG,zbH,zbl,zbn,za2,zaG,zaH,zcq,List.replicate,Option.join_some,Option.join_none,za6,zcv,zbF,zaR,tSl,zcs,zcp,zcu,slT,zcg,Int.reduceLT,Int.reduceLE,Int.reduceToNat,Int.reduceNeg,Int.reduceAdd,Int.reduceSub,Int.reduceMul,forall_const,zcl,zbC,zcn,zcm,zbM,zbD,zcc,zbq,zbt,zcf,zce,tC,tOp,rI,rI0,tUn,rU,zbE,tB,zci,tOr,zcj,zbA,zck,zbB,tIf,zbx,zch,za9,zbk,tCB,zba,rEq,rNe,zaX,zaY,zaZ,za0,za1,zbj,zco,ipI,L2.start,List.map_cons,List.map_nil,List.length_cons,List.length_nil,List.cons_append,List.nil_append,List.append_nil,List.replicate_succ,List.replicate_zero,Nat.reduceAdd,Nat.reduceSub,List.getElem?_cons_zero,List.getElem?_cons_succ,List.set_cons_zero,List.set_cons_succ,Option.some.injEq,V.int.injEq,V.bl.injEq,V.ref.injEq,V.str.injEq,exists_eq_left',exists_eq_left,exists_eq',exists_and_left,List.cons.injEq,and_true,true_and,and_self,and_assoc,decide_eq_true_eq,if_true,if_false,Bool.true_eq_false,Bool.false_eq_true,Bool.not_eq_true',Bool.not_true,Bool.not_false,decide_eq_false_iff_not,ite_true,ite_false,reduceCtorEq,false_and,exists_false,false_or,or_false,and_false,isI]
  exact q
def zkH (K:PySem.W.Frag):Sp:=fun vs H Q _=> ∃(pa l:Addr) (f:Int) (dy:Bool) (c:Int) (d:D),vs= [.ref pa,sv d]∧zlo d∧zcO K H pa l f dy c∧ ∀H',zao H H'→Q (.bl (btw f (Cal.beg f dy c 60 - 1) d)) H'
theorem sc_0c:FnScope ["account","value","plans","first","cycle"] ["account","value"] (zap s_0c):=⟨rfl,rfl,rfl,by decide+kernel,rfl,by decide+kernel,by decide+kernel⟩
theorem ok_0c (T:Txt w K mg t):FnOk P w K mg base (CXE P w) 7 t.a_0c t.d_0c ["account","value"] (zkH K):=by
 refine T.fn_0c.okX sc_0c (fun vs H Q E h=> ?_) (fun cdv A outer s H vs Q E L hr h=> ?_)
 ·obtain ⟨pa,l,f,dy,c,d,rfl,hd,ha,q⟩:=h
  rfl
 obtain ⟨pa,l,f,dy,c,d,rfl,hd,ha,q⟩:=h
 have nd:=sc_0c.nd
 refine ⟨_,(zad (zby (pv 0) (zbi (n:=3) rfl (zal (zaj (i:=2) nd rfl (Or.inl rfl)) (zal (zaj (i:=3) nd rfl (Or.inl rfl)) (zal (zaj (i:=4) nd rfl (Or.inl rfl)) zaV))))) (zaf (zaw (zag L.toLv (ok_0a T) (hr.mono (by decide)) (by rfl) T.mg_0a T.fn_0a.kp T.b_0a .nil (zaa (pv 1) (zaa (pv 3) (zaa (zai zbP (zag L.toLv (ok_0b T) (hr.mono (by decide)) (by rfl) T.mg_0b T.fn_0b.kp T.b_0b .nil (zaa (pv 0) zae)) zac) zae zav) zab) zab))))),?_⟩
 have ha':=ha
 obtain ⟨pc,f0,f1,hc,ep⟩:=ha'
 open_k0
 refine ⟨pa,_,rfl,SqT.of ep,rfl,?_⟩
 open_k0
 exact ⟨pa,l,f,dy,c,rfl,ha,fun H1 s1=>⟨_,rfl,d,_,_,rfl,hd,q H1 s1⟩⟩
def zmc (nms:List (List Nat)) (live:List Int) (d:Int):Ch→Prop
 | .plan d' nm=>d'=d∧nm∈nms
 | .seats d' n=>d'=d∧0≤n∧n≤1000000
 | .word w d'=>w<4∧d'=d
 | .undo k=>k∈live
 | .grant a=>1≤a∧a<10 ^ 30
 | .back=>True
theorem zjU {i:Int} (h0:0≤i) (h1:i<4): ∃k,k<4∧atI [V.str (SL [104,111,108,100]),V.str (SL [103,111]),V.str (SL [115,116,111,112]),V.str (SL [108,97,115,116])] i=some (.str (SL (zcD k))):=by
 have h:i=0∨i=1∨i=2∨i=3:=by omega
 rcases h with rfl|rfl|rfl|rfl
 ·exact ⟨0,by decide,rfl⟩
 ·exact ⟨1,by decide,rfl⟩
 ·exact ⟨2,by decide,rfl⟩
 ·exact ⟨3,by decide,rfl⟩
theorem zkI {nms:List (List Nat)} {f e:Int} {Ls:List Int} {d:Int} {ch:Ch} (h:zmc nms Ls d ch) (d0:f≤d) (d1:d<e):zgc nms f e Ls ch:=by
 cases ch with
 |plan d' nm=>exact ⟨by have:=h.1;omega,by have:=h.1;omega,h.2⟩
 |seats d' n=>exact ⟨by have:=h.1;omega,by have:=h.1;omega,h.2.1,h.2.2⟩
 |word w d'=>exact ⟨h.1,by have:=h.2;omega,by have:=h.2;omega⟩
 |undo k=>exact h
 |grant a=>exact h
 |back=>trivial
def zjV (K:PySem.W.Frag):Sp:=fun vs H Q _=> ∃(pa l la:Addr) (f:Int) (dy:Bool) (c:Int) (zs:List (V×Pl)) (x d:Int) (live:List Int),vs= [.ref pa, .int x, .int d, .ref l]∧zdf K H pa la f dy c zs∧SqL K H l (live.map V.int)∧ ∀p ch H',zao H H'→zmc (zs.map fun z=>z.2.1) live d ch→H' p=some (.tup ((chD ch).map sv))→Q (.ref p) H'
theorem sc_17:FnScope ["_law_account_here","_law_n","_law_own","_law_free","_law_way"] ["_law_account_here","_law_n","_law_own","_law_free"] (zap s_17):=⟨rfl,rfl,rfl,by decide+kernel,rfl,by decide+kernel,by decide+kernel⟩
theorem ok_17 (T:Txt w K mg t):FnOk P w K mg base (CXE P w) 1 t.a_17 t.d_17 ["_law_account_here","_law_n","_law_own","_law_free"] (zjV K):=by
 refine T.fn_17.okX sc_17 (fun vs H Q E h=> ?_) (fun cdv A outer s H vs Q E L hr h=> ?_)
 ·obtain ⟨pa,l,la,f,dy,c,zs,x,d,live,rfl,⟨⟨pc,_,_,_,ep⟩,el,za,zi⟩,hL,q⟩:=h
  rfl
 obtain ⟨pa,l,la,f,dy,c,zs,x,d,live,rfl,⟨⟨pc,_,_,_,ep⟩,el,za,zi⟩,hL,q⟩:=h
 have nd:=sc_17.nd
 refine ⟨_,(zad (zan (i:=4) nd rfl (Or.inl rfl) (zai zaC (pv 1) zac)) (zad (zaM (zar zcM (pv 4) zac (zat _)) (zaf (zaw (zaJ (zaa (zax st_11) (zaa (pv 2) (zaa (zaq zas (zaq zaI (zaq zas (pv 0) zac (fun _ _=>rfl)) (zai zaC (zai zaK (pv 1) zac) (zaF zaW (by rfl) T.no_len zct (zaa (zaq zas (pv 0) zac (fun _ _=>rfl)) zae))) (fun _ _=>rfl)) zac (fun _ _=>rfl)) zae zak) zab) zah)))) zaz) (zad (zaM (zar zcM (pv 4) zac (zat _)) (zaf (zaw (zaJ (zaa (zax st_12) (zaa (pv 2) (zaa (zaq zaI (zbg (zaa (zai zaC (zai zaK (pv 1) zac) zac) (zaa (zai zaC (zai zaK (pv 1) zac) zac) zae zav) zav)) (zai zaC (zai zaK (pv 1) zac) zac) (fun _ _=>rfl)) zae zak) zab) zah)))) zaz) (zad (zaM (zar zcM (pv 4) zac (zat _)) (zaf (zaw (zaJ (zaa (zaq zaI (zbg (zaa (zax st_20) (zaa (zax st_21) (zaa (zax st_22) (zaa (zax st_9) zae zah) zah) zah) zah)) (zai zaC (zai zaK (pv 1) zac) zac) (fun _ _=>rfl)) (zaa (pv 2) zae zab) zak)))) zaz) (zad (zaM (zdj (zar zcM (pv 4) zac (zat _)) (zcV (zar (zhj hr) (pv 3) (zbg zae) (zat _)))).pt (zaf (zaw (zaJ (zaa (zax st_14) (zaa (zaq zaI (pv 3) (zai zaC (zai zaK (pv 1) zac) (zaF zaW (by rfl) T.no_len zct (zaa (pv 3) zae))) (fun _ _=>rfl)) zae zak) zah)))) zaz) (zaf (zaw (zaq zaI (zbg (zaa (zaJ (zaa (zax st_15) zae)) (zaa (zaJ (zaa (zax st_13) (zaa (zai zaE zac (zai zaC (zai zaK (pv 1) zac) zac)) zae zav) zah)) zae zdp) zdp)) (zai zaC (zai zaK (pv 1) zac) zac) (fun _ _=>rfl))))))))),?_⟩
 open_k0
 have tail: ∀H0,zao H H0→New H0 (.tup [.str (SL [98,97,99,107])]) fun x_1 H1=>New H1 (.tup [.str (SL [103,114,97,110,116]), .int (1+x / 26 % 100000)]) fun x_2 H2=>New H2 (.lst [x_1,x_2]) fun x_3 H3=>ziv K x_3 (.int (x / 13 % 2)) H3 Q:=fun H0 s0=>by
  intro p1 H1 _ s1 e1 p2 H2 _ s2 e2 p3 H3 _ s3 e3
  rcases (show x / 13 % 2=0∨x / 13 % 2=1 by omega) with z|z
  ·rw [z]
   exact ixL (SqL.of e3) (zbR _ _) (q p1 .back H3 (((s0.trans s1).trans s2).trans s3) trivial (s3 _ _ (s2 _ _ e1)))
  ·rw [z]
   exact ixL (SqL.of e3) (zb7 _ _ _) (q p2 (.grant _) H3 (((s0.trans s1).trans s2).trans s3) ⟨by omega,by omega⟩ (s3 _ _ e2))
 refine zbY (fun _=> ?_) (fun _=>zbY (fun _=> ?_) (fun _=>zbY (fun _=> ?_) (fun _=>zbY (fun _=> ?_) (fun _=>tail H (zao.refl _)))))
 ·have hT:=SqT.of (K:=K) ep
  have l1:=zi.1
  refine ixT hT (zbR _ _) (ixT hT (zbR _ _) ⟨la,rfl,_, .inl (SqL.of el),?_⟩)
  rw [List.length_map]
  have i1:0≤x / 13 % (zs.length:Int)∧x / 13 % (zs.length:Int)<zs.length:=⟨Int.emod_nonneg _ (by omega),Int.emod_lt_of_pos _ (by omega)⟩
  obtain ⟨j,hj⟩:=Int.eq_ofNat_of_zero_le i1.1
  rw [hj] at i1 ⊢
  obtain ⟨z,hz⟩: ∃z,zs[j]? =some z:=⟨zs[j]'(by omega),List.getElem?_eq_getElem _⟩
  obtain ⟨p,ez,hq⟩:=za z (List.mem_of_getElem? hz)
  refine ⟨by omega,ixL (v:=z.1) (SqL.of el) (zbw (by rw [List.getElem?_map,hz];rfl)) ?_⟩
  rw [ez]
  exact ixT hq (v:= .str (SL z.2.1)) rfl fun p1 H1 _ s1 e1=>q p1 (.plan d z.2.1) H1 s1 ⟨rfl,List.mem_map.mpr ⟨z,List.mem_of_getElem? hz,rfl⟩⟩ e1
 ·intro p1 H1 _ s1 e1
  have e1':H1 p1=some (.lst (([x / 13 % 5,x / 13 % 1000001]:List Int).map V.int)):=e1
  have i6:0≤x / 65 % 2∧x / 65 % 2<2:=by omega
  have b:=zdm (xs:= [x / 13 % 5,x / 13 % 1000001]) (lo:=0) (hi:=1000000) (fun y hy=>by
   simp only [List.mem_cons,List.not_mem_nil,or_false] at hy
   rcases hy with rfl|rfl<;>omega) i6.1 i6.2
  exact ixL (SqL.of e1') (zcR i6.1 i6.2) fun p2 H2 _ s2 e2=>q p2 (.seats d _) H2 (s1.trans s2) ⟨rfl,b.1,b.2⟩ e2
 ·intro p1 H1 _ s1 e1
  obtain ⟨k,hk,ek⟩:=zjU (i:=x / 13 % 4) (by omega) (by omega)
  exact ixL (SqL.of e1) ek fun p2 H2 _ s2 e2=>q p2 (.word k d) H2 (s1.trans s2) ⟨hk,rfl⟩ e2
 ·intro p1 H1 _ s1 e1
  refine ⟨0, .lst (live.map D.int), .lst [],zeu (s1.seq hL) (zfI _),zeu (SqL.of e1) trivial,rfl,rfl,by decide,fun j a b _ h=>by simp at h,_,rfl,?_⟩
  cases live with
  |nil=>exact tail H1 s1
  |cons u r=>
   refine ⟨_, .inl (s1.seq hL),?_⟩
   rw [List.length_map]
   have i1:0≤x / 13 % ((u::r).length:Int)∧x / 13 % ((u::r).length:Int)<(u::r).length:=⟨Int.emod_nonneg _ (by simp only [List.length_cons];omega),Int.emod_lt_of_pos _ (by simp only [List.length_cons];omega)⟩
   exact ⟨by simp only [List.length_cons];omega,ixL (s1.seq hL) (zcR i1.1 i1.2) fun p2 H2 _ s2 e2=>q p2 (.undo _) H2 (s1.trans s2) (zju i1.1 i1.2) e2⟩
theorem zjW {K:PySem.W.Frag} {H0 J:Hp} {le ll p:Addr} {nms:List (List Nat)} {f e en:Int} {zs:List En} {ch:Ch} {G:Hp→Prop} (I:EnInv K H0 J le ll nms f e zs) (hz:zs.length≤63) (ec:J p=some (.tup ((chD ch).map sv)))
  (h1:f≤en) (h2:en<e) (h3: ∀y∈zs,y.2.2.1≤en) (h4:zgc nms f e (zaQ (chs zs)) ch) (fin: ∀pe H',EnInv K H0 H' le ll nms f e (zs++ [(.ref pe,p,en,ch)])→G H'):
  New J (HO.tup [V.int en,V.ref p]) fun x_1 H1=>zf5 (V.ref le) [x_1] H1 fun _ H1=>zgC K (V.ref p) (V.int 0) H1 fun x_3 H1=>
   zfl x_3 (V.str (SL [117,110,100,111]))=true∧
    if x_3=V.str (SL [117,110,100,111]) then tyV K "list" (V.ref ll) H1∧zgC K (V.ref p) (V.int 1) H1 fun x H1=>zh6 (V.ref ll) [x] H1 fun _ H1=>G H1
    else zgC K (V.ref p) (V.int 0) H1 fun x_9 H1=>zfl x_9 (V.str (SL [103,114,97,110,116]))=true∧
     if¬x_9=V.str (SL [103,114,97,110,116]) then zgC K (V.ref p) (V.int 0) H1 fun x_10 H1=>zfl x_10 (V.str (SL [98,97,99,107]))=true∧
      if¬x_10=V.str (SL [98,97,99,107]) then tyV K "list" (V.ref ll) H1∧zf5 (V.ref ll) [V.int (0+(zs.length:Int))] H1 fun _ H1=>G H1 else G H1
     else G H1:=by
 have sl:=zcH (chs zs)
 rw [zbW] at sl
 refine fun pe J1 _ s1 e1=>⟨le,_,_,rfl,rfl,s1 _ _ I.e1,zbU (show (zs.map (·.1)).length+1≤1000 by rw [List.length_map];omega),?_⟩
 have I1:=I.same' s1
 have c1:=s1 _ _ ec
 have pl:p≠le:=fun z=>by rw [z,I1.e1] at c1;cases c1
 have pl2:p≠ll:=fun z=>by rw [z,I1.e2] at c1;cases c1
 have kp: ∀b o,b≠le→J1 b=some o→upd J1 le (.lst (zs.map (·.1)++ [.ref pe])) b=some o:=fun b o hb eb=>by rw [zau hb];exact eb
 have f1:upd J1 le (.lst (zs.map (·.1)++ [.ref pe])) le=some (.lst (zs.map (·.1)++ [.ref pe])):=zay
 generalize upd J1 le (.lst (zs.map (·.1)++ [.ref pe]))=J2 at kp f1
 have f2:=kp _ _ I1.ne.symm I1.e2
 have c2:=kp _ _ pl c1
 obtain ⟨r,er⟩:=zcT ch
 have c2':SqT K J2 p (.str (SL (chW ch))::r):=SqT.of (by rw [c2,er])
 refine ixT c2' (zh8 _ _) ⟨rfl,?_⟩
 by_cases hu:chW ch= [117,110,100,111]
 ·obtain ⟨k,rfl⟩:=zgP hu
  have c3:SqT K J2 p [.str (SL [117,110,100,111]), .int k]:=SqT.of c2
  refine zbr rfl ⟨.inl ⟨rfl,_,SqL.of f2⟩,ixT c3 (zl0 _ _ _) ⟨ll,_,k,rfl,rfl,f2,h4,zbU (by omega),fin pe _ (I1.step (H':=upd J2 ll (.lst (((zaQ (chs zs)).erase k).map V.int))) e1 c1 (fun b o b1 b2 eb=> ?_) ?_ zay h1 h2 h3 h4)⟩⟩
  ·rw [zau b2]
   exact kp b o b1 eb
  ·rw [zau I1.ne]
   exact f1
 ·obtain ⟨d1,d2⟩:=zjw ch hu zs.length (zaQ (chs zs))
  refine zaT (zbo hu) (ixT c2' (zh8 _ _) ⟨rfl,?_⟩)
  by_cases tm:zbs ch=true
  ·rw [if_pos tm] at d2
   rw [tm] at d1
   have nm:=of_decide_eq_false d1
   refine zbr (zbo fun z=>nm (by rw [z];decide)) (ixT c2' (zh8 _ _) ⟨rfl,zbr (zbo fun z=>nm (by rw [z];decide)) ⟨.inl ⟨rfl,_,SqL.of f2⟩,ll,_,_,rfl,rfl,f2,zbU (show ((zaQ (chs zs)).map V.int).length+1≤1000 by rw [List.length_map];omega),fin pe _ (I1.step (H':=upd J2 ll (.lst ((zaQ (chs zs)).map V.int++ [.int (0+(zs.length:Int))]))) e1 c1 (fun b o b1 b2 eb=> ?_) ?_ ?_ h1 h2 h3 h4)⟩⟩)
   ·rw [zau b2]
    exact kp b o b1 eb
   ·rw [zau I1.ne]
    exact f1
   ·rw [zay,d2,List.map_append,Int.zero_add]
    rfl
  ·rw [if_neg tm] at d2
   have fn:G J2:=fin pe _ (I1.step e1 c1 (fun b o b1 b2 eb=>kp b o b1 eb) f1 (by rw [d2];exact f2) h1 h2 h3 h4)
   have mm:chW ch∈ [[103,114,97,110,116], [98,97,99,107]]:=of_decide_eq_true (by rw [d1];rw [Bool.not_eq_true] at tm;rw [tm];rfl)
   simp only [List.mem_cons,List.not_mem_nil,or_false] at mm
   rcases mm with e|e
   ·exact zaT (fun z=>z (by rw [e])) fn
   ·exact zbr (zbo (by rw [e];decide)) (ixT c2' (zh8 _ _) ⟨rfl,zaT (fun z=>z (by rw [e])) fn⟩)
def ziQ (K:PySem.W.Frag):Sp:=fun vs H Q _=> ∃(a:Addr) (ns:List Int) (pa la:Addr) (f:Int) (dy:Bool) (c:Int) (zs:List (V×Pl)) (st:Int),vs= [.ref a, .ref pa, .int st]∧SqL K H a (ns.map V.int)∧ns.length≤63∧0≤st∧st≤10∧zdf K H pa la f dy c zs∧ ∀le ys H',zao H H'→zbV K H' ys→zcd (zs.map fun z=>z.2.1) f (Cal.beg f dy c 60) ys→ys.length≤40→H' le=some (.lst (ys.map (·.1)))→Q (.ref le) H'
theorem sc_18:FnScope ["_law_script","_law_account_here","_law_start","_law_m","_law_first","_law_far","_law_wide","_law_numbers","_law_k","_law_entered","_law_entries_here","_law_free","_law_n","_law_own","_law_change_here"] ["_law_script","_law_account_here","_law_start"] (zap s_18):=⟨rfl,rfl,rfl,by decide+kernel,rfl,by decide+kernel,by decide+kernel⟩
theorem ok_18 (T:Txt w K mg t):FnOk P w K mg base (CXE P w) 6 t.a_18 t.d_18 ["_law_script","_law_account_here","_law_start"] (ziQ K):=by
 refine T.fn_18.okX sc_18 (fun vs H Q E h=> ?_) (fun cdv A outer s H vs Q E L hr h=> ?_)
 ·obtain ⟨a,ns,pa,la,f,dy,c,zs,st,rfl,hS,h63,st0,st1,hz,q⟩:=h
  rfl
 obtain ⟨a,ns,pa,la,f,dy,c,zs,st,rfl,hS,h63,st0,st1,hz,q⟩:=h
 have nd:=sc_18.nd
 refine ⟨_,(zad (zan (i:=3) nd rfl (Or.inl rfl) (zag L.toLv (ok_14 T) (hr.mono (by decide)) (by rfl) T.mg_14 T.fn_14.kp T.b_14 .nil (zaa (zag L.toLv (ok_13 T) (hr.mono (by decide)) (by rfl) T.mg_13 T.fn_13.kp T.b_13 .nil (zaa (pv 0) (zaa (pv 2) zae zab) zab)) (zaa zac zae zah) zaB))) (zad (zan (i:=4) nd rfl (Or.inr rfl) (zaq zas (pv 1) zac (fun _ _=>rfl))) (zad (zan (i:=5) nd rfl (Or.inl rfl) (zai zbP (zag L.toLv (ok_07 T) (hr.mono (by decide)) (by rfl) T.mg_07 T.fn_07.kp T.b_07 .nil (zaa (pv 4) (zaa (zaq zas (pv 1) zac (fun _ _=>rfl)) (zaa zac zae zah) zak) zab)) (pv 4))) (zad (zan (i:=6) nd rfl (Or.inr rfl) (zai zbP (zag L.toLv (ok_07 T) (hr.mono (by decide)) (by rfl) T.mg_07 T.fn_07.kp T.b_07 .nil (zaa (pv 4) (zaa (zaq zas (pv 1) zac (fun _ _=>rfl)) (zaa (zaq zaI (zbg (zaa zac (zaa zac (zaa zac (zaa zac (zaa zac (zaa zac (zaa zac (zaa zac zae zah) zah) zah) zah) zah) zah) zah) zah)) (zai zaC (zai zaK (pv 3) zac) zac) (fun _ _=>rfl)) zae zak) zak) zab)) (pv 4))) (zad (zan (i:=7) nd rfl (Or.inl rfl) (zbg zae)) (zad (zbO (by passes_own) rfl (zbL (by rfl) T.no_range (zaa (zaq zaI (zbg (zaa (zai zaC (pv 3) zac) (zaa zac zae zah) zav)) (zer zeq (by rfl) T.no_int zf6 (zaa (zbT zbv (zai zaC (zai zaK (pv 3) zac) zac) zac (zat _)) zae)) (fun _ _=>rfl)) zae)) (zaj (i:=8) nd rfl (Or.inl rfl)) (zaf (zb8 (zdB PySem.F.plainAttrs_list PySem.F.slot_list_append PySem.F.type_list_append zb2 (pv 7) (zaa (zag L.toLv (ok_14 T) (hr.mono (by decide)) (by rfl) T.mg_14 T.fn_14.kp T.b_14 .nil (zaa (zai zaE (zag L.toLv (ok_13 T) (hr.mono (by decide)) (by rfl) T.mg_13 T.fn_13.kp T.b_13 .nil (zaa (pv 0) (zaa (zai zaE (zai zaE (pv 2) zac) (pv 8)) zae zav) zab)) (zai zb9 (pv 3) (zai zaE (pv 8) zac))) (zaa (pv 8) zae zab) zav)) zae))))) (zad (zan (i:=9) nd rfl (Or.inl rfl) (zaF zgg (by rfl) T.no_sorted zfF (zaa (zcK (n:=1) (N:= ["_law_number","_law_first","_law_wide"]) (js:= [4,6]) (by rfl) rfl rfl (zbu (pv 7)) (fun a=>(zaj (i:=0) (show List.Nodup (["_law_number","_law_first","_law_wide"]:List Str) from by decide+kernel) rfl (Or.inl rfl))) (fun a=>zcC) (fun a=>(zai zaE (pv 1) (zai zaC (pv 0) (pv 2))))) zae))) (zad (zan (i:=10) nd rfl (Or.inl rfl) (zbg zae)) (zad (zan (i:=11) nd rfl (Or.inl rfl) (zbg zae)) (zad (zbO (by passes_own) rfl (zbL (by rfl) T.no_range (zaa (zaF zaW (by rfl) T.no_len zct (zaa (pv 7) zae)) zae)) (zaj (i:=8) nd rfl (Or.inl rfl)) (zad (zan (i:=12) nd rfl (Or.inl rfl) (zai zaK (zaq zaI (pv 7) (pv 8) (fun _ _=>rfl)) zac)) (zad (zan (i:=13) nd rfl (Or.inl rfl) (zaq zaI (zbg (zaa (zaq zaI (pv 9) (pv 8) (fun _ _=>rfl)) (zaa (zai zaE (pv 4) (zai zaC (pv 12) (pv 5))) (zaa (zaq zaI (pv 9) (zai zaC (pv 12) (zaF zaW (by rfl) T.no_len zct (zaa (pv 7) zae))) (fun _ _=>rfl)) zae zak) zav) zak)) (zai zaC (zaq zaI (pv 7) (pv 8) (fun _ _=>rfl)) zac) (fun _ _=>rfl))) (zad (zan (i:=14) nd rfl (Or.inl rfl) (zag L.toLv (ok_17 T) (hr.mono (by decide)) (by rfl) T.mg_17 T.fn_17.kp T.b_17 .nil (zaa (pv 1) (zaa (zag L.toLv (ok_14 T) (hr.mono (by decide)) (by rfl) T.mg_14 T.fn_14.kp T.b_14 .nil (zaa (zaq zaI (pv 7) (pv 8) (fun _ _=>rfl)) (zaa zac zae zah) zak)) (zaa (pv 13) (zaa (pv 11) zae zab) zab) zaB) zab))) (zad (zb8 (zdB PySem.F.plainAttrs_list PySem.F.slot_list_append PySem.F.type_list_append zb2 (pv 10) (zaa (zaJ (zaa (zaq zaI (pv 9) (pv 8) (fun _ _=>rfl)) (zaa (pv 14) zae zab) zak)) zae))) (zaf (zaM (zar zbv (zaq zas (pv 14) zac (fun _ _=>rfl)) (zax st_14) (zat _)) (zaf (zb8 (zdB PySem.F.plainAttrs_list PySem.F.slot_list_remove PySem.F.type_list_remove ziD (pv 11) (zaa (zaq zas (pv 14) zac (fun _ _=>rfl)) zae)))) (zaf (zaM (zdj (zar zeQ (zaq zas (pv 14) zac (fun _ _=>rfl)) (zax st_13) (zat _)) (zcV (zar zeQ (zaq zas (pv 14) zac (fun _ _=>rfl)) (zax st_15) (zat _)))).pt (zaf (zb8 (zdB PySem.F.plainAttrs_list PySem.F.slot_list_append PySem.F.type_list_append zb2 (pv 11) (zaa (pv 8) zae)))) zaz))))))))) (zaf (zaw (pv 10))))))))))))),?_⟩
 obtain ⟨pc,f0,f1,hc,ep⟩:=id hz.1
 have b0:Cal.beg f dy c 0=f:=Cal.beg_zero f0 f1
 have bl:f<Cal.beg f dy c 60:=by have:=Cal.beg_lt (k:=0) (j:=60) f0 f1 hc.2 (by decide) (by decide) (by decide);omega
 open_k0
 refine ⟨a,ns,st,rfl,hS,h63,by omega,_,9,rfl,by decide,by decide,fun m m0 m1=> ?_⟩
 have hT:=SqT.of (K:=K) ep
 refine ixT hT (zb7 _ _ _) (ixT hT (zdw _ _ _ _) ⟨f,pc,dy,c,10,rfl,f0,f1,hc,fun _ _ H1 s1=> ?_,fun z=>absurd z (by decide),fun z=>absurd z (by decide)⟩)
 refine ⟨_,rfl,_,rfl,ixT (s1.sqT hT) (zdw _ _ _ _) (fun p1 H2 _ s2 e2=>⟨_,rfl,?_⟩)⟩
 have e2':H2 p1=some (.lst (([8,8,8,8,8,8,2,59]:List Int).map V.int)):=e2
 have i8:0≤m / 120 % 8∧m / 120 % 8<8:=by omega
 have bw:=zdm (xs:= [8,8,8,8,8,8,2,59]) (lo:=2) (hi:=59) (fun x hx=>by
  simp only [List.mem_cons,List.not_mem_nil,or_false] at hx
  rcases hx with rfl|rfl|rfl|rfl|rfl|rfl|rfl|rfl<;>decide) i8.1 i8.2
 refine ixL (SqL.of e2') (zcR i8.1 i8.2) ?_
 clear e2 e2'
 generalize ([8,8,8,8,8,8,2,59]:List Int).getD (m / 120 % 8).toNat 0=wk at bw ⊢
 refine ⟨f,pc,dy,c,wk,rfl,f0,f1,hc.same (s1.trans s2),fun _ _ H3 s3=> ?_,fun z=>absurd z (by omega),fun z=>absurd z (by omega)⟩
 refine ⟨_,rfl,_,rfl,fun ln H4 hln s4 e4=> ?_⟩
 have g1:=Cal.beg_lt (k:=0) (j:=10) f0 f1 hc.2 (by decide) (by decide) (by decide)
 have g2:=Cal.beg_le (k:=10) (j:=60) f0 f1 hc.2 (by decide) (by decide) (by decide)
 have g3:=Cal.beg_lt (k:=0) (j:=wk) f0 f1 hc.2 (by decide) (by omega) (by omega)
 have g4:=Cal.beg_le (k:=wk) (j:=60) f0 f1 hc.2 (by omega) (by omega) (by decide)
 rw [b0] at g1 g3
 have fa:0<Cal.beg f dy c 10 - f∧f+(Cal.beg f dy c 10 - f)≤Cal.beg f dy c 60:=by omega
 have wa:0<Cal.beg f dy c wk - f∧f+(Cal.beg f dy c wk - f)≤Cal.beg f dy c 60:=by omega
 generalize Cal.beg f dy c 10 - f=far at fa ⊢
 generalize Cal.beg f dy c wk - f=wide at wa ⊢
 clear g1 g2 g3 g4
 have s04:=((s1.trans s2).trans s3).trans s4
 have nln:H ln=none:=((s1.trans s2).trans s3).none hln
 ((try dsimp only);refine zbX fun R hR=> ?_;lge_open0)
 intro p5 H5 _ s5 e5
 obtain ⟨mn,emn,mn1⟩: ∃mn:Nat,atI [V.int (m % 15),V.int 40] (if m / 15 % 8=5 then 1 else 0)=some (.int mn)∧mn≤40:=by
  by_cases z:m / 15 % 8=5
  ·rw [if_pos z]
   exact ⟨40,rfl,by decide⟩
  ·rw [if_neg z]
   exact ⟨(m % 15).toNat,by rw [Int.toNat_of_nonneg (by omega)];rfl,by omega⟩
 refine ixL (SqL.of e5) emn ⟨_,rfl,by omega,by omega,hR _ _ ?_⟩
 clear hR
 rw [Int.toNat_natCast]
 obtain ⟨Pv,hPv⟩: ∃Pv:Nat→St→Hp→Prop,Pv=fun i σ1 H6=>zao H H6∧ ∃(xs:List Int) (x8:Option V),xs.length=i∧(∀x∈xs,0≤x)∧H6 ln=some (.lst (xs.map V.int))∧σ1= [some (.ref a),some (.ref pa),some (.int st),some (.int m),some (.int f),some (.int far),some (.int wide),some (.ref ln),x8,none,none,none,none,none,none]:=⟨_,rfl⟩
 refine zb1 (n:=mn) Pv (by rw [hPv];exact ⟨s04.trans s5, [],_,rfl,(fun _ h=>nomatch h),s5 _ _ e4,rfl⟩) (fun i σ1 H6 hi h=> ?_) (fun σ1 H6 h=> ?_)
 ·rw [hPv] at h
  obtain ⟨s6,xs,x8,xl,x0,e6,rfl⟩:=h
  w_why
  refine ⟨.inl ⟨rfl,_,SqL.of e6⟩,a,ns,_,rfl,s6.seq hS,h63,by omega, .inl ⟨by omega,by omega⟩,_,rfl,_,_,rfl,by omega,by omega,fun r r0 _=>⟨ln,_,_,rfl,rfl,e6,zc7 (show (xs.map V.int).length≤1000 by rw [List.length_map];omega),?_⟩⟩
  rw [hPv]
  exact ⟨s6.put nln _,xs++ [r],_,by rw [List.length_append,xl];rfl,fun x hx=>by
   rcases List.mem_append.mp hx with z|z
   ·exact x0 x z
   ·rw [List.mem_singleton.mp z];exact r0,by rw [zay,List.map_append];rfl,rfl⟩
 ·rw [hPv] at h
  obtain ⟨s6,xs,x8,xl,x0,e6,rfl⟩:=h
  simp only [zbe,zaU,zbK,zbd,zcx,zbc,zcr,zaS,zbJ,zbb,zbm,zbI,tDc,za4,za5,za3,zbG,zbH,zbl,zbn,za2,zaG,zaH,zcq,List.replicate,Option.join_some,Option.join_none,za6,zcv,zbF,zaR,tSl,zcs,zcp,zcu,slT,zcg,Int.reduceLT,Int.reduceLE,Int.reduceToNat,Int.reduceNeg,Int.reduceAdd,Int.reduceSub,Int.reduceMul,forall_const,zcl,zbC,zcn,zcm,zbM,zbD,zcc,zbq,zbt,zcf,zce,tC,tOp,rI,rI0,tUn,rU,zbE,tB,zci,tOr,zcj,zbA,zck,zbB,tIf,zbx,zch,za9,zbk,tCB,zba,rEq,rNe,zaX,zaY,zaZ,za0,za1,zbj,zco,ipI,L2.start,List.map_cons,List.map_nil,List.length_cons,List.length_nil,List.cons_append,List.nil_append,List.append_nil,List.replicate_succ,List.replicate_zero,Nat.reduceAdd,Nat.reduceSub,List.getElem?_cons_zero,List.getElem?_cons_succ,List.set_cons_zero,List.set_cons_succ,Option.some.injEq,V.int.injEq,V.bl.injEq,V.ref.injEq,V.str.injEq,exists_eq_left',exists_eq_left,exists_eq',exists_and_left,List.cons.injEq,and_true,true_and,and_self,and_assoc,decide_eq_true_eq,if_true,if_false,Bool.true_eq_false,Bool.false_eq_true,Bool.not_eq_true',Bool.not_true,Bool.not_false,decide_eq_false_iff_not,ite_true,ite_false,reduceCtorEq,false_and,exists_false,false_or,or_false,and_false,zds,zdz,Nat.reduceLeDiff]
  refine ⟨⟨_,SqL.of e6⟩,fun lc hlc aa=> ?_⟩
  refine zb0 (fun j ys _=> ∃ds:List Int,ys=ds.map V.int∧ds.length=j∧ ∀d∈ds,f≤d∧d<f+wide) (zb3 (SqL.of e6)) hlc (by rw [List.length_map];exact za7 (by omega)) (fun _ _=>⟨[],rfl,rfl,(fun _ h=>nomatch h)⟩) (fun j y ys H8 K1 K0 hx sm pv hl k1 k0=> ?_) (fun ys H7 s7 pv _ w7=> ?_)
  ·rw [List.getElem?_map] at hx
   obtain ⟨u,hu,rfl⟩:=Option.map_eq_some_iff.mp hx
   obtain ⟨ds,rfl,dl,db⟩:=pv
   lgec_open0
   have r0:=Int.emod_nonneg u (show wide≠0 by omega)
   have r1:=Int.emod_lt_of_pos u wa.1
   refine ⟨wa.1,k1 _ _ (zao.refl _) fun H5 _=>⟨ds++ [f+u % wide],by rw [List.map_append];rfl,by rw [List.length_append,dl];rfl,fun d hd=> ?_⟩⟩
   rcases List.mem_append.mp hd with z|z
   ·exact db d z
   ·rw [List.mem_singleton.mp z]
    omega
  obtain ⟨ds,rfl,dl,db⟩:=pv
  rw [List.length_map] at dl
  refine ⟨lc,rfl,ds,w7,by omega,fun ws wp wo lw H8 hlw s8 e8 le H9 hle s9 e9 ll H10 hll s10 e10=> ?_⟩
  have wl:ws.length=xs.length:=wp.length_eq.trans dl
  have wb: ∀d∈ws,f≤d∧d<f+wide:=fun d hd=>db d (wp.mem_iff.mp hd)
  have s08:=(s6.trans s7).trans s8
  have e68:=s8 _ _ (s7 _ _ e6)
  have I0:EnInv K H8 H10 le ll (zs.map fun z=>z.2.1) f (Cal.beg f dy c 60) []:=by
   refine ⟨s9.trans s10,hle,s9.none hll,fun z=> ?_,s10 _ _ e9,e10,fun z hz=>(nomatch hz),zcd.nil⟩
   rw [←z,e9] at hll
   cases hll
  have hz8:=hz.same s08
  ((try dsimp only);refine zbX fun R hR=> ?_;lge_open0)
  refine ⟨_, .inl (SqL.of (s10 _ _ (s9 _ _ e68))),?_⟩
  rw [List.length_map]
  refine ⟨by omega,by omega,hR _ _ ?_⟩
  clear hR
  rw [Int.toNat_natCast]
  obtain ⟨Pw,hPw⟩: ∃Pw:Nat→St→Hp→Prop,Pw=fun i σ1 H5=> ∃(ys:List En) (x8 x12 x13 x14:Option V),EnInv K H8 H5 le ll (zs.map fun z=>z.2.1) f (Cal.beg f dy c 60) ys∧ys.length=i∧(∀(j:Nat) y,ys[j]? =some y→ws[j]? =some y.2.2.1)∧σ1= [some (.ref a),some (.ref pa),some (.int st),some (.int m),some (.int f),some (.int far),some (.int wide),some (.ref ln),x8,some (.ref lw),some (.ref le),some (.ref ll),x12,x13,x14]:=⟨_,rfl⟩
  refine zb1 (n:=xs.length) Pw (by rw [hPw];exact ⟨[],_,_,_,_,I0,rfl,(fun j y h=>by rw [List.getElem?_nil] at h;cases h),rfl⟩) (fun i σ1 H5 hi hv=> ?_) (fun σ1 H5 hv=> ?_)
  ·rw [hPw] at hv
   obtain ⟨ys,x8,x12,x13,x14,I5,rfl,yw,rfl⟩:=hv
   obtain ⟨u,hu⟩: ∃u,xs[ys.length]? =some u:=⟨xs[ys.length],List.getElem?_eq_getElem hi⟩
   obtain ⟨en,hen⟩: ∃en,ws[ys.length]? =some en:=⟨ws[ys.length]'(by omega),List.getElem?_eq_getElem _⟩
   have eb:=wb en (List.mem_of_getElem? hen)
   have yle: ∀y∈ys,y.2.2.1≤en:=fun y hy=>by
    obtain ⟨j,hj,ej⟩:=List.mem_iff_getElem.mp hy
    have h1:=yw j y (by rw [List.getElem?_eq_getElem hj,ej])
    obtain ⟨j1,e1⟩:=List.getElem?_eq_some_iff.mp h1
    obtain ⟨j2,e2⟩:=List.getElem?_eq_some_iff.mp hen
    have:=List.pairwise_iff_getElem.mp wo j ys.length j1 j2 hj
    rw [e1,e2] at this
    exact this
   have ax:atI (xs.map V.int) (0+(ys.length:Int))=some (.int u):=by rw [Int.zero_add];exact zbw (by rw [List.getElem?_map,hu];rfl)
   have aw:atI (ws.map V.int) (0+(ys.length:Int))=some (.int en):=by rw [Int.zero_add];exact zbw (by rw [List.getElem?_map,hen];rfl)
   have x5:=SqL.of (K:=K) (I5.same _ _ e68)
   have w5:=SqL.of (K:=K) (I5.same _ _ e8)
   w_why
   refine ixL x5 ax ⟨_,rfl,ixL w5 aw ⟨fa.1,_, .inl x5,?_⟩⟩
   rw [List.length_map]
   have i1:0≤u / 3 % (xs.length:Int)∧u / 3 % (xs.length:Int)<xs.length:=⟨Int.emod_nonneg _ (by omega),Int.emod_lt_of_pos _ (by omega)⟩
   obtain ⟨j,hj⟩:=Int.eq_ofNat_of_zero_le i1.1
   rw [hj] at i1 ⊢
   obtain ⟨en2,hen2⟩: ∃en2,ws[j]? =some en2:=⟨ws[j]'(by omega),List.getElem?_eq_getElem _⟩
   have eb2:=wb en2 (List.mem_of_getElem? hen2)
   refine ⟨by omega,ixL w5 (v:= .int en2) (zbw (by rw [List.getElem?_map,hen2];rfl)) (fun p6 J1 _ u1 g1=> ?_)⟩
   have fb:0≤u / 3 % far∧u / 3 % far<far:=⟨Int.emod_nonneg _ (by omega),Int.emod_lt_of_pos _ fa.1⟩
   generalize u / 3 % far=fr at fb g1
   have g1':J1 p6=some (.lst (([en,f+fr,en2]:List Int).map V.int)):=g1
   have i3:0≤u % 3∧u % 3<3:=by omega
   have ob:=zdm (xs:= [en,f+fr,en2]) (lo:=f) (hi:=Cal.beg f dy c 60 - 1) (fun x hx=>by
    simp only [List.mem_cons,List.not_mem_nil,or_false] at hx
    rcases hx with rfl|rfl|rfl<;>omega) i3.1 i3.2
   refine ixL (u1.seq x5) ax ⟨_,rfl,ixL (SqL.of g1') (zcR i3.1 i3.2) (ixL (u1.seq x5) ax ⟨_,7,rfl,by decide,by decide,fun r _ _=> ?_⟩)⟩
   clear g1 g1'
   generalize ([en,f+fr,en2]:List Int).getD (u % 3).toNat 0=own at ob ⊢
   have I14:=I5.same' u1
   refine ⟨pa,ll,la,f,dy,c,zs,r,own,_,rfl,hz8.same I14.same,SqL.of I14.e2,fun p ch J5 u5 ok5 e5=>⟨.inl ⟨rfl,_,SqL.of (u5 _ _ I14.e1)⟩,ixL ((u1.trans u5).seq w5) aw ?_⟩⟩
   have I15:=I14.same' u5
   refine zjW I15 (by omega) e5 (by omega) (by omega) yle (zkI ok5 (by omega) (by omega)) fun pe H' I'=> ?_
   rw [hPw]
   refine ⟨_,_,_,_,_,I',by rw [List.length_append];rfl,fun j y h=> ?_,rfl⟩
   rw [List.getElem?_append] at h
   by_cases jl:j<ys.length
   ·rw [if_pos jl] at h
    exact yw j y h
   ·rw [if_neg jl] at h
    have j0:j - ys.length=0:=by
     rcases Nat.lt_or_ge (j - ys.length) 1 with z|z
     ·omega
     ·rw [List.getElem?_eq_none (by simpa using z)] at h;cases h
    rw [j0] at h
    cases h
    obtain rfl:j=ys.length:=by omega
    exact hen
  ·rw [hPw] at hv
   obtain ⟨ys,x8,x12,x13,x14,I5,yl,yw,rfl⟩:=hv
   open_k0
   exact q le ys H5 (s08.trans I5.same) I5.at' I5.ok (by omega) I5.e1
def EnB (f e:Int) (zs:List En):Prop:= ∀z∈zs,zbs z.2.2.2=true→TmB f e z.2.2.2
theorem EnB.of {nms:List (List Nat)} {f e:Int} {zs:List En} (h:zcd nms f e zs):EnB f e zs:=fun z hz tm=>by
 obtain ⟨i,hi,ez⟩:=List.mem_iff_getElem.mp hz
 have ci:=(h i z (by rw [List.getElem?_eq_getElem hi,ez])).2.2.2
 cases hch:z.2.2.2 with
 |plan d nm=>rw [hch] at ci;exact ⟨rfl,ci.1,ci.2.1,fun w d h=>by cases h⟩
 |seats d n=>rw [hch] at ci;exact ⟨rfl,ci.1,ci.2.1,fun w d h=>by cases h⟩
 |word w d=>rw [hch] at ci;exact ⟨rfl,ci.2.1,ci.2.2,fun w d h=>by cases h;exact ci.1⟩
 |undo k=>rw [hch] at tm;cases tm
 |grant k=>rw [hch] at tm;cases tm
 |back=>rw [hch] at tm;cases tm
def zij:List (List Nat):= [[112,108,97,110], [115,101,97,116,115], [104,111,108,100], [103,111], [115,116,111,112], [108,97,115,116]]
theorem zfi (w:Nat):zcD w∈zij∧zcD w≠ [112,108,97,110]∧zcD w≠ [115,101,97,116,115]:=by
 match w with
 |0=>exact ⟨by decide,by decide,by decide⟩
 |1=>exact ⟨by decide,by decide,by decide⟩
 |2=>exact ⟨by decide,by decide,by decide⟩
 |n+3=>exact ⟨(by decide: [108,97,115,116]∈zij),(by decide: [108,97,115,116]≠ [112,108,97,110]),(by decide: [108,97,115,116]≠ [115,101,97,116,115])⟩
theorem zjX (c:Ch):decide (chW c∈zij)=zbs c:=by
 cases c with
 |plan=>rfl
 |seats=>rfl
 |word w _=>exact decide_eq_true (zfi w).1
 |undo=>rfl
 |grant=>rfl
 |back=>rfl
def zjY (K:PySem.W.Frag):Sp:=fun vs H Q _=> ∃(p:Addr) (c:Ch),vs= [.ref p]∧SqT K H p ((chD c).map sv)∧Q (.bl (zbs c)) H
theorem sc_0t:FnScope ["change"] ["change"] (zap s_0t):=⟨rfl,rfl,rfl,by decide+kernel,rfl,by decide+kernel,by decide+kernel⟩
theorem ok_0t (T:Txt w K mg t):FnOk P w K mg base (CXE P w) 1 t.a_0t t.d_0t ["change"] (zjY K):=by
 refine T.fn_0t.okX sc_0t (fun vs H Q E h=> ?_) (fun cdv A outer s H vs Q E L hr h=> ?_)
 ·obtain ⟨p,c,rfl,hp,q⟩:=h
  rfl
 obtain ⟨p,c,rfl,hp,q⟩:=h
 have nd:=sc_0t.nd
 obtain ⟨a_Z0d,h_TERMS,q_TERMS⟩:=T.k_Z0d
 have r_TERMS:zaL (.ref a_Z0d) (.ref a_Z0d):=rfl
 refine ⟨_,(zaf (zaw (zbT zet (zaq zas (pv 0) zac (fun _ _=>rfl)) (zbS (by rfl) h_TERMS r_TERMS) rfl))),?_⟩
 obtain ⟨r,er⟩:=zcT c
 rw [er] at hp
 open_k0
 refine ixT hp (zbR _ _) ⟨a_Z0d,_,rfl, .inr (q_TERMS _),rfl,rfl,?_⟩
 have e:inV (.str (SL (chW c))) (zij.map fun x=>V.str (SL x))=zbs c:=by rw [zdF,zjX]
 exact e ▸ q
def zd2 (zs:List En) (k:Int):V:=((zs[k.toNat]?).map fun z=>V.ref z.2.1).getD .non
def zhJ (K:PySem.W.Frag):Sp:=fun vs H Q _=> ∃(a:Addr) (zs:List En),vs= [.ref a]∧SqL K H a (zs.map (·.1))∧zbV K H zs∧zs.length≤63∧(∀i z k,zs[i]? =some z→z.2.2.2= .undo k→k∈zaQ (chs (zs.take i)))∧ ∀r H',H r=none→zao H H'→H' r=some (.dK (kvG (zd2 zs) (zaQ (chs zs))))→Q (.ref r) H'
theorem sc_0z:FnScope ["entries","standing","number","entry","change"] ["entries"] (zap s_0z):=⟨rfl,rfl,rfl,by decide+kernel,rfl,by decide+kernel,by decide+kernel⟩
theorem ok_0z (T:Txt w K mg t):FnOk P w K mg base (CXE P w) 2 t.a_0z t.d_0z ["entries"] (zhJ K):=by
 refine T.fn_0z.okX sc_0z (fun vs H Q E h=> ?_) (fun cdv A outer s H vs Q E L hr h=> ?_)
 ·obtain ⟨a,zs,rfl,hS,hE,z63,hu,q⟩:=h
  rfl
 obtain ⟨a,zs,rfl,hS,hE,z63,hu,q⟩:=h
 have nd:=sc_0z.nd
 refine ⟨_,(zad (zan (i:=1) nd rfl (Or.inl rfl) zgM) (zad (zbO (by passes_own) rfl (zh5 (by rfl) T.no_enumerate (zaa (pv 0) zae)) (zbi (n:=2) rfl (zal (zaj (i:=2) nd rfl (Or.inl rfl)) (zal (zaj (i:=3) nd rfl (Or.inl rfl)) zaV))) (zad (zan (i:=4) nd rfl (Or.inl rfl) (zaq zas (pv 3) zac (fun _ _=>rfl))) (zad (zc3 (zaM (zep (zag L.toLv (ok_0t T) (hr.mono (by decide)) (by rfl) T.mg_0t T.fn_0t.kp T.b_0t .nil (zaa (pv 4) zae))) (zaf (zh2 (zdr hr) (pv 1) (pv 2) (pv 4) rfl)) zaz)) (zaf (zaM (zar zbv (zaq zas (pv 4) zac (fun _ _=>rfl)) (zax st_14) (zat _)) (zaf (zb8 (zjt (pv 1) (zaq zas (pv 4) zac (fun _ _=>rfl)) ⟨by rfl,by rfl,by rfl,by rfl⟩))) zaz))))) (zaf (zaw (pv 1))))),?_⟩
 open_k0
 intro dd H1 hdd s1 e1
 ((try dsimp only);refine zbX fun R hR=> ?_;lge_open0)
 refine ⟨⟨_,s1.seq hS⟩,hR _ _ ?_⟩
 clear hR
 refine zgO (xs:=zs.map (·.1)) (fun i σ1 H2=>zao H H2∧H2 dd=some (.dK (kvG (zd2 zs) (zaQ (chs (zs.take i)))))∧ ∃(x2 x3 x4:Option V),σ1= [some (.ref a),some (.ref dd),x2,x3,x4]) ⟨s1,e1,_,_,_,rfl⟩ (fun i σ1 H1 _ h=>h.1.seq hS) (fun i σ1 H1 H2 h s=>⟨h.1.trans s,s _ _ h.2.1,h.2.2⟩) (fun i x σ1 H2 hx h=> ?_) (fun σ1 H2 h=> ?_)
 ·obtain ⟨s2,e2,x2,x3,x4,rfl⟩:=h
  obtain ⟨z,hz,rfl⟩: ∃z,zs[i]? =some z∧x=z.1:=by
   rw [List.getElem?_map] at hx
   obtain ⟨u,e,rfl⟩:=Option.map_eq_some_iff.mp hx
   exact ⟨u,e,rfl⟩
  obtain ⟨pe,ee,q1,q2⟩:=(hE.same s2) z (List.mem_of_getElem? hz)
  have hi:=(List.getElem?_eq_some_iff.mp hz).1
  have li:(zaQ (chs (zs.take i))).length<100:=by have:=zcH (chs (zs.take i));rw [zbW,List.length_take] at this;omega
  have pz:zd2 zs (i:Int)= .ref z.2.1:=by unfold zd2;rw [Int.toNat_natCast,hz];rfl
  have nx:=zhp hz
  have ni:=(zdc (chs (zs.take i))).2
  rw [zbW,List.length_take,Nat.min_eq_left (by omega)] at ni
  have nd:=(zdc (chs (zs.take i))).1
  have hui:=hu i z
  rw [ee]
  open_k0
  refine ixT q1 (zb7 _ _ _) ?_
  generalize hc:z.2.2.2=c at q2 nx hui
  generalize zaQ (chs (zs.take i))=S at e2 li nx ni nd hui
  obtain ⟨R,hR⟩: ∃R:St→Hp→Prop,R=fun σ' H'=>zao H H'∧H' dd=some (.dK (kvG (zd2 zs) (if zbs c=true then S++ [(i:Int)] else S)))∧σ'= [some (.ref a),some (.ref dd),some (.int i),some (.ref pe),some (.ref z.2.1)]:=⟨_,rfl⟩
  refine ⟨R,?_,fun σ3 H3 h3=> ?_⟩
  ·open_k0
   refine ⟨z.2.1,c,rfl,q2,_,rfl,zbY (fun tm=> ?_) (fun tm=> ?_)⟩
   ·refine ⟨_,zhm.k (k:=Sum.inl (i:Int)) e2 (zbU (show (kvG (zd2 zs) S).length+1≤1000 by unfold kvG;rw [List.length_map];omega)),?_⟩
    rw [hR]
    refine ⟨s2.put hdd _,?_,rfl⟩
    rw [zay,if_pos tm,←pz,zlp _ (fun y=>by have:=(ni _ y).2;omega)]
   ·rw [hR]
    exact ⟨s2,by rw [if_neg tm];exact e2,rfl⟩
  rw [hR] at h3
  obtain ⟨s3,e3,rfl⟩:=h3
  clear hR
  open_k0
  obtain ⟨_,_,_,q3⟩:=(hE.same s3) z (List.mem_of_getElem? hz)
  rw [hc] at q3
  rw [nx]
  obtain ⟨r,er⟩:=zcT c
  have q3':=q3
  rw [er] at q3'
  refine ixT q3' (zbR _ _) ⟨rfl,?_⟩
  cases c with
  |plan=>exact zaT (zbo (show [112,108,97,110]≠ [117,110,100,111] by decide)) ⟨s3,e3⟩
  |seats=>exact zaT (zbo (show [115,101,97,116,115]≠ [117,110,100,111] by decide)) ⟨s3,e3⟩
  |word w d=>exact zaT (zbo (fun z=>absurd ((zfi w).1) (by rw [show zcD w=_ from z];decide))) ⟨s3,e3⟩
  |grant=>exact zaT (zbo (show [103,114,97,110,116]≠ [117,110,100,111] by decide)) ⟨s3,e3⟩
  |back=>exact zaT (zbo (show [98,97,99,107]≠ [117,110,100,111] by decide)) ⟨s3,e3⟩
  |undo k=>
   have q3:SqT K H3 z.2.1 [.str (SL [117,110,100,111]), .int k]:=q3
   have hk:=hui k hz rfl
   refine zbr rfl ⟨.inl ⟨_,Rd.of e3⟩,ixT q3 (zb7 _ _ _) ⟨_,e3,Sum.inl k,rfl,_,(by show zcF (kvG (zd2 zs) S) (Sum.inl k)=_;rw [zgb,if_pos hk]),s3.put hdd _,?_⟩⟩
   rw [zay]
   show some (HO.dK (zeC (kvG (zd2 zs) S) (Sum.inl k)))=_
   rw [zh7 _ _ nd]
   rfl
 ·obtain ⟨s2,e2,x2,x3,x4,rfl⟩:=h
  rw [List.length_map,List.take_length] at e2
  open_k0
  exact q dd H2 hdd s2 e2
def zfj (H:Hp) (zs:List En) (Ls:List Int) (as:List Addr):Prop:=as.length=Ls.length∧ ∀(i:Nat) (p:Addr) (k:Int),as[i]? =some p→Ls[i]? =some k→ ∃z,zs[k.toNat]? =some z∧H p=some (.tup [.int k, .ref z.2.1])
theorem zfj.same {H H':Hp} {zs:List En} {Ls:List Int} {as:List Addr} (h:zfj H zs Ls as) (s:zao H H'):zfj H' zs Ls as:=⟨h.1,fun i p k h1 h2=>let ⟨z,h3,h4⟩:=h.2 i p k h1 h2;⟨z,h3,s _ _ h4⟩⟩
def zaD (zs:List En) (mo:Int):List Int:=zaQ (chs (zs.take (mOf zs mo)))
def zfW (K:PySem.W.Frag):Sp:=fun vs H Q _=> ∃(a:Addr) (zs:List En) (mo:Int),vs= [.ref a, .int mo]∧SqL K H a (zs.map (·.1))∧zbV K H zs∧zs.length≤40∧zs.Pairwise (fun a b=>a.2.2.1≤b.2.2.1)∧zbQ (chs zs)∧ ∀r as H',H r=none→zao H H'→H' r=some (.lst (as.map V.ref))→zfj H' zs (zaD zs mo) as→Q (.ref r) H'
theorem sc_11:FnScope ["entries","moment","known"] ["entries","moment"] (zap s_11):=⟨rfl,rfl,rfl,by decide+kernel,rfl,by decide+kernel,by decide+kernel⟩
theorem ok_11 (T:Txt w K mg t):FnOk P w K mg base (CXE P w) 3 t.a_11 t.d_11 ["entries","moment"] (zfW K):=by
 refine T.fn_11.okX sc_11 (fun vs H Q E h=> ?_) (fun cdv A outer s H vs Q E L hr h=> ?_)
 ·obtain ⟨a,zs,mo,rfl,hS,hE,z40,hp,ho,q⟩:=h
  rfl
 obtain ⟨a,zs,mo,rfl,hS,hE,z40,hp,ho,q⟩:=h
 have nd:=sc_11.nd
 refine ⟨_,(zad (zdM (i:=2) nd rfl rfl (n:=1) (N:= ["entry","moment"]) (js:= [1]) (by rfl) rfl rfl (zbu (pv 0)) (fun a=>(zaj (i:=0) (show List.Nodup (["entry","moment"]:List Str) from by decide+kernel) rfl (Or.inl rfl))) (fun a=>(zd9 (zar zfu (zaq zas (pv 0) zac (fun _ _=>rfl)) (pv 1) (zat _)))) (fun a=>(pv 0))) (zaf (zaw (zgd (by rfl) (by rfl) T.no_list (zag L.toLv (ok_0z T) (hr.mono (by decide)) (by rfl) T.mg_0z T.fn_0z.kp T.b_0z .nil (zaa (pv 2) zae)) (by rfl) (by rfl))))),?_⟩
 open_k0
 obtain ⟨kt,kb⟩:=zdZ mo hp
 have ml:mOf zs mo≤zs.length:=List.length_filter_le _ _
 refine ⟨_,rfl,a,rfl,⟨_,hS⟩,fun l2 hl2 aa=> ?_⟩
 refine zb0 (fun j xs _=>xs=((zs.take j).filter (enL mo)).map (·.1)) (zb3 hS) hl2 (by rw [List.length_map];exact za7 (by omega)) (fun _ _=>rfl) (fun j x xs H8 K1 K0 hx sm pv hl k1 k0=> ?_) (fun xs H2 s2 pv _ w2=> ?_)
 ·obtain ⟨z,hz,rfl⟩: ∃z,zs[j]? =some z∧x=z.1:=by
   rw [List.getElem?_map] at hx
   obtain ⟨u,e,rfl⟩:=Option.map_eq_some_iff.mp hx
   exact ⟨u,e,rfl⟩
  obtain ⟨pe,ee,q1,q2⟩:=(hE.same sm) z (List.mem_of_getElem? hz)
  have ez:(zs.take (j+1)).filter (enL mo)=(zs.take j).filter (enL mo)++ [z].filter (enL mo):=by rw [List.take_add_one,hz,Option.toList_some,List.filter_append]
  rw [ee]
  lgec_open0
  refine ixT q1 (zbR _ _) ⟨_,rfl,zbY (fun h=>k1 _ _ (zao.refl _) fun H' _=> ?_) (fun h=>k0 _ (zao.refl _) ?_)⟩
  ·rw [ez,List.filter_cons_of_pos (show enL mo z=true from decide_eq_true h),List.map_append,pv,←ee]
   rfl
  ·rw [ez,List.filter_cons_of_neg (show¬enL mo z=true from by unfold enL;simpa using h),List.map_append,pv]
   exact (List.append_nil _).symm
 rw [List.length_map,List.take_length,kt] at pv
 subst pv
 have uo:zbQ (chs (zs.take (mOf zs mo))):=by rw [zcE];exact ho.take _
 refine ⟨l2,zs.take (mOf zs mo),rfl,SqL.of w2,(hE.same s2).take _,by rw [List.length_take];omega,fun i z k hz hk=> ?_,fun r H3 _ s3 e3=>⟨r,rfl,_,e3,fun l H4 as nl s4 al ak e4=>q l as H4 (by
  rcases hh:H l with _|o
  ·rfl
  ·rw [(s2.trans s3) _ _ hh] at nl;cases nl) ((s2.trans s3).trans s4) e4 ⟨?_,fun i p k hp' hk'=> ?_⟩⟩⟩
 ·rw [zcE]
  refine uo i k ?_
  unfold chs
  rw [List.getElem?_map,hz]
  exact congrArg some hk
 ·rw [al]
  exact List.length_map ..
 ·have kin:=(zdc (chs (zs.take (mOf zs mo)))).2 k (List.mem_of_getElem? hk')
  rw [zbW,List.length_take] at kin
  have kl:k.toNat<zs.length:=by omega
  refine ⟨zs[k.toNat],List.getElem?_eq_getElem kl,?_⟩
  have:=ak i (Sum.inl k,zd2 (zs.take (mOf zs mo)) k) p (by
   unfold kvG
   rw [List.getElem?_map]
   show Option.map _ (zaD zs mo)[i]? =_
   rw [hk']
   rfl) hp'
  rw [this]
  show some (HO.tup [V.int k,zd2 (zs.take (mOf zs mo)) k])=_
  unfold zd2
  rw [List.getElem?_take,if_pos (by omega),List.getElem?_eq_getElem kl]
  rfl
def zkJ (K:PySem.W.Frag):Sp:=fun vs H Q _=> ∃(a:Addr) (zs:List En) (mo:Int),vs= [.ref a, .int mo]∧SqL K H a (zs.map (·.1))∧zbV K H zs∧zs.length≤40∧zs.Pairwise (fun a b=>a.2.2.1≤b.2.2.1)∧zbQ (chs zs)∧ ∀r as H',H r=none→zao H H'→H' r=some (.lst (as.map V.ref))→zfj H' zs (zaD zs mo) as→Q (.ref r) H'
theorem sc_19:FnScope ["_law_entries_here","_law_moment","_law_found","_law_gone","_law_number","_law_entered","_law_change_here"] ["_law_entries_here","_law_moment"] (zap s_19):=⟨rfl,rfl,rfl,by decide+kernel,rfl,by decide+kernel,by decide+kernel⟩
theorem ok_19 (T:Txt w K mg t):FnOk P w K mg base (CXE P w) 1 t.a_19 t.d_19 ["_law_entries_here","_law_moment"] (zkJ K):=by
 refine T.fn_19.okX sc_19 (fun vs H Q E h=> ?_) (fun cdv A outer s H vs Q E L hr h=> ?_)
 ·obtain ⟨a,zs,mo,rfl,hS,hE,z40,hp,ho,q⟩:=h
  rfl
 obtain ⟨a,zs,mo,rfl,hS,hE,z40,hp,ho,q⟩:=h
 have nd:=sc_19.nd
 refine ⟨_,(zad (zan (i:=2) nd rfl (Or.inl rfl) (zbg zae)) (zad (zdM (i:=3) nd rfl rfl (n:=2) (N:= ["_law_entered","_law_change_here","_law_moment"]) (js:= [1]) (by rfl) rfl rfl (zbu (pv 0)) (fun a=>(zbi (n:=2) rfl (zal (zaj (i:=0) (show List.Nodup (["_law_entered","_law_change_here","_law_moment"]:List Str) from by decide+kernel) rfl (Or.inl rfl)) (zal (zaj (i:=1) (show List.Nodup (["_law_entered","_law_change_here","_law_moment"]:List Str) from by decide+kernel) rfl (Or.inl rfl)) zaV)))) (fun a=>(zd9 (zdj (zar zbv (zaq zas (pv 1) zac (fun _ _=>rfl)) (zax st_14) (zat _)) (zcV (zar zfu (pv 0) (pv 2) (zat _)))).pt)) (fun a=>(zaq zas (pv 1) zac (fun _ _=>rfl)))) (zad (zbO (by passes_own) rfl (zbL (by rfl) T.no_range (zaa (zaF zaW (by rfl) T.no_len zct (zaa (pv 0) zae)) zae)) (zaj (i:=4) nd rfl (Or.inl rfl)) (zad (zby (zaq zaI (pv 0) (pv 4) (fun _ _=>rfl)) (zbi (n:=2) rfl (zal (zaj (i:=5) nd rfl (Or.inl rfl)) (zal (zaj (i:=6) nd rfl (Or.inl rfl)) zaV)))) (zaf (zaM (zdj (zar zfu (pv 5) (pv 1) (zat _)) (zdj (zar zd8 (pv 4) (pv 3) rfl) (zcV (zar zd8 (zaq zas (pv 6) zac (fun _ _=>rfl)) (zaJ (zaa (zax st_14) (zaa (zax st_13) (zaa (zax st_15) zae zah) zah) zah)) rfl)))).pt (zaf (zb8 (zdB PySem.F.plainAttrs_list PySem.F.slot_list_append PySem.F.type_list_append zb2 (pv 2) (zaa (zaJ (zaa (pv 4) (zaa (pv 6) zae zab) zab)) zae)))) zaz)))) (zaf (zaw (pv 2)))))),?_⟩
 open_k0
 obtain ⟨kt,kb⟩:=zdZ mo hp
 have ml:mOf zs mo≤zs.length:=List.length_filter_le _ _
 intro lf H0 hlf s0 e0
 simp only [zbe,zaU,zbK,zbd,zcx,zbc,zcr,zaS,zbJ,zbb,zbm,zbI,tDc,za4,za5,za3,zbG,zbH,zbl,zbn,za2,zaG,zaH,zcq,List.replicate,Option.join_some,Option.join_none,za6,zcv,zbF,zaR,tSl,zcs,zcp,zcu,slT,zcg,Int.reduceLT,Int.reduceLE,Int.reduceToNat,Int.reduceNeg,Int.reduceAdd,Int.reduceSub,Int.reduceMul,forall_const,zcl,zbC,zcn,zcm,zbM,zbD,zcc,zbq,zbt,zcf,zce,tC,tOp,rI,rI0,tUn,rU,zbE,tB,zci,tOr,zcj,zbA,zck,zbB,tIf,zbx,zch,za9,zbk,tCB,zba,rEq,rNe,zaX,zaY,zaZ,za0,za1,zbj,zco,ipI,L2.start,List.map_cons,List.map_nil,List.length_cons,List.length_nil,List.cons_append,List.nil_append,List.append_nil,List.replicate_succ,List.replicate_zero,Nat.reduceAdd,Nat.reduceSub,List.getElem?_cons_zero,List.getElem?_cons_succ,List.set_cons_zero,List.set_cons_succ,Option.some.injEq,V.int.injEq,V.bl.injEq,V.ref.injEq,V.str.injEq,exists_eq_left',exists_eq_left,exists_eq',exists_and_left,List.cons.injEq,and_true,true_and,and_self,and_assoc,decide_eq_true_eq,if_true,if_false,Bool.true_eq_false,Bool.false_eq_true,Bool.not_eq_true',Bool.not_true,Bool.not_false,decide_eq_false_iff_not,ite_true,ite_false,reduceCtorEq,false_and,exists_false,false_or,or_false,and_false,zds,zdz,Nat.reduceLeDiff]
 refine ⟨⟨_,s0.seq hS⟩,fun l2 hl2 aa=> ?_⟩
 refine zb0 (fun j xs _=>xs=(zaO (chs ((zs.take j).filter (enL mo)))).map V.int) (zb3 (s0.seq hS)) hl2 (by rw [List.length_map];exact za7 (by omega)) (fun _ _=>rfl) (fun j x xs H8 K1 K0 hx sm pv hl k1 k0=> ?_) (fun xs H2 s2 pv _ w2=> ?_)
 ·obtain ⟨z,hz,rfl⟩: ∃z,zs[j]? =some z∧x=z.1:=by
   rw [List.getElem?_map] at hx
   obtain ⟨u,e,rfl⟩:=Option.map_eq_some_iff.mp hx
   exact ⟨u,e,rfl⟩
  obtain ⟨pe,ee,q1,q2⟩:=(hE.same (s0.trans sm)) z (List.mem_of_getElem? hz)
  rw [ee]
  lgec_open0
  refine ⟨pe,_,rfl,q1,rfl,?_⟩
  lgec_open0
  obtain ⟨r,er⟩:=zcT z.2.2.2
  have q2':=q2
  rw [er] at q2'
  refine ixT q2' (zbR _ _) ⟨rfl,?_⟩
  have gs:=ziF (mo:=mo) hz
  by_cases hu:chW z.2.2.2= [117,110,100,111]
  ·obtain ⟨k,hk⟩:=zgP hu
   rw [hk] at q2 gs
   have q3:SqT K H8 z.2.1 [.str (SL [117,110,100,111]), .int k]:=q2
   refine zbr (by rw [hu]) (zbY (fun h=>ixT q3 (zb7 _ _ _) (k1 _ _ (zao.refl _) fun H' _=> ?_)) (fun h=>k0 _ (zao.refl _) ?_))
   ·rw [gs,if_pos h,List.map_append,pv]
    rfl
   ·rw [gs,if_neg h,List.append_nil]
    exact pv
  ·refine zaT (zbo hu) (k0 _ (zao.refl _) ?_)
   rw [gs,zjx hu,ite_self,List.append_nil]
   exact pv
 rw [List.length_map,List.take_length,kt] at pv
 subst pv
 obtain ⟨cs,hcs⟩: ∃cs,cs=chs (zs.take (mOf zs mo)):=⟨_,rfl⟩
 rw [←hcs] at w2
 have csl:cs.length=mOf zs mo:=by rw [hcs,zbW,List.length_take];omega
 have nlf:H lf=none:=hlf
 have s03:=s0.trans s2
 have e3:=s2 _ _ e0
 ((try dsimp only);refine zbX fun R hR=> ?_;lge_open0)
 refine ⟨_, .inl (s03.seq hS),?_⟩
 rw [List.length_map]
 refine ⟨by omega,by omega,hR _ _ ?_⟩
 clear hR
 rw [Int.toNat_natCast]
 have l2f:l2≠lf:=fun z=>absurd hl2 (by rw [z,e0];exact fun h=>nomatch h)
 refine zb1 (n:=zs.length) (fun i σ1 H4=>zao H H4∧H4 l2=some (.lst ((zaO cs).map V.int))∧ ∃(as:List Addr) (x4 x5 x6:Option V),H4 lf=some (.lst (as.map V.ref))∧zfj H4 zs (zdv cs (zaO cs) i) as∧as.length≤i∧σ1= [some (.ref a),some (.int mo),some (.ref lf),some (.ref l2),x4,x5,x6]) ⟨s03,w2, [],_,_,_,e3,⟨rfl,fun i p k h=>by rw [List.getElem?_nil] at h;cases h⟩,Nat.le_refl _,rfl⟩ (fun i σ1 H4 hi hv=> ?_) (fun σ1 H4 hv=> ?_)
 ·obtain ⟨s4,g4,as,x4,x5,x6,f4,t4,al,rfl⟩:=hv
  obtain ⟨z,hz⟩: ∃z,zs[i]? =some z:=⟨zs[i],List.getElem?_eq_getElem hi⟩
  obtain ⟨pe,ee,q1,q2⟩:=(hE.same s4) z (List.mem_of_getElem? hz)
  have kbi:=kb i z hz
  w_why
  refine ixL (v:=z.1) (s4.seq hS) (by rw [Int.zero_add];exact zbw (by rw [List.getElem?_map,hz];rfl)) ?_
  rw [ee]
  refine ⟨pe,_,rfl,q1,rfl,?_⟩
  w_why
  have ci:cs[i]? =if z.2.2.1≤mo then some z.2.2.2 else none:=by
   rw [hcs,zcE,List.getElem?_take]
   unfold chs
   by_cases h:z.2.2.1≤mo
   ·rw [if_pos (kbi.mp h),if_pos h,List.getElem?_map,hz];rfl
   ·rw [if_neg (fun q=>h (kbi.mpr q)),if_neg h]
  have skip: ∀H',zao H4 H'→(zdd cs[i]? && !decide ((i:Int)∈zaO cs))=false→zao H H'∧H' l2=some (.lst ((zaO cs).map V.int))∧ ∃as:List Addr,H' lf=some (.lst (as.map V.ref))∧zfj H' zs (zdv cs (zaO cs) (i+1)) as∧as.length≤i+1:=fun H' s' e=>by
   refine ⟨s4.trans s',s' _ _ g4,as,s' _ _ f4,?_,by omega⟩
   rw [zdH,e,if_neg Bool.false_ne_true,List.append_nil]
   exact t4.same s'
  refine zbY (fun h=> ?_) (fun h=>skip H4 (zao.refl _) (by rw [ci,if_neg h];rfl))
  rw [if_pos h] at ci
  refine ⟨l2,_,rfl, .inl (SqL.of g4),rfl,by rw [List.all_map,List.all_eq_true];intro _ _;rfl,_,rfl,?_⟩
  rw [Int.zero_add,zgR]
  by_cases hg:(i:Int)∈zaO cs
  ·refine zaT (by rw [decide_eq_true hg];decide) (skip H4 (zao.refl _) (by rw [decide_eq_true hg,Bool.not_true,Bool.and_false]))
  refine zbr (by rw [decide_eq_false hg];rfl) ?_
  obtain ⟨r,er⟩:=zcT z.2.2.2
  rw [er] at q2
  refine ixT q2 (zbR _ _) fun pg H5 _ s5 e5=>⟨pg,_,rfl, .inr (SqT.of e5),rfl,rfl,_,rfl,?_⟩
  have iv:inV (.str (SL (chW z.2.2.2))) [V.str (SL [117,110,100,111]),V.str (SL [103,114,97,110,116]),V.str (SL [98,97,99,107])]= !zbs z.2.2.2:=by rw [←ziE,←zdF];rfl
  rw [iv,Bool.not_not]
  by_cases tm:zbs z.2.2.2=true
  ·refine zbr tm ⟨.inl ⟨rfl,_,SqL.of (s5 _ _ f4)⟩,fun pn H6 _ s6 e6=>⟨lf,_,_,rfl,rfl,s6 _ _ (s5 _ _ f4),zbU (show (as.map V.ref).length+1≤1000 by rw [List.length_map];omega),?_⟩⟩
   have f6:=s6 _ _ (s5 _ _ f4)
   refine ⟨((s4.trans s5).trans s6).put nlf _,by rw [zau l2f];exact s6 _ _ (s5 _ _ g4),as++ [pn],by rw [zay,List.map_append];rfl,?_,by rw [List.length_append,List.length_singleton];omega⟩
   rw [zdH,ci]
   rw [if_pos (by show (zbs z.2.2.2 && _)=true;rw [tm,decide_eq_false hg];rfl)]
   have off: ∀p xs,H6 p=some (.tup xs)→upd H6 lf (.lst (as.map V.ref++ [.ref pn])) p=some (.tup xs):=fun p xs e=>by
    rw [zau (fun y=>by rw [y,f6] at e;cases e)]
    exact e
   refine ⟨by rw [List.length_append,List.length_append,t4.1];rfl,fun i' p k h1 h2=> ?_⟩
   by_cases lt:i'<as.length
   ·rw [List.getElem?_append_left lt] at h1
    rw [List.getElem?_append_left (by rw [←t4.1];exact lt)] at h2
    obtain ⟨z',e1,e2⟩:=t4.2 i' p k h1 h2
    exact ⟨z',e1,off _ _ (s6 _ _ (s5 _ _ e2))⟩
   ·rw [List.getElem?_append_right (by omega)] at h1
    rw [List.getElem?_append_right (by rw [←t4.1];omega),←t4.1] at h2
    have e0:i' - as.length=0:=by
     have:=(List.getElem?_eq_some_iff.mp h1).1
     rw [List.length_singleton] at this
     omega
    rw [e0] at h1 h2
    cases h1
    cases h2
    exact ⟨z,by rw [Int.toNat_natCast];exact hz,off _ _ e6⟩
  ·refine zaT tm (skip H5 s5 ?_)
   rw [ci]
   show (zbs z.2.2.2 && _)=false
   rw [Bool.not_eq_true] at tm
   rw [tm,Bool.false_and]
 ·obtain ⟨s4,g4,as,x4,x5,x6,f4,t4,al,rfl⟩:=hv
  open_k0
  refine q lf as H4 nlf s4 f4 ?_
  have uo:zbQ cs:=by rw [hcs,zcE];exact ho.take _
  have sd:=(zcI cs uo cs.length (Nat.le_refl _)).1
  rw [List.take_length] at sd
  have:zaD zs mo=zdv cs (zaO cs) zs.length:=by
   unfold zaD
   rw [←hcs,sd,csl,zgQ csl zs.length ml]
  rw [this]
  exact t4
def zik (H:Hp) (f:Int) (dy:Bool) (c:Int) (v:Option V):Option Tm→Prop
 |none=>v=none
 |some t=> ∃q pr,v=some (.ref q)∧H q=some (.tup [.ref pr, .ref t.2.1])∧H pr=some (.tup [.int (cntF f dy c t.2.2.2), .int (zaA t.2.2.2), .int t.2.2.1])
theorem zik.tup {H H':Hp} {f:Int} {dy:Bool} {c:Int} {v:Option V} (k: ∀p xs,H p=some (.tup xs)→H' p=some (.tup xs)): ∀{b:Option Tm},zik H f dy c v b→zik H' f dy c v b
 |none,h=>h
 |some _,⟨q,pr,h1,h2,h3⟩=>⟨q,pr,h1,k _ _ h2,k _ _ h3⟩
def ziR:Nat→List Nat
 |0=> [112,108,97,110]
 |1=> [115,101,97,116,115]
 |_=> [119,111,114,100]
def zkK (kd:Nat):Key:=Sum.inr (SL (ziR kd))
theorem zkL {i j:Nat} (hi:i<3) (hj:j<3) (h: ¬i=j): ¬ziR i=ziR j:=by
 match i,j,hi,hj,h with
 |0,0,_,_,h=>exact absurd rfl h
 |1,1,_,_,h=>exact absurd rfl h
 |2,2,_,_,h=>exact absurd rfl h
 |0,1,_,_,_=>decide
 |0,2,_,_,_=>decide
 |1,0,_,_,_=>decide
 |1,2,_,_,_=>decide
 |2,0,_,_,_=>decide
 |2,1,_,_,_=>decide
theorem zkM {i j:Nat} (hi:i<3) (hj:j<3) (h: ¬i=j): ¬zkK i=zkK j:=fun z=>zkL hi hj h (by
 have:=Sum.inr.inj z
 rwa [za6] at this)
theorem zmd {ch:Ch} (h:zbs ch=true) (w4: ∀w d,ch= .word w d→w<4):chK ch<3∧((chK ch=0∧chW ch= [112,108,97,110])∨(chK ch=1∧chW ch= [115,101,97,116,115])∨(chK ch=2∧chW ch≠ [112,108,97,110]∧chW ch≠ [115,101,97,116,115])):=by
 cases ch with
 |plan d nm=>exact ⟨by show 0<3;decide, .inl ⟨rfl,rfl⟩⟩
 |seats d n=>exact ⟨by show 1<3;decide, .inr (.inl ⟨rfl,rfl⟩)⟩
 |word w d=>
  refine ⟨by show 2<3;decide, .inr (.inr ⟨rfl,?_⟩)⟩
  show zcD w≠_∧zcD w≠_
  rcases zfg (w4 w d rfl) with ⟨e,_⟩|⟨e,_⟩|⟨e,_⟩|⟨e,_⟩<;>rw [e]<;>decide
 |undo k=>cases h
 |grant k=>cases h
 |back=>cases h
theorem zgo {ch:Ch} (h:zbs ch=true):(chK ch=0→ ∃d nm,ch= .plan d nm)∧(chK ch=1→ ∃d n,ch= .seats d n)∧(chK ch=2→ ∃w d,ch= .word w d):=by
 cases ch with
 |plan d nm=>exact ⟨fun _=>⟨d,nm,rfl⟩,(fun z=>by cases z),(fun z=>by cases z)⟩
 |seats d n=>exact ⟨(fun z=>by cases z),fun _=>⟨d,n,rfl⟩,(fun z=>by cases z)⟩
 |word w d=>exact ⟨(fun z=>by cases z),(fun z=>by cases z),fun _=>⟨w,d,rfl⟩⟩
 |undo k=>cases h
 |grant k=>cases h
 |back=>cases h
theorem zdg {H:Hp} {ld:Addr} {kvs:List (Key×V)} {k:List Nat} {v:Option V} (e:H ld=some (.dK kvs)) (h:zcF kvs (Sum.inr (SL k))=v):zev H ld (.str (SL k)) v:=by
 have:=zev.k (k:=Sum.inr (SL k)) e
 rw [h] at this
 exact this
def zjZ (K:PySem.W.Frag):Sp:=fun vs H Q _=> ∃(pa l la:Addr) (day:Int) (f:Int) (dy:Bool) (c:Int) (ts:List Tm),vs= [.ref pa, .ref l, .int day]∧zcO K H pa la f dy c∧zde K H l f (Cal.beg f dy c 60) ts∧ ∀p o0 o1 o2 H',zao H H'→zd1 f dy c ts day o0 o1 o2→H' p=some (.tup ((stT o0 o1 o2).map sv))→Q (.ref p) H'
theorem sc_1a:FnScope ["_law_account_here","_law_terms","_law_day_here","_law_best","_law_number","_law_change_here","_law_since","_law_sort","_law_rank","_law_found"] ["_law_account_here","_law_terms","_law_day_here"] (zap s_1a):=⟨rfl,rfl,rfl,by decide+kernel,rfl,by decide+kernel,by decide+kernel⟩
theorem ok_1a (T:Txt w K mg t):FnOk P w K mg base (CXE P w) 7 t.a_1a t.d_1a ["_law_account_here","_law_terms","_law_day_here"] (zjZ K):=by
 refine T.fn_1a.okX sc_1a (fun vs H Q E h=> ?_) (fun cdv A outer s H vs Q E L hr h=> ?_)
 ·obtain ⟨pa,l,la,day,f,dy,c,ts,rfl,ha,ht,q⟩:=h
  rfl
 obtain ⟨pa,l,la,day,f,dy,c,ts,rfl,ha,ht,q⟩:=h
 have nd:=sc_1a.nd
 refine ⟨_,(zad (zan (i:=3) nd rfl (Or.inl rfl) zgM) (zad (zbO (by passes_own) rfl (zbu (pv 1)) (zbi (n:=2) rfl (zal (zaj (i:=4) nd rfl (Or.inl rfl)) (zal (zaj (i:=5) nd rfl (Or.inl rfl)) zaV))) (zad (zan (i:=6) nd rfl (Or.inl rfl) (zaq zas (pv 5) zac (fun _ _=>rfl))) (zad (zc3 (zaM (zar zbv (zaq zas (pv 5) zac (fun _ _=>rfl)) (zax st_9) (zat _)) (zaf (zan (i:=6) nd rfl (Or.inl rfl) (zaq zas (zag L.toLv (ok_08 T) (hr.mono (by decide)) (by rfl) T.mg_08 T.fn_08.kp T.b_08 .nil (zaa (zaq zas (pv 0) zac (fun _ _=>rfl)) (zaa (zaq zas (pv 0) zac (fun _ _=>rfl)) (zaa (pv 6) zae zab) zak) zak)) zac (fun _ _=>rfl)))) zaz)) (zad (zan (i:=7) nd rfl (Or.inl rfl) (zax st_23)) (zad (zc3 (zaM (zdS (zar zbv (zaq zas (pv 5) zac (fun _ _=>rfl)) (zax st_11) (zat _)) (zc2 (zar zbv (zaq zas (pv 5) zac (fun _ _=>rfl)) (zax st_12) (zat _)))).pt (zaf (zan (i:=7) nd rfl (Or.inl rfl) (zaq zas (pv 5) zac (fun _ _=>rfl)))) zaz)) (zad (zan (i:=8) nd rfl (Or.inl rfl) (zaJ (zaa (pv 6) (zaa (zaq zas (pv 5) zac (fun _ _=>rfl)) (zaa (pv 4) zae zab) zak) zab))) (zaf (zaM (zdj (zar zfu (pv 6) (pv 2) (zat _)) (zcV (zdS (zf1 (ziB (zdr hr) (pv 7) (pv 3))) (zc2 (zar (zlq hr) (zaq zas (zef (zdr hr) (pv 3) (pv 7) (fun _ _=>rfl)) zac (fun _ _=>rfl)) (pv 8) (zat _)))).pt)).pt (zaf (zh2 (zdr hr) (pv 3) (pv 7) (zaJ (zaa (pv 8) (zaa (pv 5) zae zab) zab)) rfl)) zaz)))))))) (zad (zan (i:=9) nd rfl (Or.inl rfl) (zbg (zaa zeN (zaa zac (zaa (zax st_10) zae zah) zah) zah))) (zad (zc3 (zaM (zf1 (zf9 (zdr hr) (zax st_11) (pv 3))) (zaf (zby (zaq zhe (zaq zas (zef (zdr hr) (pv 3) (zax st_11) (fun _ _=>rfl)) zac (fun _ _=>rfl)) zac (fun _ _=>rfl)) (zf2 (pv 9) zac zd5))) zaz)) (zad (zc3 (zaM (zf1 (zf9 (zdr hr) (zax st_12) (pv 3))) (zaf (zby (zaq zhe (zaq zas (zef (zdr hr) (pv 3) (zax st_12) (fun _ _=>rfl)) zac (fun _ _=>rfl)) zac (fun _ _=>rfl)) (zf2 (pv 9) zac zd5))) zaz)) (zad (zc3 (zaM (zf1 (zf9 (zdr hr) (zax st_23) (pv 3))) (zaf (zby (zef (zdr hr) (zkn (zeg (zax st_20) (zax st_24) (zeg (zax st_21) (zax st_10) (zeg (zax st_22) (zax st_25) (zeg (zax st_9) (zax st_25) zkm)))) rfl rfl (by simp) (by simp)) (zaq zhe (zaq zas (zef (zdr hr) (pv 3) (zax st_23) (fun _ _=>rfl)) zac (fun _ _=>rfl)) zac (fun _ _=>rfl)) (fun _ _=>rfl)) (zf2 (pv 9) zac zd5))) zaz)) (zaf (zaw (zaJ (zaa (zaq zaI (pv 9) zac (fun _ _=>rfl)) (zaa (zaq zaI (pv 9) zac (fun _ _=>rfl)) (zaa (zaq zaI (pv 9) zac (fun _ _=>rfl)) zae zak) zak) zak)))))))))),?_⟩
 obtain ⟨el,n64,h3,hn⟩:=id ht
 obtain ⟨pc,f0,f1,hc,ep⟩:=id ha
 open_k0
 intro ld H0 hld s0 e0
 have el0:=s0 _ _ el
 ((try dsimp only);refine zbX fun R hR=> ?_;lge_open0)
 refine ⟨⟨_,SqL.of el0⟩,hR _ _ ?_⟩
 clear hR
 obtain ⟨Pv,hPv⟩: ∃Pv:Nat→St→Hp→Prop,Pv=fun i σ1 H7=>zao H H7∧ ∃(b:Nat→Option Tm) (kvs:List (Key×V)) (x4 x5 x6 x7 x8:Option V),H7 ld=some (.dK kvs)∧kvs.length≤i∧(∀kd,kd<3→zik H7 f dy c (zcF kvs (zkK kd)) (b kd)∧Bst ((ts.take i).map (rtT f dy c)) day kd ((b kd).map (rtT f dy c))∧ ∀t,b kd=some t→t∈ts.take i)∧σ1= [some (.ref pa),some (.ref l),some (.int day),some (.ref ld),x4,x5,x6,x7,x8,none]:=⟨_,rfl⟩
 refine zcz (xs:=ts.map fun t=>V.ref t.1) Pv ?_ (fun _ _ _ _ h=>by rw [hPv] at h;exact SqL.of (h.1 _ _ el)) (fun i x σ1 H7 hx h=> ?_) (fun σ1 H7 h=> ?_)
 ·rw [hPv]
  exact ⟨s0,fun _=>none, [],_,_,_,_,_,e0,Nat.le_refl _,fun kd _=>⟨rfl,(fun t h=>by rw [List.take_zero] at h;cases h),(fun _ h=>nomatch h)⟩,rfl⟩
 ·rw [hPv] at h
  obtain ⟨s7,b,kvs,x4,x5,x6,x7,x8,ed,kl,hb,rfl⟩:=h
  obtain ⟨u,hz,rfl⟩: ∃u,ts[i]? =some u∧x= .ref u.1:=by
   rw [List.getElem?_map] at hx
   obtain ⟨u,e,rfl⟩:=Option.map_eq_some_iff.mp hx
   exact ⟨u,e,rfl⟩
  obtain ⟨⟨z1,z2⟩,zn,tb⟩:=h3 u (List.mem_of_getElem? hz)
  obtain ⟨r,er⟩:=zcP u.2.2.2 tb.1
  have z27:=s7.sqT z2
  have z27':=z27
  rw [er] at z27'
  have lw:=zgX tb.1 tb.2.2.2
  open_k0
  refine ⟨u.1,_,rfl,SqT.of (s7 _ _ z1),rfl,?_⟩
  open_k0
  refine ixT z27' (zb7 _ _ _) ?_
  obtain ⟨R,hR⟩: ∃R:St→Hp→Prop,R=fun σ' H'=>zao H7 H'∧σ'= [some (.ref pa),some (.ref l),some (.int day),some (.ref ld),some (.int u.2.2.1),some (.ref u.2.1),some (.int (cntF f dy c u.2.2.2)),x7,x8,none]:=⟨_,rfl⟩
  refine ⟨R,?_,fun σ8 H8 h8=> ?_⟩
  ·open_k0
   refine ixT z27' (zbR _ _) ⟨rfl,?_⟩
   have d0:=tb.2.1
   have d1:=tb.2.2.1
   by_cases e:chW u.2.2.2= [108,97,115,116]
   ·have hT:=SqT.of (K:=K) (s7 _ _ ep)
    refine zbr (by rw [e]) (ixT hT (zb7 _ _ _) (ixT hT (zdw _ _ _ _) ⟨f,pc,dy,c,_,rfl,f0,f1,hc.same s7,fun k k0 k1 a1 a2 p1 H1 s1 e1=>ixT (SqT.of e1) (zdw _ _ _ _) ?_,fun z=>by omega,fun z=>by omega⟩))
    rw [hR]
    exact ⟨s1,by rw [show cntF f dy c u.2.2.2=Cal.beg f dy c (k+1) from by unfold cntF;rw [if_pos (lw.mp e)];exact zjJ f0 f1 hc.2 k0 k1 a1 a2]⟩
   ·refine zaT (zbo e) ?_
    rw [hR]
    exact ⟨zao.refl _,by rw [show cntF f dy c u.2.2.2=zaA u.2.2.2 from by unfold cntF;rw [if_neg fun z=>e (lw.mpr z)]]⟩
  rw [hR] at h8
  obtain ⟨s8,rfl⟩:=h8
  clear hR
  open_k0
  obtain ⟨k3,kk⟩:=zmd tb.1 tb.2.2.2
  have z28':=s8.sqT z27'
  obtain ⟨R2,hR2⟩: ∃R2:St→Hp→Prop,R2=fun σ' H'=>zao H8 H'∧σ'= [some (.ref pa),some (.ref l),some (.int day),some (.ref ld),some (.int u.2.2.1),some (.ref u.2.1),some (.int (cntF f dy c u.2.2.2)),some (.str (SL (ziR (chK u.2.2.2)))),x8,none]:=⟨_,rfl⟩
  refine ⟨R2,?_,fun σ9 H9 h9=> ?_⟩
  ·open_k0
   refine ixT z28' (zbR _ _) ⟨rfl,?_⟩
   rcases kk with ⟨k,e⟩|⟨k,e⟩|⟨k,e,e'⟩
   ·refine zbr (by rw [e]) (ixT z28' (zbR _ _) ?_)
    rw [hR2,e,k]
    exact ⟨zao.refl _,rfl⟩
   ·refine zaT (zbo (by rw [e];decide)) (ixT z28' (zbR _ _) ⟨rfl,zbr (by rw [e]) (ixT z28' (zbR _ _) ?_)⟩)
    rw [hR2,e,k]
    exact ⟨zao.refl _,rfl⟩
   ·refine zaT (zbo e) (ixT z28' (zbR _ _) ⟨rfl,zaT (zbo e') ?_⟩)
    rw [hR2,k]
    exact ⟨zao.refl _,rfl⟩
  rw [hR2] at h9
  obtain ⟨s9,rfl⟩:=h9
  clear hR2
  open_k0
  refine ixT (s9.sqT z28') (zb7 _ _ _) (fun pr H10 hpr s10 e10=> ?_)
  have s710:=(s8.trans s9).trans s10
  obtain ⟨σ',hσ'⟩: ∃σ':St,σ'= [some (.ref pa),some (.ref l),some (.int day),some (.ref ld),some (.int u.2.2.1),some (.ref u.2.1),some (.int (cntF f dy c u.2.2.2)),some (.str (SL (ziR (chK u.2.2.2)))),some (.ref pr),none]:=⟨_,rfl⟩
  dsimp only
  rw [←hσ']
  have ed10:=s710 _ _ ed
  have tk:(ts.take (i+1)).map (rtT f dy c)=(ts.take i).map (rtT f dy c)++ [rtT f dy c u]:=by rw [List.take_add_one,hz,Option.toList_some,List.map_append];rfl
  have tm: ∀t,t∈ts.take i→t∈ts.take (i+1):=fun t h=>by rw [List.take_add_one];exact List.mem_append_left _ h
  have tu:u∈ts.take (i+1):=by rw [List.take_add_one,hz];exact List.mem_append_right _ List.mem_cons_self
  have ne: ∀{kd:Nat},¬kd=chK u.2.2.2→(rtT f dy c u).1=kd→day<(rtT f dy c u).2.1:=fun h e=>absurd e.symm h
  obtain ⟨ck,bk,mk⟩:=hb (chK u.2.2.2) k3
  have stay: ∀H',zao H10 H'→Bst ((ts.take i).map (rtT f dy c)++ [rtT f dy c u]) day (chK u.2.2.2) ((b (chK u.2.2.2)).map (rtT f dy c))→Pv (i+1) σ' H':=fun H' s' hb'=>by
   have sa:=s710.trans s'
   rw [hPv,hσ']
   refine ⟨s7.trans sa,b,kvs,_,_,_,_,_,sa _ _ ed,by omega,fun kd hk=>⟨(hb kd hk).1.tup fun p xs h=>sa _ _ h,?_,fun t h=>tm t ((hb kd hk).2.2 t h)⟩,rfl⟩
   rw [tk]
   by_cases z:kd=chK u.2.2.2
   ·rw [z];exact hb'
   ·exact (hb kd hk).2.1.skip (ne z)
  have put: ∀Ha,zao H10 Ha→Bst ((ts.take i).map (rtT f dy c)++ [rtT f dy c u]) day (chK u.2.2.2) (some (rtT f dy c u))→New Ha (.tup [.ref pr, .ref u.2.1]) (fun v H1=> ∃x,zhm H1 ld (.str (SL (ziR (chK u.2.2.2)))) v x∧Pv (i+1) σ' x):=fun Ha sa hb' pn H' _ s' e'=>by
   have sb:=s710.trans (sa.trans s')
   have edb:=sb _ _ ed
   refine ⟨_,zhm.k (k:=zkK (chK u.2.2.2)) edb (zc7 (by have:=(List.getElem?_eq_some_iff.mp hz).1;omega)),?_⟩
   have off: ∀p xs kvs',H' p=some (.tup xs)→upd H' ld (.dK kvs') p=some (.tup xs):=fun p xs kvs' h=>by
    rw [zau (fun z=>by rw [z,edb] at h;cases h)]
    exact h
   rw [hPv,hσ']
   refine ⟨zc8 (s7.trans sb) hld,fun kd=>if kd=chK u.2.2.2 then some u else b kd,_,_,_,_,_,_,zay,Nat.le_trans (zcY ..) (by omega),fun kd hk=> ?_,rfl⟩
   by_cases z:kd=chK u.2.2.2
   ·subst z
    dsimp only
    rw [if_pos rfl,tk,zgI,if_pos rfl]
    exact ⟨⟨pn,pr,rfl,off _ _ _ e',off _ _ _ ((sa.trans s') _ _ e10)⟩,hb',fun t h=>by cases h;exact tu⟩
   ·dsimp only
    rw [if_neg z,tk,zgI,if_neg (zkM hk k3 z)]
    exact ⟨(hb kd hk).1.tup fun p xs h=>off _ _ _ (sb _ _ h),(hb kd hk).2.1.skip (ne z),fun t h=>tm t ((hb kd hk).2.2 t h)⟩
  refine zbY (fun le=> ?_) (fun nle=>stay H10 (zao.refl _) (bk.skip fun _=>by show day<cntF f dy c u.2.2.2;omega))
  have le':(rtT f dy c u).2.1≤day:=le
  cases hbk:b (chK u.2.2.2) with
  |none=>
   rw [hbk] at ck bk
   exact ⟨none,zdg ed10 ck,zbr rfl (put _ (zao.refl _) (bk.last rfl le' (fun t h=>by cases h)))⟩
  |some t=>
   have tin:=mk t hbk
   rw [hbk] at ck bk stay
   obtain ⟨q',p',ck1,ck2,ck3⟩:=ck
   have g:=s710 _ _ ck2
   have g':=s710 _ _ ck3
   have nn:t.2.2.1≠u.2.2.1:=by
    obtain ⟨j,hj,ej⟩:=List.mem_iff_getElem.mp tin
    rw [List.length_take] at hj
    rw [List.getElem_take] at ej
    obtain ⟨hi',eu⟩:=List.getElem?_eq_some_iff.mp hz
    have:=List.pairwise_iff_getElem.mp hn j i (by omega) hi' (by omega)
    rw [ej,eu] at this
    exact this
   have tt:=h3 t (List.mem_of_mem_take tin)
   have lr:lt3 (cntF f dy c t.2.2.2) (zaA t.2.2.2) t.2.2.1 (cntF f dy c u.2.2.2) (zaA u.2.2.2) u.2.2.1=decide ((rtT f dy c t).2.2.1<(rtT f dy c u).2.2.1):=by
    have b6:=Cal.beg_range (k:=60) f0 f1 hc.2 (by decide) (by decide)
    obtain ⟨_,d1,d2,_⟩:=tb
    obtain ⟨_,tn,_,d3,d4,_⟩:=tt
    refine decide_eq_decide.mpr ?_
    show _↔(cntF f dy c t.2.2.2*4000000+zaA t.2.2.2)*64+t.2.2.1<(cntF f dy c u.2.2.2*4000000+zaA u.2.2.2)*64+u.2.2.1
    generalize cntF f dy c t.2.2.2=x1 at*
    generalize cntF f dy c u.2.2.2=x2 at*
    omega
   refine ⟨some (.ref q'),zdg ed10 ck1,zaT (fun z=>by cases z) ⟨_,zdg ed10 ck1,ixT (SqT.of g) (zbR _ _) ⟨p',pr,_,_,_,_,_,_,rfl,rfl,g',e10,fun z=>nn z.2.2,_,rfl,?_⟩⟩⟩
   rw [lr]
   by_cases z:(rtT f dy c t).2.2.1<(rtT f dy c u).2.2.1
   ·exact zbr (decide_eq_true z) (put _ (zao.refl _) (bk.last rfl le' (fun t' h=>by cases h;omega)))
   ·exact zaT (by rw [decide_eq_false z];decide) (stay H10 (zao.refl _) (Bst.stay bk (by omega)))
 ·rw [hPv] at h
  obtain ⟨s7,b,kvs,x4,x5,x6,x7,x8,ed,kl,hb,rfl⟩:=h
  rw [List.length_map,List.take_length] at hb
  open_k0
  intro lf H8 hlf s8 e8
  obtain ⟨c0,k0,m0⟩:=hb 0 (by decide)
  obtain ⟨c1,k1,m1⟩:=hb 1 (by decide)
  obtain ⟨c2,k2,m2⟩:=hb 2 (by decide)
  have nlf:H7 lf=none:=hlf
  have same_of: ∀H',zao H7 H'→ ∀xs,zao H7 (upd H' lf (.lst xs)):=fun H' s xs=>zc8 s nlf
  obtain ⟨σ0,hσ0⟩: ∃σ0:St,σ0= [some (.ref pa),some (.ref l),some (.int day),some (.ref ld),x4,x5,x6,x7,x8,some (.ref lf)]:=⟨_,rfl⟩
  obtain ⟨R,hR⟩: ∃R:V→V→V→St→Hp→Prop,R=fun v0 v1 v2 σ' H'=>zao H7 H'∧H' lf=some (.lst [v0,v1,v2])∧σ'=σ0:=⟨_,rfl⟩
  refine ⟨R (sv (stV ((b 0).map (rtT f dy c)) .non)) (.int 1) (.str (SL [111,110])),?_,fun σ9 H9 h9=> ?_⟩
  ·open_k0
   cases hb0:b 0 with
   |none=>
    rw [hb0] at c0
    refine ⟨none,zdg (s8 _ _ ed) c0,zaT (by decide) ?_⟩
    rw [hR]
    exact ⟨s8,e8,hσ0.symm⟩
   |some t=>
    rw [hb0] at c0 k0
    obtain ⟨q',p',g1,g2,g3⟩:=c0
    obtain ⟨d,nm,hch⟩:=(zgo (h3 t (m0 t hb0)).2.2.1).1 k0.2.1
    have cs:=(s7.trans s8).sqT (h3 t (m0 t hb0)).1.2
    rw [hch] at cs
    have cs':SqT K H8 t.2.1 [.str (SL [112,108,97,110]), .int d, .str (SL nm)]:=cs
    refine ⟨_,zdg (s8 _ _ ed) g1,zbr rfl ⟨_,zdg (s8 _ _ ed) g1,ixT (SqT.of (s8 _ _ g2)) (zb7 _ _ _) (.inr (.inl (ixT cs' (zdw _ _ _ _) ?_)))⟩⟩
    simp only [zbe,zaU,zbK,zbd,zcx,zbc,zcr,zaS,zbJ,zbb,zbm,zbI,tDc,za4,za5,za3,zbG,zbH,zbl,zbn,za2,zaG,zaH,zcq,List.replicate,Option.join_some,Option.join_none,za6,zcv,zbF,zaR,tSl,zcs,zcp,zcu,slT,zcg,Int.reduceLT,Int.reduceLE,Int.reduceToNat,Int.reduceNeg,Int.reduceAdd,Int.reduceSub,Int.reduceMul,forall_const,zcl,zbC,zcn,zcm,zbM,zbD,zcc,zbq,zbt,zcf,zce,tC,tOp,rI,rI0,tUn,rU,zbE,tB,zci,tOr,zcj,zbA,zck,zbB,tIf,zbx,zch,za9,zbk,tCB,zba,rEq,rNe,zaX,zaY,zaZ,za0,za1,zbj,zco,ipI,L2.start,List.map_cons,List.map_nil,List.length_cons,List.length_nil,List.cons_append,List.nil_append,List.append_nil,List.replicate_succ,List.replicate_zero,Nat.reduceAdd,Nat.reduceSub,List.getElem?_cons_zero,List.getElem?_cons_succ,List.set_cons_zero,List.set_cons_succ,Option.some.injEq,V.int.injEq,V.bl.injEq,V.ref.injEq,V.str.injEq,exists_eq_left',exists_eq_left,exists_eq',exists_and_left,List.cons.injEq,and_true,true_and,and_self,and_assoc,decide_eq_true_eq,if_true,if_false,Bool.true_eq_false,Bool.false_eq_true,Bool.not_eq_true',Bool.not_true,Bool.not_false,decide_eq_false_iff_not,ite_true,ite_false,reduceCtorEq,false_and,exists_false,false_or,or_false,and_false,zj6,Nat.reduceLeDiff]
    refine ⟨lf,_,0,0,rfl,rfl,e8,rfl,?_⟩
    rw [hR,show stV ((some t).map (rtT f dy c)) .non= .str nm from by show zem t.2.2.2=_;rw [hch];rfl]
    exact ⟨same_of _ s8 _,zay,hσ0.symm⟩
  rw [hR] at h9
  obtain ⟨s9,e9,rfl⟩:=h9
  rw [hσ0]
  open_k0
  refine ⟨R (sv (stV ((b 0).map (rtT f dy c)) .non)) (sv (stV ((b 1).map (rtT f dy c)) (.int 1))) (.str (SL [111,110])),?_,fun σ10 H10 h10=> ?_⟩
  ·open_k0
   cases hb1:b 1 with
   |none=>
    rw [hb1] at c1
    refine ⟨none,zdg (s9 _ _ ed) c1,zaT (by decide) ?_⟩
    rw [hR]
    exact ⟨s9,e9,hσ0.symm⟩
   |some t=>
    rw [hb1] at c1 k1
    obtain ⟨q',p',g1,g2,g3⟩:=c1
    obtain ⟨d,n,hch⟩:=(zgo (h3 t (m1 t hb1)).2.2.1).2.1 k1.2.1
    have cs:=(s7.trans s9).sqT (h3 t (m1 t hb1)).1.2
    rw [hch] at cs
    have cs':SqT K H9 t.2.1 [.str (SL [115,101,97,116,115]), .int d, .int n]:=cs
    refine ⟨_,zdg (s9 _ _ ed) g1,zbr rfl ⟨_,zdg (s9 _ _ ed) g1,ixT (SqT.of (s9 _ _ g2)) (zb7 _ _ _) (.inr (.inl (ixT cs' (zdw _ _ _ _) ?_)))⟩⟩
    simp only [zbe,zaU,zbK,zbd,zcx,zbc,zcr,zaS,zbJ,zbb,zbm,zbI,tDc,za4,za5,za3,zbG,zbH,zbl,zbn,za2,zaG,zaH,zcq,List.replicate,Option.join_some,Option.join_none,za6,zcv,zbF,zaR,tSl,zcs,zcp,zcu,slT,zcg,Int.reduceLT,Int.reduceLE,Int.reduceToNat,Int.reduceNeg,Int.reduceAdd,Int.reduceSub,Int.reduceMul,forall_const,zcl,zbC,zcn,zcm,zbM,zbD,zcc,zbq,zbt,zcf,zce,tC,tOp,rI,rI0,tUn,rU,zbE,tB,zci,tOr,zcj,zbA,zck,zbB,tIf,zbx,zch,za9,zbk,tCB,zba,rEq,rNe,zaX,zaY,zaZ,za0,za1,zbj,zco,ipI,L2.start,List.map_cons,List.map_nil,List.length_cons,List.length_nil,List.cons_append,List.nil_append,List.append_nil,List.replicate_succ,List.replicate_zero,Nat.reduceAdd,Nat.reduceSub,List.getElem?_cons_zero,List.getElem?_cons_succ,List.set_cons_zero,List.set_cons_succ,Option.some.injEq,V.int.injEq,V.bl.injEq,V.ref.injEq,V.str.injEq,exists_eq_left',exists_eq_left,exists_eq',exists_and_left,List.cons.injEq,and_true,true_and,and_self,and_assoc,decide_eq_true_eq,if_true,if_false,Bool.true_eq_false,Bool.false_eq_true,Bool.not_eq_true',Bool.not_true,Bool.not_false,decide_eq_false_iff_not,ite_true,ite_false,reduceCtorEq,false_and,exists_false,false_or,or_false,and_false,zj6,Nat.reduceLeDiff]
    refine ⟨lf,_,1,1,rfl,rfl,e9,rfl,?_⟩
    rw [hR,show stV ((some t).map (rtT f dy c)) (.int 1)= .int n from by show zem t.2.2.2=_;rw [hch];rfl]
    exact ⟨same_of _ s9 _,zay,hσ0.symm⟩
  rw [hR] at h10
  obtain ⟨s10,e10,rfl⟩:=h10
  rw [hσ0]
  open_k0
  refine ⟨R (sv (stV ((b 0).map (rtT f dy c)) .non)) (sv (stV ((b 1).map (rtT f dy c)) (.int 1))) (sv (stV ((b 2).map (rtT f dy c)) on')),?_,fun σ11 H11 h11=> ?_⟩
  ·open_k0
   cases hb2:b 2 with
   |none=>
    rw [hb2] at c2
    refine ⟨none,zdg (s10 _ _ ed) c2,zaT (by decide) ?_⟩
    rw [hR]
    exact ⟨s10,e10,hσ0.symm⟩
   |some t=>
    rw [hb2] at c2 k2
    obtain ⟨q',p',g1,g2,g3⟩:=c2
    have tt:=(h3 t (m2 t hb2)).2.2
    obtain ⟨wi,d,hch⟩:=(zgo tt.1).2.2 k2.2.1
    have w4:=tt.2.2.2 wi d hch
    have cs:=(s7.trans s10).sqT (h3 t (m2 t hb2)).1.2
    rw [hch] at cs
    have cs':SqT K H10 t.2.1 [.str (SL (zcD wi)), .int d]:=cs
    refine ⟨_,zdg (s10 _ _ ed) g1,zbr rfl ?_⟩
    simp only [zbe,zaU,zbK,zbd,zcx,zbc,zcr,zaS,zbJ,zbb,zbm,zbI,tDc,za4,za5,za3,zbG,zbH,zbl,zbn,za2,zaG,zaH,zcq,List.replicate,Option.join_some,Option.join_none,za6,zcv,zbF,zaR,tSl,zcs,zcp,zcu,slT,zcg,Int.reduceLT,Int.reduceLE,Int.reduceToNat,Int.reduceNeg,Int.reduceAdd,Int.reduceSub,Int.reduceMul,forall_const,zcl,zbC,zcn,zcm,zbM,zbD,zcc,zbq,zbt,zcf,zce,tC,tOp,rI,rI0,tUn,rU,zbE,tB,zci,tOr,zcj,zbA,zck,zbB,tIf,zbx,zch,za9,zbk,tCB,zba,rEq,rNe,zaX,zaY,zaZ,za0,za1,zbj,zco,ipI,L2.start,List.map_cons,List.map_nil,List.length_cons,List.length_nil,List.cons_append,List.nil_append,List.append_nil,List.replicate_succ,List.replicate_zero,Nat.reduceAdd,Nat.reduceSub,List.getElem?_cons_zero,List.getElem?_cons_succ,List.set_cons_zero,List.set_cons_succ,Option.some.injEq,V.int.injEq,V.bl.injEq,V.ref.injEq,V.str.injEq,exists_eq_left',exists_eq_left,exists_eq',exists_and_left,List.cons.injEq,and_true,true_and,and_self,and_assoc,decide_eq_true_eq,if_true,if_false,Bool.true_eq_false,Bool.false_eq_true,Bool.not_eq_true',Bool.not_true,Bool.not_false,decide_eq_false_iff_not,ite_true,ite_false,reduceCtorEq,false_and,exists_false,false_or,or_false,and_false,zkW,zga,Nat.reduceLeDiff]
    intro l4 hl4
    refine ⟨zay,kv4,rfl,by decide,?_⟩
    rw [km4]
    have s12:zao H10 (upd (upd H10 l4 (.dK [])) l4 (.dK kv4)):=zc8 (zcB hl4 _) hl4
    refine ⟨_,zdg (s12 _ _ (s10 _ _ ed)) g1,ixT (SqT.of (s12 _ _ (s10 _ _ g2))) (zb7 _ _ _) (.inr (.inl (ixT (s12.sqT cs') (zbR _ _) ⟨_,zdg zay (zl7 w4),?_⟩)))⟩
    simp only [zbe,zaU,zbK,zbd,zcx,zbc,zcr,zaS,zbJ,zbb,zbm,zbI,tDc,za4,za5,za3,zbG,zbH,zbl,zbn,za2,zaG,zaH,zcq,List.replicate,Option.join_some,Option.join_none,za6,zcv,zbF,zaR,tSl,zcs,zcp,zcu,slT,zcg,Int.reduceLT,Int.reduceLE,Int.reduceToNat,Int.reduceNeg,Int.reduceAdd,Int.reduceSub,Int.reduceMul,forall_const,zcl,zbC,zcn,zcm,zbM,zbD,zcc,zbq,zbt,zcf,zce,tC,tOp,rI,rI0,tUn,rU,zbE,tB,zci,tOr,zcj,zbA,zck,zbB,tIf,zbx,zch,za9,zbk,tCB,zba,rEq,rNe,zaX,zaY,zaZ,za0,za1,zbj,zco,ipI,L2.start,List.map_cons,List.map_nil,List.length_cons,List.length_nil,List.cons_append,List.nil_append,List.append_nil,List.replicate_succ,List.replicate_zero,Nat.reduceAdd,Nat.reduceSub,List.getElem?_cons_zero,List.getElem?_cons_succ,List.set_cons_zero,List.set_cons_succ,Option.some.injEq,V.int.injEq,V.bl.injEq,V.ref.injEq,V.str.injEq,exists_eq_left',exists_eq_left,exists_eq',exists_and_left,List.cons.injEq,and_true,true_and,and_self,and_assoc,decide_eq_true_eq,if_true,if_false,Bool.true_eq_false,Bool.false_eq_true,Bool.not_eq_true',Bool.not_true,Bool.not_false,decide_eq_false_iff_not,ite_true,ite_false,reduceCtorEq,false_and,exists_false,false_or,or_false,and_false,zj6,Nat.reduceLeDiff]
    refine ⟨lf,_,2,2,rfl,rfl,s12 _ _ e10,rfl,?_⟩
    rw [hR,show stV ((some t).map (rtT f dy c)) on'= .str (zeE wi) from by show zem t.2.2.2=_;rw [hch];rfl]
    exact ⟨same_of _ (s10.trans s12) _,zay,hσ0.symm⟩
  rw [hR] at h11
  obtain ⟨s11,e11,rfl⟩:=h11
  rw [hσ0]
  open_k0
  exact ixL (SqL.of e11) (zbR _ _) (ixL (SqL.of e11) (zb7 _ _ _) (ixL (SqL.of e11) (zdw _ _ _ _) fun p H12 _ s12 e12=>q p _ _ _ H12 ((s7.trans s11).trans s12) ⟨k0,k1,k2⟩ e12))
theorem zdf.z0 {K:PySem.W.Frag} {H:Hp} {pa l:Addr} {f:Int} {dy:Bool} {c:Int} {zs:List (V×Pl)} (h:zdf K H pa l f dy c zs) {nm:List Nat} (hn:nm∈zs.map fun z=>z.2.1): ∃z0,(zs.filter fun z=>decide (z.2.1=nm))[0]? =some z0∧z0.2.2=((plF zs nm).1,(plF zs nm).2)∧(0≤(plF zs nm).1∧(plF zs nm).1<10 ^ 30)∧0≤(plF zs nm).2∧(plF zs nm).2≤400:=by
 obtain ⟨z,hz,e⟩:=List.mem_map.mp hn
 have hm:z∈zs.filter fun z=>decide (z.2.1=nm):=List.mem_filter.mpr ⟨hz,decide_eq_true e⟩
 have hl:=List.length_pos_of_mem hm
 have e0:(zs.filter fun z=>decide (z.2.1=nm))[0]? =some ((zs.filter fun z=>decide (z.2.1=nm))[0]'hl):=List.getElem?_eq_getElem _
 have ef:plF zs nm=((zs.filter fun z=>decide (z.2.1=nm))[0]'hl).2.2:=by unfold plF;rw [e0];rfl
 have b:=h.2.2.2.2.2 _ (List.mem_filter.mp (List.getElem_mem hl)).1
 rw [←ef] at b
 exact ⟨_,e0,ef.symm,b.1,b.2⟩
def zlD (K:PySem.W.Frag):Sp:=fun vs H Q _=> ∃(pa l la:Addr) (f:Int) (dy:Bool) (c d k:Int) (zs:List (V×Pl)) (ts:List Tm),vs= [.ref pa, .ref l, .int d]∧zdf K H pa la f dy c zs∧zde K H l f (Cal.beg f dy c 60) ts∧(∀t∈ts,TmX zs t.2.2.2)∧0≤k∧k<60∧Cal.beg f dy c k≤d∧d<Cal.beg f dy c (k+1)∧ ∀o0 o1 o2 H',zao H H'→zd1 f dy c ts d o0 o1 o2→Q (.int (zcQ zs (Cal.beg f dy c k) (Cal.beg f dy c (k+1)) d (d+1) (stT o0 o1 o2))) H'
theorem sc_1b:FnScope ["_law_account_here","_law_terms","_law_day_here","_law_plan","_law_seats","_law_word","_law_k","_law_begin","_law_end","_law_price","_law_count","_law_ahead"] ["_law_account_here","_law_terms","_law_day_here"] (zap s_1b):=⟨rfl,rfl,rfl,by decide+kernel,rfl,by decide+kernel,by decide+kernel⟩
theorem ok_1b (T:Txt w K mg t):FnOk P w K mg base (CXE P w) 8 t.a_1b t.d_1b ["_law_account_here","_law_terms","_law_day_here"] (zlD K):=by
 refine T.fn_1b.okX sc_1b (fun vs H Q E h=> ?_) (fun cdv A outer s H vs Q E L hr h=> ?_)
 ·obtain ⟨pa,l,la,f,dy,c,d,k,zs,ts,rfl,hz,ht,hx,k0,k1,a1,a2,q⟩:=h
  rfl
 obtain ⟨pa,l,la,f,dy,c,d,k,zs,ts,rfl,hz,ht,hx,k0,k1,a1,a2,q⟩:=h
 have nd:=sc_1b.nd
 refine ⟨_,(zad (zby (zag L.toLv (ok_1a T) (hr.mono (by decide)) (by rfl) T.mg_1a T.fn_1a.kp T.b_1a .nil (zaa (pv 0) (zaa (pv 1) (zaa (pv 2) zae zab) zab) zab)) (zbi (n:=3) rfl (zal (zaj (i:=3) nd rfl (Or.inr rfl)) (zal (zaj (i:=4) nd rfl (Or.inl rfl)) (zal (zaj (i:=5) nd rfl (Or.inl rfl)) zaV))))) (zad (zaM (zdS (zar zi8 (pv 3) zeN (zat _)) (zc2 (zar zeQ (pv 5) (zax st_10) (zat _)))).pt (zaf (zaw zac)) zaz) (zad (zby (zag L.toLv (ok_08 T) (hr.mono (by decide)) (by rfl) T.mg_08 T.fn_08.kp T.b_08 .nil (zaa (zaq zas (pv 0) zac (fun _ _=>rfl)) (zaa (zaq zas (pv 0) zac (fun _ _=>rfl)) (zaa (pv 2) zae zab) zak) zak)) (zbi (n:=3) rfl (zal (zaj (i:=6) nd rfl (Or.inl rfl)) (zal (zaj (i:=7) nd rfl (Or.inl rfl)) (zal (zaj (i:=8) nd rfl (Or.inl rfl)) zaV))))) (zad (zby (zaq zaI (zcK (n:=3) (N:= ["_law_name","_law_price","_law_count","_law_plan"]) (js:= [3]) (by rfl) rfl rfl (zbu (zaq zas (pv 0) zac (fun _ _=>rfl))) (fun a=>(zbi (n:=3) rfl (zal (zaj (i:=0) (show List.Nodup (["_law_name","_law_price","_law_count","_law_plan"]:List Str) from by decide+kernel) rfl (Or.inl rfl)) (zal (zaj (i:=1) (show List.Nodup (["_law_name","_law_price","_law_count","_law_plan"]:List Str) from by decide+kernel) rfl (Or.inl rfl)) (zal (zaj (i:=2) (show List.Nodup (["_law_name","_law_price","_law_count","_law_plan"]:List Str) from by decide+kernel) rfl (Or.inl rfl)) zaV))))) (fun a=>(zd9 (zar zbv (pv 0) (pv 3) (zat _)))) (fun a=>(zaJ (zaa (pv 1) (zaa (pv 2) zae zab) zab)))) zac (fun _ _=>rfl)) (zbi (n:=2) rfl (zal (zaj (i:=9) nd rfl (Or.inl rfl)) (zal (zaj (i:=10) nd rfl (Or.inl rfl)) zaV)))) (zad (zaM (zar zbv (pv 10) zac (zat _)) (zaf (zan (i:=10) nd rfl (Or.inl rfl) (zai zbP (pv 8) (pv 7)))) zaz) (zad (zan (i:=9) nd rfl (Or.inl rfl) (zai zdO (pv 9) (pv 4))) (zad (zan (i:=11) nd rfl (Or.inl rfl) (zai zec (zai zdO (pv 9) (zai zbP (pv 2) (pv 7))) (pv 10))) (zaf (zaw (zai zbP (zai zec (zai zdO (pv 9) (zai zbP (zai zaE (pv 2) zac) (pv 7))) (pv 10)) (pv 11))))))))))),?_⟩
 obtain ⟨pc,f0,f1,hc,ep⟩:=id hz.1
 open_k0
 refine ⟨pa,l,la,d,f,dy,c,ts,rfl,hz.1,ht,fun p1 o0 o1 o2 H1 s1 so e1=> ?_⟩
 have q0:=q o0 o1 o2
 obtain ⟨d0,st,wd,ed,hd,st0,st1⟩:=st_x (zs:=zs) (fun t h=>(ht.2.2.1 t h).2.2.1) hx so
 rw [ed] at e1 q0
 rcases hd with rfl|⟨nm,rfl,hn⟩
 ·have e1':H1 p1=some (.tup [.non, .int st, .str (SL wd)]):=e1
  refine ⟨p1,_,rfl,SqT.of e1',rfl,?_⟩
  open_k0
  exact q0 H1 s1 so
 have e1':H1 p1=some (.tup [.str (SL nm), .int st, .str (SL wd)]):=e1
 refine ⟨p1,_,rfl,SqT.of e1',rfl,?_⟩
 open_k0
 have q1: ∀H',zao H H'→zd1 f dy c ts d o0 o1 o2→Q (.int (if wd= [111,110] then zfV (plF zs nm).1 (plF zs nm).2 st (Cal.beg f dy c k) (Cal.beg f dy c (k+1)) d (d+1) else 0)) H':=q0
 by_cases on:wd= [111,110]
 ·subst on
  rw [if_pos rfl] at q1
  have hT1:=SqT.of (K:=K) (s1 _ _ ep)
  have bw:=zeo f0 f1 hc.2 k0 k1
  have g0:=Cal.beg_ge (k:=k) f0 f1 hc.2 k0 (by omega)
  have g1:=Cal.beg_le (k:=k+1) (j:=60) f0 f1 hc.2 (by omega) (by omega) (by decide)
  refine zaT (fun z=>z rfl) (ixT hT1 (zb7 _ _ _) (ixT hT1 (zdw _ _ _ _) ⟨f,pc,dy,c,d,rfl,f0,f1,hc.same s1,fun k' k0' k1' a1' a2' p2 H2 s2 e2=> ?_,fun z=>by omega,fun z=>by omega⟩))
  obtain rfl:k'=k:=Cal.beg_one f0 f1 hc.2 k0' k1' k0 k1 a1' a2' a1 a2
  refine ⟨p2,_,rfl,SqT.of e2,rfl,?_⟩
  have s12:=s1.trans s2
  have hz2:=hz.same s12
  obtain ⟨z0,hz0,ez0,pb,cb⟩:=hz.z0 hn
  have el:=hz2.2.1
  have za:=hz2.2.2.1
  simp only [zbe,zaU,zbK,zbd,zcx,zbc,zcr,zaS,zbJ,zbb,zbm,zbI,tDc,za4,za5,za3,zbG,zbH,zbl,zbn,za2,zaG,zaH,zcq,List.replicate,Option.join_some,Option.join_none,za6,zcv,zbF,zaR,tSl,zcs,zcp,zcu,slT,zcg,Int.reduceLT,Int.reduceLE,Int.reduceToNat,Int.reduceNeg,Int.reduceAdd,Int.reduceSub,Int.reduceMul,forall_const,zcl,zbC,zcn,zcm,zbM,zbD,zcc,zbq,zbt,zcf,zce,tC,tOp,rI,rI0,tUn,rU,zbE,tB,zci,tOr,zcj,zbA,zck,zbB,tIf,zbx,zch,za9,zbk,tCB,zba,rEq,rNe,zaX,zaY,zaZ,za0,za1,zbj,zco,ipI,L2.start,List.map_cons,List.map_nil,List.length_cons,List.length_nil,List.cons_append,List.nil_append,List.append_nil,List.replicate_succ,List.replicate_zero,Nat.reduceAdd,Nat.reduceSub,List.getElem?_cons_zero,List.getElem?_cons_succ,List.set_cons_zero,List.set_cons_succ,Option.some.injEq,V.int.injEq,V.bl.injEq,V.ref.injEq,V.str.injEq,exists_eq_left',exists_eq_left,exists_eq',exists_and_left,List.cons.injEq,and_true,true_and,and_self,and_assoc,decide_eq_true_eq,if_true,if_false,Bool.true_eq_false,Bool.false_eq_true,Bool.not_eq_true',Bool.not_true,Bool.not_false,decide_eq_false_iff_not,ite_true,ite_false,reduceCtorEq,false_and,exists_false,false_or,or_false,and_false,zds,zdz,Nat.reduceLeDiff]
  refine ixT (s2.sqT hT1) (zbR _ _) ⟨la,rfl,⟨_,SqL.of el⟩,fun l2 hl2 aa=> ?_⟩
  refine zb0 (fun j xs H5=> ∃as:List Addr,xs=as.map V.ref∧as.length=((zs.take j).filter fun z=>decide (z.2.1=nm)).length∧ ∀(i:Nat) (a:Addr) (z:V×Pl),as[i]? =some a→((zs.take j).filter fun z=>decide (z.2.1=nm))[i]? =some z→H5 a=some (.tup [.int z.2.2.1, .int z.2.2.2])) (zb3 (SqL.of el)) hl2 (by rw [List.length_map];exact za7 (by have:=hz.2.2.2.2.1;omega)) (fun _ _=>⟨[],rfl,rfl,fun i a t h=>by rw [List.getElem?_nil] at h;cases h⟩) (fun j x xs H8 K1 K0 hx sm pv hl k1 k0=> ?_) (fun xs H4 s4 pv _ w4=> ?_)
  ·obtain ⟨z,hzz,rfl⟩: ∃z,zs[j]? =some z∧x=z.1:=by
    rw [List.getElem?_map] at hx
    obtain ⟨u,e,rfl⟩:=Option.map_eq_some_iff.mp hx
    exact ⟨u,e,rfl⟩
   obtain ⟨pz,ez,hT⟩:=za z (List.mem_of_getElem? hzz)
   obtain ⟨as,rfl,al,pa'⟩:=pv
   have fe:(zs.take (j+1)).filter (fun z=>decide (z.2.1=nm))=(zs.take j).filter (fun z=>decide (z.2.1=nm))++ [z].filter (fun z=>decide (z.2.1=nm)):=by rw [List.take_add_one,hzz,Option.toList_some,List.filter_append]
   rw [ez]
   lgec_open0
   refine ⟨pz,_,rfl,sm.sqT hT,rfl,?_⟩
   lgec_open0
   have nl: ∀(Ha:Hp) a xs,zao H8 Ha→Ha a=some (.tup xs)→a≠l2:=fun Ha a xs sa h z=>by rw [z,sa _ _ hl] at h;cases h
   by_cases en:z.2.1=nm
   ·have f1: [z].filter (fun z=>decide (z.2.1=nm))= [z]:=by rw [List.filter_cons_of_pos (by rw [decide_eq_true_eq];exact en)];rfl
    rw [f1] at fe
    refine zbr en ⟨zbU (by decide),fun p H9 hp s9 e9=>k1 _ _ s9 fun H5 h5=>⟨as++ [p],by rw [List.map_append];rfl,by rw [fe,List.length_append,List.length_append,al];rfl,fun i a t h1 h2=> ?_⟩⟩
    rw [fe,List.getElem?_append,←al] at h2
    rw [List.getElem?_append] at h1
    by_cases hi:i<as.length
    ·rw [if_pos hi] at h1 h2
     have:=s9 _ _ (pa' i a t h1 h2)
     exact h5 _ _ (nl _ _ _ s9 this) this
    ·rw [if_neg hi] at h1 h2
     have i0:i - as.length=0:=by
      rcases Nat.lt_or_ge (i - as.length) 1 with z|z
      ·omega
      ·rw [List.getElem?_eq_none (by simpa using z)] at h1;cases h1
     rw [i0] at h1 h2
     cases h1
     cases h2
     exact h5 _ _ (nl _ _ _ s9 e9) e9
   ·have f1: [z].filter (fun z=>decide (z.2.1=nm))= []:=List.filter_cons_of_neg (by rw [decide_eq_true_eq];exact en)
    rw [f1,List.append_nil] at fe
    exact zaT en (k0 _ (zao.refl _) ⟨as,rfl,by rw [fe];exact al,by rw [fe];exact pa'⟩)
  rw [List.length_map,List.take_length] at pv
  obtain ⟨as,rfl,al,pa'⟩:=pv
  obtain ⟨h0',_⟩:=List.getElem?_eq_some_iff.mp hz0
  have ea:as[0]? =some (as[0]'(by omega)):=List.getElem?_eq_getElem _
  have e0:=pa' 0 _ z0 ea hz0
  rw [ez0] at e0
  generalize (plF zs nm).1=pr at*
  generalize (plF zs nm).2=ct at*
  refine ixL (v:= .ref (as[0]'(by omega))) (SqL.of w4) (zbw (j:=0) (by rw [List.getElem?_map,ea];rfl)) ⟨_,_,rfl,SqT.of e0,rfl,?_⟩
  open_k0
  have mp:Sm pr:=Sm.pow10 (k:=30) (by decide) (by omega)
  have ms:Sm st:=Sm.pow10 (k:=7) (by decide) (by omega)
  have m0:0≤pr*st:=Int.mul_nonneg pb.1 st0
  have m1:pr*st<10 ^ 60:=by
   have:=Int.mul_le_mul (show pr≤10 ^ 30 by omega) st1 st0 (by decide)
   exact Int.lt_of_le_of_lt this (by decide)
  have m2:Sm (pr*st):=Sm.pow10 (k:=60) (by decide) (by omega)
  have m3:Sm (d - Cal.beg f dy c k'):=Sm.pow10 (k:=7) (by decide) (by omega)
  have m4:Sm (d+1 - Cal.beg f dy c k'):=Sm.pow10 (k:=7) (by decide) (by omega)
  have m5:Sm (Cal.beg f dy c (k'+1) - Cal.beg f dy c k'):=Sm.pow10 (k:=7) (by decide) (by omega)
  have m6:Sm ct:=Sm.pow10 (k:=7) (by decide) (by omega)
  unfold zfV at q1
  refine zbY (fun z=>⟨.inr ⟨mp,ms⟩, .inr ⟨m2,m3⟩,by omega,m5, .inr ⟨m2,m4⟩,by omega,m5,?_⟩) (fun z=>⟨.inr ⟨mp,ms⟩, .inr ⟨m2,m3⟩,by omega,m6, .inr ⟨m2,m4⟩,by omega,m6,?_⟩)
  ·rw [if_pos z] at q1
   exact q1 H4 (s12.trans s4) so
  ·rw [if_neg z] at q1
   exact q1 H4 (s12.trans s4) so
 ·rw [if_neg on] at q1
  exact zbr on (q1 H1 s1 so)
noncomputable def rtK (f:Int) (dy:Bool) (c:Int) (zs:List En) (k:Int):Rt:=rtF f dy c k (zs.getD k.toNat (.non,0,0, .back)).2.2.2
def GL (f:Int) (dy:Bool) (c:Int) (zs:List En) (mo:Int) (G:Int→List D):Prop:= ∀ts:List Tm,ts.map (rtT f dy c)=(zaD zs mo).map (rtK f dy c zs)→zjR f dy c ts G
theorem zdJ {zs:List En} {mo:Int} (hp:zs.Pairwise (fun a b=>a.2.2.1≤b.2.2.1)) (ho:zbQ (chs zs)):(zaD zs mo).Nodup∧ ∀k∈zaD zs mo,∃z,0≤k∧zs[k.toNat]? =some z∧zbs z.2.2.2=true:=by
 have ml:mOf zs mo≤zs.length:=List.length_filter_le _ _
 obtain ⟨cs,hcs⟩: ∃cs,cs=chs (zs.take (mOf zs mo)):=⟨_,rfl⟩
 have csl:cs.length=mOf zs mo:=by rw [hcs,zbW,List.length_take];omega
 have uo:zbQ cs:=by rw [hcs,zcE];exact ho.take _
 have sd:=(zcI cs uo cs.length (Nat.le_refl _)).1
 rw [List.take_length] at sd
 refine ⟨(zdc (chs (zs.take (mOf zs mo)))).1,fun k hk=> ?_⟩
 unfold zaD at hk
 rw [←hcs,sd] at hk
 unfold zdv at hk
 obtain ⟨j,hj,rfl⟩:=List.mem_map.mp hk
 obtain ⟨h1,h2⟩:=List.mem_filter.mp hj
 have hj:=List.mem_range.mp h1
 have tm:zdd cs[j]? =true:=by
  rw [Bool.and_eq_true] at h2
  exact h2.1
 have jl:j<zs.length:=by omega
 refine ⟨zs[j],by omega,by rw [Int.toNat_natCast];exact List.getElem?_eq_getElem jl,?_⟩
 have e:cs[j]? =some (zs[j]).2.2.2:=by
  rw [hcs,zcE,List.getElem?_take,if_pos (by omega)]
  unfold chs
  rw [List.getElem?_map,List.getElem?_eq_getElem jl]
  rfl
 rw [e] at tm
 exact tm
theorem zg1 {K:PySem.W.Frag} {H:Hp} {r:Addr} {zs:List En} {mo f e:Int} {as:List Addr} (dy:Bool) (c:Int) (hp:zs.Pairwise (fun a b=>a.2.2.1≤b.2.2.1)) (ho:zbQ (chs zs)) (z40:zs.length≤40) (hE:zbV K H zs) (hB:EnB f e zs) (er:H r=some (.lst (as.map V.ref))) (ht:zfj H zs (zaD zs mo) as): ∃ts:List Tm,zde K H r f e ts∧ts.map (rtT f dy c)=(zaD zs mo).map (rtK f dy c zs)∧ ∀t∈ts,∃z∈zs,t.2.2.2=z.2.2.2:=by
 obtain ⟨kn,ki⟩:=zdJ (mo:=mo) hp ho
 obtain ⟨al,av⟩:=ht
 have kl:(zaD zs mo).length≤40:=by
  have:=zcH (chs (zs.take (mOf zs mo)))
  rw [zbW,List.length_take] at this
  unfold zaD
  omega
 obtain ⟨g,hg⟩: ∃g:Addr×Int→Tm,g=fun x=>(x.1,(zs.getD x.2.toNat (.non,0,0, .back)).2.1,x.2,(zs.getD x.2.toNat (.non,0,0, .back)).2.2.2):=⟨_,rfl⟩
 have gd: ∀k z,zs[Int.toNat k]? =some z→zs.getD k.toNat (.non,0,0, .back)=z:=fun k z h=>by rw [List.getD_eq_getElem?_getD,h];rfl
 have zm: ∀x∈as.zip (zaD zs mo),∃z,0≤x.2∧zs[x.2.toNat]? =some z∧zbs z.2.2.2=true∧H x.1=some (.tup [.int x.2, .ref z.2.1]):=fun x hx=>by
  obtain ⟨i,hi,ei⟩:=List.mem_iff_getElem.mp hx
  rw [List.length_zip] at hi
  rw [List.getElem_zip] at ei
  have h1:as[i]? =some x.1:=by rw [List.getElem?_eq_getElem (by omega),←ei]
  have h2:(zaD zs mo)[i]? =some x.2:=by rw [List.getElem?_eq_getElem (by omega),←ei]
  obtain ⟨z,e1,e2⟩:=av i x.1 x.2 h1 h2
  obtain ⟨z',k0,e3,tm⟩:=ki x.2 (List.mem_of_getElem? h2)
  rw [e1] at e3
  cases e3
  exact ⟨z,k0,e1,tm,e2⟩
 have zl:(as.zip (zaD zs mo)).length≤40:=by rw [List.length_zip];omega
 refine ⟨(as.zip (zaD zs mo)).map g,⟨?_,by rw [List.length_map];omega,fun t h=> ?_,?_⟩,?_,fun t h=> ?_⟩
 ·rw [er,List.map_map]
  have:(as.zip (zaD zs mo)).map ((fun t:Tm=>V.ref t.1) ∘ g)=((as.zip (zaD zs mo)).map (·.1)).map V.ref:=by rw [List.map_map,hg];rfl
  rw [this,List.map_fst_zip (by omega)]
 ·obtain ⟨x,hx,rfl⟩:=List.mem_map.mp h
  obtain ⟨z,k0,e1,tm,e2⟩:=zm x hx
  have hz:=List.mem_of_getElem? e1
  have kl2:=(List.getElem?_eq_some_iff.mp e1).1
  obtain ⟨pe,_,_,q2⟩:=hE z hz
  rw [hg]
  dsimp only
  rw [gd _ _ e1]
  exact ⟨⟨e2,q2⟩,⟨k0,by show x.2<64;omega⟩,hB z hz tm⟩
 ·rw [List.pairwise_map,hg]
  have:((as.zip (zaD zs mo)).map (·.2)).Pairwise (· ≠ ·):=by rw [List.map_snd_zip (by omega)];exact kn
  rw [List.pairwise_map] at this
  exact this
 ·have:(as.zip (zaD zs mo)).map (rtT f dy c ∘ g)=((as.zip (zaD zs mo)).map (·.2)).map (rtK f dy c zs):=by rw [List.map_map,hg];rfl
  rw [List.map_map,this,List.map_snd_zip (by omega)]
 ·obtain ⟨x,hx,rfl⟩:=List.mem_map.mp h
  obtain ⟨z,k0,e1,tm,e2⟩:=zm x hx
  exact ⟨z,List.mem_of_getElem? e1,by rw [hg];dsimp only;rw [gd _ _ e1]⟩
def EnX (zs:List (V×Pl)) (f e:Int) (K:PySem.W.Frag) (H:Hp) (ys:List En):Prop:=zbV K H ys∧ys.length≤40∧ys.Pairwise (fun a b=>a.2.2.1≤b.2.2.1)∧zbQ (chs ys)∧EnB f e ys∧ ∀z∈ys,zbs z.2.2.2=true→TmX zs z.2.2.2
theorem EnX.same {zs:List (V×Pl)} {f e:Int} {K:PySem.W.Frag} {H H':Hp} {ys:List En} (h:EnX zs f e K H ys) (s:zao H H'):EnX zs f e K H' ys:=⟨h.1.same s,h.2⟩
theorem EnX.tmx {zs:List (V×Pl)} {f e:Int} {K:PySem.W.Frag} {H:Hp} {ys:List En} (h:EnX zs f e K H ys) {ts:List Tm} (h3: ∀t∈ts,zbs t.2.2.2=true) (hz: ∀t∈ts,∃z∈ys,t.2.2.2=z.2.2.2): ∀t∈ts,TmX zs t.2.2.2:=fun t ht=>by
 obtain ⟨z,h1,h2⟩:=hz t ht
 have:=h3 t ht
 rw [h2] at this ⊢
 exact h.2.2.2.2.2 z h1 this
def Acc (K:PySem.W.Frag) (H:Hp) (p:Addr) (f:Int) (dy:Bool) (cc:Int) (zs:List (V×Pl)):Prop:= ∃l,zcO K H p l f dy cc∧SqL K H l (zs.map (·.1))∧zeh K H zs∧1≤zs.length∧zs.length≤8
theorem Acc.same {K:PySem.W.Frag} {H H':Hp} {p:Addr} {f:Int} {dy:Bool} {cc:Int} {zs:List (V×Pl)} (h:Acc K H p f dy cc zs) (s:zao H H'):Acc K H' p f dy cc zs:=
 let ⟨l,h1,h2,h3,h4⟩:=h;⟨l,h1.same s,s.seq h2,h3.same s,h4⟩
def zfX (zs:List (V×Pl)):List (List Nat):=zs.map fun z=>z.2.1
def ziS (K:PySem.W.Frag):Sp:=fun vs H Q _=> ∃(pa:Addr) (f:Int) (dy:Bool) (c:Int) (zs:List (V×Pl)),vs= [.ref pa]∧Acc K H pa f dy c zs∧ ∀r H',zao H H'→H' r=some (.lst ((zfX zs).map fun n=>V.str (SL n)))→Q (.ref r) H'
theorem sc_0u:FnScope ["account"] ["account"] (zap s_0u):=⟨rfl,rfl,rfl,by decide+kernel,rfl,by decide+kernel,by decide+kernel⟩
theorem ok_0u (T:Txt w K mg t):FnOk P w K mg base (CXE P w) 1 t.a_0u t.d_0u ["account"] (ziS K):=by
 refine T.fn_0u.okX sc_0u (fun vs H Q E h=> ?_) (fun cdv A outer s H vs Q E L hr h=> ?_)
 ·obtain ⟨pa,f,dy,c,zs,rfl,⟨l,⟨pc,f0,f1,hc,ep⟩,el,za,zo⟩,q⟩:=h
  rfl
 obtain ⟨pa,f,dy,c,zs,rfl,⟨l,⟨pc,f0,f1,hc,ep⟩,el,za,zo⟩,q⟩:=h
 have nd:=sc_0u.nd
 refine ⟨_,(zaf (zaw (zcK (n:=1) (N:= ["plan"]) (js:= []) (by rfl) rfl rfl (zbu (zaq zas (pv 0) zac (fun _ _=>rfl))) (fun a=>(zaj (i:=0) (show List.Nodup (["plan"]:List Str) from by decide+kernel) rfl (Or.inl rfl))) (fun a=>zcC) (fun a=>(zaq zas (pv 0) zac (fun _ _=>rfl)))))),?_⟩
 open_k0
 obtain ⟨o1,o2⟩:=zo
 refine ⟨_,rfl,?_⟩
 simp only [tC]
 refine ixT (SqT.of ep) (zbR _ _) ?_
 refine ⟨l,rfl,⟨_,el⟩,fun ln hln an=> ?_⟩
 refine zb0 (fun j xs _=>xs=(zs.take j).map fun z=>V.str (SL z.2.1)) (zb3 el) hln (by rw [List.length_map];exact za7 (by omega)) (fun _ _=>rfl) (fun j x xs H8 K1 K0 hx sm pv hl k1 k0=> ?_) (fun xs H8 s8 pv _ w8=> ?_)
 ·obtain ⟨u,hu,rfl⟩: ∃u,zs[j]? =some u∧x=u.1:=by
   rw [List.getElem?_map] at hx
   obtain ⟨u,e,rfl⟩:=Option.map_eq_some_iff.mp hx
   exact ⟨u,e,rfl⟩
  obtain ⟨p,eu,hq⟩:=za u (List.mem_of_getElem? hu)
  rw [eu]
  lgec_open0
  refine ixT (sm.sqT hq) (v:= .str (SL u.2.1)) rfl (k1 _ _ (zao.refl _) fun H5 _=> ?_)
  rw [pv,List.take_add_one,hu,List.map_append]
  rfl
 rw [List.length_map,List.take_length] at pv
 subst pv
 exact q ln H8 s8 (by rw [w8,zfX,List.map_map];rfl)
def zhK (K:PySem.W.Frag):Sp:=fun vs H Q _=> ∃(pa p:Addr) (f:Int) (dy:Bool) (cc:Int) (zs:List (V×Pl)) (c:Ch) (L:List Int),vs= [.ref pa, .ref p]∧Acc K H pa f dy cc zs∧SqT K H p ((chD c).map sv)∧zbs c=true∧zgc (zfX zs) f (Cal.beg f dy cc 60) L c∧ ∀H',zao H H'→Q (.bl true) H'
theorem sc_0v:FnScope ["account","change","word"] ["account","change"] (zap s_0v):=⟨rfl,rfl,rfl,by decide+kernel,rfl,by decide+kernel,by decide+kernel⟩
theorem ok_0v (T:Txt w K mg t):FnOk P w K mg base (CXE P w) 8 t.a_0v t.d_0v ["account","change"] (zhK K):=by
 refine T.fn_0v.okX sc_0v (fun vs H Q E h=> ?_) (fun cdv A outer s H vs Q E L hr h=> ?_)
 ·obtain ⟨pa,p,f,dy,cc,zs,c,Ls,rfl,ha,hp,tm,ci,q⟩:=h
  rfl
 obtain ⟨pa,p,f,dy,cc,zs,c,Ls,rfl,ha,hp,tm,ci,q⟩:=h
 have nd:=sc_0v.nd
 obtain ⟨u_MOST_SEATS,h_MOST_SEATS,r_MOST_SEATS⟩:=T.k_Z06
 refine ⟨_,(zad (zaM (zdS (zar zcM (zaF zaW (by rfl) T.no_len zct (zaa (pv 1) zae)) zac (zat _)) (zc2 (zg7 (zep (zag L.toLv (ok_0c T) (hr.mono (by decide)) (by rfl) T.mg_0c T.fn_0c.kp T.b_0c .nil (zaa (pv 0) (zaa (zaq zas (pv 1) zac (fun _ _=>rfl)) zae zak) zab)))))).pt (zaf (zaw zgt)) zaz) (zad (zan (i:=2) nd rfl (Or.inl rfl) (zaq zas (pv 1) zac (fun _ _=>rfl))) (zad (zaM (zar zbv (pv 2) (zax st_11) (zat _)) (zaf (zaw (zdk (zbT zbv (zaF zaW (by rfl) T.no_len zct (zaa (pv 1) zae)) zac (zat _)) (zdy (zbT zet (zaq zas (pv 1) zac (fun _ _=>rfl)) (zag L.toLv (ok_0u T) (hr.mono (by decide)) (by rfl) T.mg_0u T.fn_0u.kp T.b_0u .nil (zaa (pv 0) zae)) rfl))))) zaz) (zad (zaM (zar zbv (pv 2) (zax st_12) (zat _)) (zaf (zaw (zdk (zbT zbv (zaF zaW (by rfl) T.no_len zct (zaa (pv 1) zae)) zac (zat _)) (zdy (zag L.toLv (ok_0a T) (hr.mono (by decide)) (by rfl) T.mg_0a T.fn_0a.kp T.b_0a .nil (zaa (zaq zas (pv 1) zac (fun _ _=>rfl)) (zaa zac (zaa (zbS (by rfl) h_MOST_SEATS r_MOST_SEATS) zae zab) zah) zak)))))) zaz) (zaf (zaw (zbT zbv (zaF zaW (by rfl) T.no_len zct (zaa (pv 1) zae)) zac (zat _)))))))),?_⟩
 have ha':=ha
 obtain ⟨l,hi,_,_,_⟩:=ha'
 have day: ∀{d:Int},f≤d→d<Cal.beg f dy cc 60→btw f (Cal.beg f dy cc 60 - 1) (.int d)=true:=fun h1 h2=>by
  show (decide (f≤_) && decide (_≤Cal.beg f dy cc 60 - 1))=true
  rw [decide_eq_true h1,decide_eq_true (by omega)]
  rfl
 cases c with
 |plan d nm=>
  obtain ⟨d0,d1,hn⟩:=ci
  have hp:SqT K H p [.str (SL [112,108,97,110]), .int d, .str (SL nm)]:=hp
  open_k0
  refine ⟨_, .inr hp,zaT (by show¬((3:Nat):Int)<2;decide) (ixT hp (zb7 _ _ _) ⟨pa,l,f,dy,cc, .int d,rfl, .inl ⟨_,rfl⟩,hi,fun H1 s1=>⟨_,rfl,zaT (by rw [day d0 d1];decide) (ixT (s1.sqT hp) (zbR _ _) ⟨rfl,zbr rfl ⟨_, .inr (s1.sqT hp),zbr rfl (ixT (s1.sqT hp) (zdw _ _ _ _) ?_)⟩⟩)⟩⟩)⟩
  refine ⟨pa,f,dy,cc,zs,rfl,ha.same s1,fun r H2 s2 e2=>⟨r,_,rfl, .inl (SqL.of e2),rfl,?_,?_⟩⟩
  ·rw [List.all_map,List.all_eq_true]
   intro z _
   rfl
  ·rw [zdF,decide_eq_true hn]
   exact q H2 (s1.trans s2)
 |seats d n=>
  obtain ⟨d0,d1,n0,n1⟩:=ci
  have hp:SqT K H p [.str (SL [115,101,97,116,115]), .int d, .int n]:=hp
  open_k0
  refine ⟨_, .inr hp,zaT (by show¬((3:Nat):Int)<2;decide) (ixT hp (zb7 _ _ _) ⟨pa,l,f,dy,cc, .int d,rfl, .inl ⟨_,rfl⟩,hi,fun H1 s1=>⟨_,rfl,zaT (by rw [day d0 d1];decide) (ixT (s1.sqT hp) (zbR _ _) ⟨rfl,zaT (zbo (by decide)) ⟨rfl,zbr rfl ⟨_, .inr (s1.sqT hp),zbr rfl (ixT (s1.sqT hp) (zdw _ _ _ _) ?_)⟩⟩⟩)⟩⟩)⟩
  refine ⟨.int n,_,_,rfl, .inl ⟨_,rfl⟩,?_⟩
  have e:btw 0 1000000 (.int n)=true:=by
   show (decide (0≤n) && decide (n≤1000000))=true
   rw [decide_eq_true n0,decide_eq_true n1]
   rfl
  rw [e]
  exact q H1 s1
 |word w d=>
  obtain ⟨_,d0,d1⟩:=ci
  have hp:SqT K H p [.str (SL (zcD w)), .int d]:=hp
  open_k0
  obtain ⟨_,w1,w2⟩:=zfi w
  refine ⟨_, .inr hp,zaT (by show¬((2:Nat):Int)<2;decide) (ixT hp (zb7 _ _ _) ⟨pa,l,f,dy,cc, .int d,rfl, .inl ⟨_,rfl⟩,hi,fun H1 s1=>⟨_,rfl,zaT (by rw [day d0 d1];decide) (ixT (s1.sqT hp) (zbR _ _) ⟨rfl,zaT (zbo w1) ⟨rfl,zaT (zbo w2) ⟨_, .inr (s1.sqT hp),q H1 s1⟩⟩⟩)⟩⟩)⟩
 |undo k=>cases tm
 |grant a=>cases tm
 |back=>cases tm
def zg2 (K:PySem.W.Frag):Sp:=fun vs H Q _=> ∃(p:Addr) (a:Int),vs= [.ref p]∧SqT K H p ((chD (.grant a)).map sv)∧1≤a∧a<10 ^ 30∧Q (.bl true) H
theorem sc_0w:FnScope ["change"] ["change"] (zap s_0w):=⟨rfl,rfl,rfl,by decide+kernel,rfl,by decide+kernel,by decide+kernel⟩
theorem ok_0w (T:Txt w K mg t):FnOk P w K mg base (CXE P w) 3 t.a_0w t.d_0w ["change"] (zg2 K):=by
 refine T.fn_0w.okX sc_0w (fun vs H Q E h=> ?_) (fun cdv A outer s H vs Q E L hr h=> ?_)
 ·obtain ⟨p,a,rfl,hp,a0,a1,q⟩:=h
  rfl
 obtain ⟨p,a,rfl,hp,a0,a1,q⟩:=h
 have nd:=sc_0w.nd
 refine ⟨_,(zaf (zaw (zdk (zbT zbv (zaF zaW (by rfl) T.no_len zct (zaa (pv 0) zae)) zac (zat _)) (zdy (zag L.toLv (ok_0a T) (hr.mono (by decide)) (by rfl) T.mg_0a T.fn_0a.kp T.b_0a .nil (zaa (zaq zas (pv 0) zac (fun _ _=>rfl)) (zaa zac (zaa (zai zbP (zai zi5 zac zac) zac) zae zav) zah) zak)))))),?_⟩
 open_k0
 have hp:SqT K H p [.str (SL [103,114,97,110,116]), .int a]:=hp
 refine ⟨_, .inr hp,zbr rfl ?_⟩
 refine ixT hp (zb7 _ _ _) ⟨⟨by decide,by decide,by decide⟩, .int a,_,_,rfl, .inl ⟨_,rfl⟩,?_⟩
 have e:btw 1 (10 ^ 30 - 1) (.int a)=true:=by
  show (decide (1≤a) && decide (a≤10 ^ 30 - 1))=true
  rw [decide_eq_true a0,decide_eq_true (by omega)]
  rfl
 rw [e]
 exact q
def zhL (K:PySem.W.Frag):Sp:=fun vs H Q _=> ∃(p d:Addr) (k:Int) (g:Int→V) (L:List Int),vs= [.ref p, .ref d]∧SqT K H p ((chD (.undo k)).map sv)∧H d=some (.dK (kvG g L))∧k∈L∧Q (.bl true) H
theorem sc_0x:FnScope ["change","standing"] ["change","standing"] (zap s_0x):=⟨rfl,rfl,rfl,by decide+kernel,rfl,by decide+kernel,by decide+kernel⟩
theorem ok_0x (T:Txt w K mg t):FnOk P w K mg base (CXE P w) 2 t.a_0x t.d_0x ["change","standing"] (zhL K):=by
 refine T.fn_0x.okX sc_0x (fun vs H Q E h=> ?_) (fun cdv A outer s H vs Q E L hr h=> ?_)
 ·obtain ⟨p,d,k,g,Ls,rfl,hp,hd,hk,q⟩:=h
  rfl
 obtain ⟨p,d,k,g,Ls,rfl,hp,hd,hk,q⟩:=h
 have nd:=sc_0x.nd
 refine ⟨_,(zaf (zaw (zdk (zbT zbv (zaF zaW (by rfl) T.no_len zct (zaa (pv 0) zae)) zac (zat _)) (zdk (zag L.toLv (ok_09 T) (hr.mono (by decide)) (by rfl) T.mg_09 T.fn_09.kp T.b_09 .nil (zaa (zaq zas (pv 0) zac (fun _ _=>rfl)) zae)) (zdy (zk7 (zf9 (zdr hr) (zaq zas (pv 0) zac (fun _ _=>rfl)) (pv 1)))))))),?_⟩
 open_k0
 have hp:SqT K H p [.str (SL [117,110,100,111]), .int k]:=hp
 refine ⟨_, .inr hp,zbr rfl ?_⟩
 refine ixT hp (zb7 _ _ _) ⟨.int k,rfl, .inl ⟨_,rfl⟩,_,rfl,zbr rfl (ixT hp (zb7 _ _ _) ⟨_,zev.k (k:=Sum.inl k) hd,?_⟩)⟩
 rw [zgb,if_pos hk]
 exact q
def zlE (K:PySem.W.Frag):Sp:=fun vs H Q _=> ∃(pa a p:Addr) (f:Int) (dy:Bool) (cc:Int) (ps:List (V×Pl)) (zs:List En) (c:Ch),vs= [.ref pa, .ref a, .ref p]∧Acc K H pa f dy cc ps∧SqL K H a (zs.map (·.1))∧zbV K H zs∧zs.length≤63∧zcd (zfX ps) f (Cal.beg f dy cc 60) zs∧SqT K H p ((chD c).map sv)∧zgc (zfX ps) f (Cal.beg f dy cc 60) (zaQ (chs zs)) c∧ ∀H',zao H H'→Q (.bl true) H'
theorem sc_0y:FnScope ["account","ahead","change","word"] ["account","ahead","change"] (zap s_0y):=⟨rfl,rfl,rfl,by decide+kernel,rfl,by decide+kernel,by decide+kernel⟩
theorem ok_0y (T:Txt w K mg t):FnOk P w K mg base (CXE P w) 9 t.a_0y t.d_0y ["account","ahead","change"] (zlE K):=by
 refine T.fn_0y.okX sc_0y (fun vs H Q E h=> ?_) (fun cdv A outer s H vs Q E L hr h=> ?_)
 ·obtain ⟨pa,a,p,f,dy,cc,ps,zs,c,rfl,ha,hS,hE,z63,hO,hp,ci,q⟩:=h
  rfl
 obtain ⟨pa,a,p,f,dy,cc,ps,zs,c,rfl,ha,hS,hE,z63,hO,hp,ci,q⟩:=h
 have nd:=sc_0y.nd
 refine ⟨_,(zad (zaM (zar zbv (zaF zaW (by rfl) T.no_len zct (zaa (pv 2) zae)) zac (zat _)) (zaf (zaw zgt)) zaz) (zad (zan (i:=3) nd rfl (Or.inl rfl) (zaq zas (pv 2) zac (fun _ _=>rfl))) (zad (zaM (zep (zag L.toLv (ok_0t T) (hr.mono (by decide)) (by rfl) T.mg_0t T.fn_0t.kp T.b_0t .nil (zaa (pv 2) zae))) (zaf (zaw (zag L.toLv (ok_0v T) (hr.mono (by decide)) (by rfl) T.mg_0v T.fn_0v.kp T.b_0v .nil (zaa (pv 0) (zaa (pv 2) zae zab) zab)))) zaz) (zad (zaM (zar zbv (pv 3) (zax st_13) (zat _)) (zaf (zaw (zag L.toLv (ok_0w T) (hr.mono (by decide)) (by rfl) T.mg_0w T.fn_0w.kp T.b_0w .nil (zaa (pv 2) zae)))) zaz) (zad (zaM (zar zbv (pv 3) (zax st_14) (zat _)) (zaf (zaw (zag L.toLv (ok_0x T) (hr.mono (by decide)) (by rfl) T.mg_0x T.fn_0x.kp T.b_0x .nil (zaa (pv 2) (zaa (zag L.toLv (ok_0z T) (hr.mono (by decide)) (by rfl) T.mg_0z T.fn_0z.kp T.b_0z .nil (zaa (pv 1) zae)) zae zaB) zab)))) zaz) (zaf (zaw (zbT (zjo hr) (pv 2) (zaJ (zaa (zax st_15) zae)) (zat _))))))))),?_⟩
 obtain ⟨r,er⟩:=zcT c
 have hp':=hp
 rw [er] at hp'
 open_k0
 refine ⟨_, .inr hp',?_⟩
 rw [if_neg (by rw [List.length_cons];omega)]
 refine ixT hp' (zbR _ _) ⟨p,c,rfl,hp,_,rfl,?_⟩
 by_cases tm:zbs c=true
 ·rw [if_pos tm]
  exact ⟨pa,p,f,dy,cc,ps,c,_,rfl,ha,hp,tm,ci,q⟩
 refine zaT tm ⟨rfl,?_⟩
 cases c with
 |plan=>exact absurd rfl tm
 |seats=>exact absurd rfl tm
 |word=>exact absurd rfl tm
 |grant g=>exact zbr rfl ⟨p,g,rfl,hp,ci.1,ci.2,q _ (zao.refl _)⟩
 |undo k=>
  refine zaT (zbo (show [117,110,100,111]≠ [103,114,97,110,116] by decide)) ⟨rfl,zbr rfl ?_⟩
  refine ⟨a,zs,rfl,hS,hE,z63,fun i z k' hz hk'=> ?_,fun r H1 _ s1 e1=>⟨p,r,k,_,_,rfl,s1.sqT hp,e1,ci,q H1 s1⟩⟩
  have:=(hO i z hz).2.2.2
  rw [hk'] at this
  exact this
 |back=>
  refine zaT (zbo (show [98,97,99,107]≠ [103,114,97,110,116] by decide)) ⟨rfl,zaT (zbo (show [98,97,99,107]≠ [117,110,100,111] by decide)) ?_⟩
  intro pb H1 _ s1 e1
  have hp:SqT K H p [.str (SL [98,97,99,107])]:=hp
  exact eqD (n:=0) (d:= .tup [.str [98,97,99,107]]) (zhk (s1.sqT hp) ⟨zf8,trivial⟩) (zhk (SqT.of e1) ⟨zf8,trivial⟩) rfl (by decide) (q H1 s1)
def ziT (K:PySem.W.Frag):Sp:=fun vs H Q _=> ∃(pa a:Addr) (f:Int) (dy:Bool) (cc:Int) (ps:List (V×Pl)) (zs:List En),vs= [.ref pa, .ref a]∧Acc K H pa f dy cc ps∧SqL K H a (zs.map (·.1))∧zbV K H zs∧zs.length≤40∧zcd (zfX ps) f (Cal.beg f dy cc 60) zs∧ ∀H',zao H H'→Q .non H'
theorem sc_10:FnScope ["account","entries","front","number","entry","entered","change"] ["account","entries"] (zap s_10):=⟨rfl,rfl,rfl,by decide+kernel,rfl,by decide+kernel,by decide+kernel⟩
theorem ok_10 (T:Txt w K mg t):FnOk P w K mg base (CXE P w) 10 t.a_10 t.d_10 ["account","entries"] (ziT K):=by
 refine T.fn_10.okX sc_10 (fun vs H Q E h=> ?_) (fun cdv A outer s H vs Q E L hr h=> ?_)
 ·obtain ⟨pa,a,f,dy,cc,ps,zs,rfl,ha,hS,hE,z40,hO,q⟩:=h
  rfl
 obtain ⟨pa,a,f,dy,cc,ps,zs,rfl,ha,hS,hE,z40,hO,q⟩:=h
 have nd:=sc_10.nd
 obtain ⟨u_MOST_ENTRIES,h_MOST_ENTRIES,r_MOST_ENTRIES⟩:=T.k_Z05
 refine ⟨_,(zad (zaM (zar zd4 (zaF zaW (by rfl) T.no_len zct (zaa (pv 1) zae)) (zbS (by rfl) h_MOST_ENTRIES r_MOST_ENTRIES) (zat _)) (zaf (zcA L T.ex_Z0e (by rfl) (by rfl) T.mg_Z0e (zaa zc1 zae))) zaz) (zad (zan (i:=2) nd rfl (Or.inl rfl) (zaq zas (pv 0) zac (fun _ _=>rfl))) (zaf (zbO (by passes_own) rfl (zh5 (by rfl) T.no_enumerate (zaa (pv 1) zae)) (zbi (n:=2) rfl (zal (zaj (i:=3) nd rfl (Or.inl rfl)) (zal (zaj (i:=4) nd rfl (Or.inl rfl)) zaV))) (zad (zby (pv 4) (zbi (n:=2) rfl (zal (zaj (i:=5) nd rfl (Or.inl rfl)) (zal (zaj (i:=6) nd rfl (Or.inl rfl)) zaV)))) (zad (zaM (zdS (zg7 (zep (zag L.toLv (ok_0c T) (hr.mono (by decide)) (by rfl) T.mg_0c T.fn_0c.kp T.b_0c .nil (zaa (pv 0) (zaa (pv 5) zae zab) zab)))) (zc2 (zar zcM (pv 5) (pv 2) (zat _)))).pt (zaf zgw) zaz) (zad (zaM (zg7 (zep (zag L.toLv (ok_0y T) (hr.mono (by decide)) (by rfl) T.mg_0y T.fn_0y.kp T.b_0y .nil (zaa (pv 0) (zaa (zgB zjp (pv 1) zhX (zhY (pv 3))) (zaa (pv 6) zae zab) zak) zab)))) (zaf zgw) zaz) (zaf (zan (i:=2) nd rfl (Or.inl rfl) (pv 5)))))))))),?_⟩
 have ha':=ha
 obtain ⟨l,⟨pc,f0,f1,hc,ep⟩,el,za,zo⟩:=ha'
 open_k0
 refine ⟨_, .inl hS,?_⟩
 rw [if_neg (by rw [List.length_map];omega)]
 refine ixT (SqT.of ep) (zb7 _ _ _) ?_
 ((try dsimp only);refine zbX fun R hR=> ?_;lge_open0)
 refine ⟨⟨_,hS⟩,hR _ _ ?_⟩
 clear hR
 refine zgO (xs:=zs.map (·.1)) (fun i σ1 H1=>zao H H1∧ ∃(fr:Int) (x3 x4 x5 x6:Option V),(∀z,zs[i]? =some z→fr≤z.2.2.1)∧σ1= [some (.ref pa),some (.ref a),some (.int fr),x3,x4,x5,x6]) ⟨zao.refl _,f,_,_,_,_,fun z hz=>(hO 0 z hz).1,rfl⟩ (fun i σ1 H1 _ h=>h.1.seq hS) (fun i σ1 H1 H2 h s=>⟨h.1.trans s,h.2⟩) (fun i x σ1 H1 hx h=> ?_) (fun σ1 H1 h=> ?_)
 ·obtain ⟨s1,fr,x3,x4,x5,x6,hf,rfl⟩:=h
  obtain ⟨z,hz,rfl⟩: ∃z,zs[i]? =some z∧x=z.1:=by
   rw [List.getElem?_map] at hx
   obtain ⟨u,e,rfl⟩:=Option.map_eq_some_iff.mp hx
   exact ⟨u,e,rfl⟩
  obtain ⟨pe,ee,q1,q2⟩:=(hE.same s1) z (List.mem_of_getElem? hz)
  obtain ⟨b1,b2,b3,b4⟩:=hO i z hz
  rw [ee]
  open_k0
  refine ⟨pe,_,rfl,q1,rfl,?_⟩
  open_k0
  have e:btw f (Cal.beg f dy cc 60 - 1) (.int z.2.2.1)=true:=by
   show (decide (f≤_) && decide (_≤Cal.beg f dy cc 60 - 1))=true
   rw [decide_eq_true b1,decide_eq_true (by omega)]
   rfl
  refine ⟨pa,l,f,dy,cc, .int z.2.2.1,rfl, .inl ⟨_,rfl⟩,⟨pc,f0,f1,hc.same s1,s1 _ _ ep⟩,fun H2 s2=>⟨_,rfl,zaT (by rw [e];decide) (zaT (by have:=hf z hz;omega) ?_)⟩⟩
  have s12:=s1.trans s2
  refine ⟨a,_,rfl,s12.seq hS,fun r H3 _ s3 e3=> ?_⟩
  rw [zh3,←List.map_take] at e3
  have s13:=s12.trans s3
  refine ⟨pa,r,z.2.1,f,dy,cc,ps,zs.take i,z.2.2.2,rfl,ha.same s13,SqL.of e3,(hE.same s13).take i,by rw [List.length_take];omega,hO.take i,(s2.trans s3).sqT q2,b4,fun H4 s4=>⟨_,rfl,zaT (by decide) ⟨s13.trans s4,_,fun y hy=> ?_,rfl⟩⟩⟩
  exact (hO (i+1) y hy).2.2.1 z (by rw [List.take_add_one,hz];exact List.mem_append_right _ (List.mem_singleton.mpr rfl))
 ·exact q _ h.1
abbrev zmz:Pos:=⟨253,38,253,60⟩
abbrev zmA:Str:=(("in_time":Str)++".<locals>.")++"<lambda>"
def Tab (H:Hp) (T:Addr):Prop:=zdW H T zmz zmA
def zcb (H H':Hp):Prop:= ∀b o,H b=some o→(∀ps,o≠ .tbl ps)→H' b=some o
theorem zcb.trans {H H1 H2:Hp} (a:zcb H H1) (b:zcb H1 H2):zcb H H2:=fun c o h n=>b c o (a c o h n) n
theorem zcL {H H':Hp} (s:zao H H'):zcb H H':=fun b o h _=>s b o h
theorem zil {T:Addr} {H H':Hp} {ps:Array Value} (g:zhr T H H') (e:H T=some (.tbl ps)):zcb H H':=fun b o h n=>g b o (fun z=>by rw [z,e] at h;exact n ps (Option.some.inj h).symm) h
theorem zcb.lst {H H':Hp} (s:zcb H H') {a:Addr} {xs:List V} (h:H a=some (.lst xs)):H' a=some (.lst xs):=s _ _ h fun _ z=>by cases z
theorem zcb.tup {H H':Hp} (s:zcb H H') {a:Addr} {xs:List V} (h:H a=some (.tup xs)):H' a=some (.tup xs):=s _ _ h fun _ z=>by cases z
theorem zcb.sqT {K:PySem.W.Frag} {H H':Hp} (s:zcb H H') {a:Addr} {xs:List V} (h:SqT K H a xs):SqT K H' a xs:=by
 rcases h with (h|⟨o,h⟩)|h
 ·exact .inl (.inl (s.tup h))
 ·exact .inl (.inr ⟨o,s _ _ h fun _ z=>by cases z⟩)
 ·exact .inr h
theorem zcb.seq {K:PySem.W.Frag} {H H':Hp} (s:zcb H H') {a:Addr} {xs:List V} (h:SqL K H a xs):SqL K H' a xs:=by
 rcases h with (h|⟨o,h⟩)|h
 ·exact .inl (.inl (s.lst h))
 ·exact .inl (.inr ⟨o,s _ _ h fun _ z=>by cases z⟩)
 ·exact .inr h
theorem zgp {K:PySem.W.Frag} {H H':Hp} {zs:List En} (h:zbV K H zs) (s:zcb H H'):zbV K H' zs:=fun z hz=>
 let ⟨p,e,q1,q2⟩:=h z hz;⟨p,e,s.sqT q1,s.sqT q2⟩
theorem Tab.same {H H':Hp} {T:Addr} (h:Tab H T) (s:zao H H'):Tab H' T:=by
 obtain ⟨ps,e,tr,c⟩:=h
 refine ⟨ps,s _ _ e,tr,?_⟩
 rcases c with c|⟨c',c1,c2⟩
 ·exact .inl c
 ·exact .inr ⟨c',c1,s _ _ c2⟩
theorem zim (zs:List En):(zs.map ce).map (·.2)=chs zs:=by rw [List.map_map];rfl
def zj0 (K:PySem.W.Frag) (T:Addr):Sp:=fun vs H Q _=> ∃(a:Addr) (zs:List En),vs= [.ref a]∧SqL K H a (zs.map (·.1))∧zbV K H zs∧zs.length≤40∧zbQ (chs zs)∧Tab H T∧ ∀r rs so H',H r=none→zcb H H'→Tab H' T→(∀b ps,b≠T→H b=some (.tbl ps)→H' b=some (.tbl ps))→H' r=some (.lst (rs.map (·.1)))→zbV K H' rs→zgl (zs.map ce) so→rs.map ce=so.map rc→Q (.ref r) H'
theorem sc_12:FnScope ["entries","terms","others"] ["entries"] (zap s_12):=⟨rfl,rfl,rfl,by decide+kernel,rfl,by decide+kernel,by decide+kernel⟩
theorem ok_12 (T:Txt w K mg t) (B:BM mg base):FnOk P w K mg base (CXE P w) 4 t.a_12 t.d_12 ["entries"] (zj0 K t.p_12):=by
 refine T.fn_12.okXC T.cc_12 sc_12 (fun vs H Q E h=> ?_) (fun A outer s H vs Q E L hr h=> ?_)
 ·obtain ⟨a,zs,rfl,hS,hE,z40,hU,hT,q⟩:=h
  rfl
 obtain ⟨a,zs,rfl,hS,hE,z40,hU,hT,q⟩:=h
 have nd:=sc_12.nd
 refine ⟨_,(zad (zdM (i:=1) nd rfl rfl (n:=1) (N:= ["change"]) (js:= []) (by rfl) rfl rfl (zks (zag L.toLv (ok_0z T) (hr.mono (by decide)) (by rfl) T.mg_0z T.fn_0z.kp T.b_0z .nil (zaa (pv 0) zae)) (by rfl) (by rfl)) (fun a=>(zaj (i:=0) (show List.Nodup (["change"]:List Str) from by decide+kernel) rfl (Or.inl rfl))) (fun a=>zcC) (fun a=>(zaJ (zaa (zaq zas (pv 0) zac (fun _ _=>rfl)) (zaa (pv 0) zae zab) zak)))) (zad (zdM (i:=2) nd rfl rfl (n:=1) (N:= ["entry"]) (js:= []) (by rfl) rfl rfl (zbu (pv 0)) (fun a=>(zaj (i:=0) (show List.Nodup (["entry"]:List Str) from by decide+kernel) rfl (Or.inl rfl))) (fun a=>(zd9 (zar zet (zaq zas (zaq zas (pv 0) zac (fun _ _=>rfl)) zac (fun _ _=>rfl)) (zaJ (zaa (zax st_13) (zaa (zax st_15) zae zah) zah)) rfl))) (fun a=>(pv 0))) (zaf (zaw (zjE (k:=0) (x:="entry") (N:= ["entry"]) (hr.mono (by decide)) (by rfl) T.no_sorted (zaa (zai zh0 (pv 1) (pv 2)) zae) rfl B (fun _ X=>T.tb_12.hd X) ⟨rfl,rfl,rfl,by decide+kernel,rfl,by decide+kernel,by decide+kernel⟩ (fun _ _ _ _=>rfl) (fun _ _ _ _ _ _=>(zaq (zki (K:=K) rfl) (pv 0) zac (fun _ _=>rfl)))))))),?_⟩
 open_k0
 refine ⟨_,rfl,?_⟩
 try open_k0
 refine ⟨a,zs,rfl,hS,hE,by omega,fun i z k hz hk=> ?_,fun d H1 nd s1 e1=>⟨d,rfl,_,e1,fun o H2 k2 k2' e2 l1 hl1 an=> ?_⟩⟩
 ·have:=hU i k (by unfold chs;rw [List.getElem?_map,hz,←hk];rfl)
  rw [zcE]
  exact this
 have s2:zao H H2:=fun b u h=>k2 b u (fun z=>by rw [z,nd] at h;cases h) (s1 b u h)
 obtain ⟨es,hes⟩: ∃es,es=zs.map ce:=⟨_,rfl⟩
 have esl:es.length=zs.length:=by rw [hes,List.length_map]
 have ecs:es.map (·.2)=chs zs:=by rw [hes,zim]
 obtain ⟨RT,hRT⟩: ∃RT,RT=(List.range es.length).filterMap (zfc (es.map (·.2)) (zaO (es.map (·.2)))):=⟨_,rfl⟩
 have hst:zaQ (chs zs)=RT.map fun r=>r.2.2.1:=by rw [hRT,ecs,esl,←zbW];exact zhC hU
 have rl:RT.length≤40:=by
  have:=zcH (chs zs)
  rw [hst,List.length_map,zbW] at this
  omega
 have kvm:(kvG (zd2 zs) (zaQ (chs zs))).map (·.2)=RT.map fun r=>zd2 zs r.2.2.1:=by
  unfold kvG
  rw [List.map_map,hst,List.map_map]
  rfl
 have rt: ∀r∈RT,∃z,z∈zs∧zd2 zs r.2.2.1= .ref z.2.1∧z.2.2.2=r.2.2.2∧zbs r.2.2.2=true∧r.1=zaA r.2.2.2:=fun r hr=>by
  rw [hRT] at hr
  obtain ⟨i,_,hi⟩:=List.mem_filterMap.mp hr
  have b:=zen hi
  have b4:=b.2.2.2.1
  rw [ecs] at b4
  unfold chs at b4
  rw [List.getElem?_map] at b4
  obtain ⟨z,hz,ez⟩:=Option.map_eq_some_iff.mp b4
  refine ⟨z,List.mem_of_getElem? hz,?_,ez,b.2.2.2.2.1,b.2.2.1⟩
  unfold zd2
  rw [b.2.1,Int.toNat_natCast,hz]
  rfl
 refine zb0 (fun j xs H'=> ∃ts:List En,xs=ts.map (·.1)∧zbV K H' ts∧ts.map ce=(RT.take j).map rc) (zhs e2) hl1 (by rw [kvm,List.length_map];exact za7 (by omega)) (fun _ _=>⟨[],rfl,(fun z h=>nomatch h),rfl⟩) (fun j x xs H8 K1 K0 hx sm pv hl k1 k0=> ?_) (fun xs H3 s3 pv _ w3=> ?_)
 ·obtain ⟨ts,rfl,tE,tc⟩:=pv
  rw [kvm,List.getElem?_map] at hx
  obtain ⟨r,hr,rfl⟩:=Option.map_eq_some_iff.mp hx
  obtain ⟨z,hz,ez,ec,tm,ed⟩:=rt r (List.mem_of_getElem? hr)
  obtain ⟨pe,ee,q1,q2⟩:=(hE.same (s2.trans sm)) z hz
  obtain ⟨rr,er⟩:=zcP r.2.2.2 tm
  have q2':=q2
  rw [ec,er] at q2'
  rw [ez]
  lgec_open0
  refine ixT q2' (zb7 _ _ _) ⟨zbU (by simp),fun p H5 _ s5 e5=>k1 _ _ s5 fun H6 kp=> ?_⟩
  have hl5:=s5 _ _ hl
  have np:p≠l1:=fun y=>by rw [y,hl5] at e5;cases e5
  refine ⟨ts++ [(.ref p,z.2.1,zaA r.2.2.2,r.2.2.2)],by rw [List.map_append];rfl,fun y hy=> ?_,?_⟩
  ·rcases List.mem_append.mp hy with h|h
   ·exact ((tE.same s5).off hl5 kp) y h
   ·rw [List.mem_singleton.mp h]
    refine ⟨p,rfl,SqT.of (kp _ _ np e5),?_⟩
    have q3:=s5.sqT q2
    rw [ec] at q3
    exact zcS q3 hl5 hl5 fun b o h1 _ h2=>kp b o h1 h2
  ·rw [List.map_append,tc,List.take_add_one,hr,List.map_append]
   show _++ [(zaA r.2.2.2,r.2.2.2)]=_++ [(r.1,r.2.2.2)]
   rw [ed]
 obtain ⟨ts,rfl,tE,tc⟩:=pv
 rw [kvm,List.length_map,List.take_length] at tc
 have s23:=s2.trans s3
 simp only [zbe,zaU,zbK,zbd,zcx,zbc,zcr,zaS,zbJ,zbb,zbm,zbI,tDc,za4,za5,za3,zbG,zbH,zbl,zbn,za2,zaG,zaH,zcq,List.replicate,Option.join_some,Option.join_none,za6,zcv,zbF,zaR,tSl,zcs,zcp,zcu,slT,zcg,Int.reduceLT,Int.reduceLE,Int.reduceToNat,Int.reduceNeg,Int.reduceAdd,Int.reduceSub,Int.reduceMul,forall_const,zcl,zbC,zcn,zcm,zbM,zbD,zcc,zbq,zbt,zcf,zce,tC,tOp,rI,rI0,tUn,rU,zbE,tB,zci,tOr,zcj,zbA,zck,zbB,tIf,zbx,zch,za9,zbk,tCB,zba,rEq,rNe,zaX,zaY,zaZ,za0,za1,zbj,zco,ipI,L2.start,List.map_cons,List.map_nil,List.length_cons,List.length_nil,List.cons_append,List.nil_append,List.append_nil,List.replicate_succ,List.replicate_zero,Nat.reduceAdd,Nat.reduceSub,List.getElem?_cons_zero,List.getElem?_cons_succ,List.set_cons_zero,List.set_cons_succ,Option.some.injEq,V.int.injEq,V.bl.injEq,V.ref.injEq,V.str.injEq,exists_eq_left',exists_eq_left,exists_eq',exists_and_left,List.cons.injEq,and_true,true_and,and_self,and_assoc,decide_eq_true_eq,if_true,if_false,Bool.true_eq_false,Bool.false_eq_true,Bool.not_eq_true',Bool.not_true,Bool.not_false,decide_eq_false_iff_not,ite_true,ite_false,reduceCtorEq,false_and,exists_false,false_or,or_false,and_false,zds,zdz,Nat.reduceLeDiff]
 refine ⟨⟨_,s23.seq hS⟩,fun l2 hl2 aa=> ?_⟩
 refine zb0 (fun j xs _=> ∃os:List En,xs=os.map (·.1)∧(∀y∈os,y∈zs)∧os.map ce=((List.range j).filterMap (zdI es)).map rc) (zb3 (s23.seq hS)) hl2 (by rw [List.length_map];exact za7 (by omega)) (fun _ _=>⟨[],rfl,(fun z h=>nomatch h),rfl⟩) (fun j x xs H8 K1 K0 hx sm pv hl k1 k0=> ?_) (fun xs H4 s4 pv _ w4=> ?_)
 ·obtain ⟨os,rfl,oz,oc⟩:=pv
  obtain ⟨z,hz,rfl⟩: ∃z,zs[j]? =some z∧x=z.1:=by
   rw [List.getElem?_map] at hx
   obtain ⟨u,e,rfl⟩:=Option.map_eq_some_iff.mp hx
   exact ⟨u,e,rfl⟩
  obtain ⟨pe,ee,q1,q2⟩:=(hE.same (s23.trans sm)) z (List.mem_of_getElem? hz)
  obtain ⟨r,er⟩:=zcT z.2.2.2
  rw [er] at q2
  have ez:es[j]? =some (ce z):=by rw [hes,List.getElem?_map,hz];rfl
  have ro:zdI es j=if zc0 z.2.2.2=true then some (z.2.2.1,1,(j:Int),z.2.2.2) else none:=by
   unfold zdI
   rw [ez]
   rfl
  rw [ee]
  lgec_open0
  refine ixT q1 (zb7 _ _ _) (ixT q2 (zbR _ _) ⟨zbU (by simp),fun pg H5 _ s5 e5=>⟨pg,_,rfl, .inr (SqT.of e5),rfl,rfl,_,rfl,?_⟩⟩)
  have iv:inV (.str (SL (chW z.2.2.2))) [V.str (SL [103,114,97,110,116]),V.str (SL [98,97,99,107])]=zc0 z.2.2.2:=by rw [←zkw,←zdF];rfl
  rw [iv]
  by_cases ho:zc0 z.2.2.2=true
  ·refine zbr ho (k1 _ _ s5 fun H6 _=>⟨os++ [z],by rw [List.map_append,←ee];rfl,fun y hy=> ?_,?_⟩)
   ·rcases List.mem_append.mp hy with h|h
    ·exact oz y h
    ·rw [List.mem_singleton.mp h]
     exact List.mem_of_getElem? hz
   ·rw [zfT,ro,if_pos ho,List.map_append,List.map_append,oc]
    rfl
  ·refine zaT ho (k0 _ s5 ⟨os,rfl,oz,?_⟩)
   rw [zfT,ro,if_neg ho,oc]
   simp
 obtain ⟨os,rfl,oz,oc⟩:=pv
 rw [List.length_map,←esl] at oc
 have s24:=s23.trans s4
 have ol:os.length≤40:=by
  have h1:=congrArg List.length oc
  rw [List.length_map,List.length_map] at h1
  have h2:=List.length_filterMap_le (zdI es) (List.range es.length)
  rw [List.length_range] at h2
  omega
 have tl:ts.length≤40:=by
  have h1:=congrArg List.length tc
  rw [List.length_map,List.length_map] at h1
  omega
 try open_k0
 refine ⟨l1,l2,_,_,rfl,rfl,s4 _ _ w3,w4,zbU (by rw [List.length_map,List.length_map];omega),fun r5 H5 _ s5 e5=> ?_⟩
 have s25:=s24.trans s5
 refine ⟨hT.same s25,fun H6 g6 t6=>⟨r5,rfl,?_⟩⟩
 obtain ⟨us,hus⟩: ∃us,us=ts++os:=⟨_,rfl⟩
 have e5':H5 r5=some (.lst (us.map (·.1))):=by rw [e5,hus,List.map_append]
 have uE5:zbV K H5 us:=fun y hy=>by
  rw [hus] at hy
  rcases List.mem_append.mp hy with h|h
  ·exact (tE.same (s4.trans s5)) y h
  ·exact (hE.same s25) y (oz y h)
 have uc:us.map ce=(usR es).map rc:=by rw [hus,List.map_append,tc,oc,hRT];unfold usR;rw [List.map_append]
 have ul:us.length≤63∧us.length=(usR es).length:=by
  have h1:=congrArg List.length uc
  rw [List.length_map,List.length_map] at h1
  have h2:=(zie es).length_eq
  have h3:=List.length_filterMap_le (zgU es) (List.range es.length)
  rw [List.length_range] at h3
  unfold zgV zjK at h2
  exact ⟨by omega,h1⟩
 have hT5:=hT.same s25
 obtain ⟨ps5,et5,_⟩:=id hT5
 have g6s:zcb H5 H6:=zil g6 et5
 have uE6:=zgp uE5 g6s
 have kk:(usR es).map (·.1)=us.map fun u=>u.2.2.1:=by
  have:=congrArg (List.map (·.1)) uc
  rw [List.map_map,List.map_map] at this
  exact this.symm
 refine ⟨us.map (·.1),g6s.lst e5',(usR es).map (·.1),by rw [List.length_map,List.length_map,ul.2],by rw [List.length_map];omega,fun i v z hv hz=> ?_,fun ix hix r7 H7 n7 s7 e7=> ?_⟩
 ·rw [List.getElem?_map] at hv
  obtain ⟨u,hu,rfl⟩:=Option.map_eq_some_iff.mp hv
  rw [kk,List.getElem?_map,hu] at hz
  cases hz
  obtain ⟨pe,ee,q1,_⟩:=uE6 u (List.mem_of_getElem? hu)
  rw [ee]
  exact ixT q1 (zbR _ _) ⟨rfl,rfl⟩
 have inr: ∀i∈ix,i<us.length:=fun i hi=>by
  have:=List.mem_range.mp (hix.1.mem_iff.mp hi)
  rw [List.length_map] at this
  omega
 have gd: ∀i,i<us.length→(us.map (·.1)).getD i .non=(us.getD i (.non,0,0, .back)).1:=fun i hi=>by
  rw [List.getD_eq_getElem?_getD,List.getElem?_map,List.getD_eq_getElem?_getD,List.getElem?_eq_getElem hi]
  rfl
 have e7':H7 r7=some (.lst ((ix.map fun i=>us.getD i (.non,0,0, .back)).map (·.1))):=by
  rw [e7,List.map_map]
  congr 2
  exact List.map_congr_left fun i hi=>gd i (inr i hi)
 have hn:H r7=none:=by
  cases z:H r7 with
  |none=>rfl
  |some o=>
   have z5:=s25 _ _ z
   by_cases y:r7=t.p_12
   ·obtain ⟨ps6,et6,_⟩:=t6
    rw [y,et6] at n7
    cases n7
   ·rw [g6 _ _ y z5] at n7
    cases n7
 refine q r7 _ _ H7 hn ((zcL s25).trans (g6s.trans (zcL s7))) (Tab.same t6 s7) (fun b ps hb hps=>s7 _ _ (g6 _ _ hb (s25 _ _ hps))) e7' (fun y hy=> ?_) (by rw [←hes];exact zhB hix) ?_
 ·obtain ⟨i,hi,rfl⟩:=List.mem_map.mp hy
  exact (uE6.same s7) _ (zcJ (inr i hi))
 ·rw [List.map_map,List.map_map]
  refine List.map_congr_left fun i hi=> ?_
  have li:=inr i hi
  have:=congrArg (fun l=>l[i]?) uc
  simp only [List.getElem?_map,List.getElem?_eq_getElem li,List.getElem?_eq_getElem (show i<(usR es).length by omega),Option.map_some,Option.some.injEq] at this
  show ce (us.getD i _)=rc ((usR es).getD i _)
  rw [List.getD_eq_getElem?_getD,List.getElem?_eq_getElem li,List.getD_eq_getElem?_getD,List.getElem?_eq_getElem (show i<(usR es).length by omega)]
  exact this
def zk1 (K:PySem.W.Frag) (Ts:List Addr):Sp:=fun vs H Q _=> ∃(a:Addr) (ns:List Int),vs= [.ref a]∧SqL K H a (ns.map V.int)∧ns.length≤63∧Ts.Nodup∧(∀T∈Ts,H T=some (.tbl #[]))∧ ∀H',Q (.bl true) H'
abbrev zme:Pos:=⟨375,118,375,147⟩
abbrev zmf:Str:=(("_law_between":Str)++".<locals>.")++"<lambda>"
def ziU (H:Hp) (T:Addr):Prop:=zdW H T zme zmf
theorem ziU.same {H H':Hp} {T:Addr} (h:ziU H T) (s:zao H H'):ziU H' T:=by
 obtain ⟨ps,e,tr,c⟩:=h
 refine ⟨ps,s _ _ e,tr,?_⟩
 rcases c with c|⟨c',c1,c2⟩
 ·exact .inl c
 ·exact .inr ⟨c',c1,s _ _ c2⟩
abbrev Bx:=Addr×Addr×Int×Int×Ch
def zmB (K:PySem.W.Frag) (H:Hp) (x:Bx):Prop:=H x.1=some (.tup [.int x.2.2.1, .int x.2.2.2.1, .ref x.2.1])∧SqT K H x.2.1 ((chD x.2.2.2.2).map sv)
def zdK (K:PySem.W.Frag) (H:Hp) (xs:List Bx):Prop:= ∀x∈xs,zmB K H x
theorem zdK.same {K:PySem.W.Frag} {H H':Hp} {xs:List Bx} (h:zdK K H xs) (s:zao H H'):zdK K H' xs:=fun x hx=>⟨s _ _ (h x hx).1,s.sqT (h x hx).2⟩
theorem zdK.off {K:PySem.W.Frag} {H:Hp} {xs:List Bx} {l:Addr} {ys zs:List V} (h:zdK K H xs) (e:H l=some (.lst ys)):zdK K (upd H l (.lst zs)) xs:=fun x hx=>by
 refine ⟨?_,zcS (h x hx).2 e e fun b o n _ q=>by rw [zau n];exact q⟩
 have h1:=(h x hx).1
 rw [zau (fun y=>by rw [y,e] at h1;cases h1)]
 exact h1
def zbZ (zs:List En) (k:Int):Ch:=(zs.getD k.toNat (.non,0,0, .back)).2.2.2
def zlF (zs:List En) (f e:Int) (ks:List Int) (xs:List Bx):Prop:=xs.map (fun x=>x.2.2.2.1)=ks∧ ∀x∈xs,x.2.2.2.2=zbZ zs x.2.2.2.1∧zbs x.2.2.2.2=true∧f≤x.2.2.1∧x.2.2.1<e
theorem zmC {K:PySem.W.Frag} {H:Hp} {a:Addr} {u v w:V} {Q:VK} (h:SqT K H a [u,v,w]) (q:New H (.tup [u,v]) Q):rSlT K (.ref a) none (some 2) H Q:=
 ⟨a,_,rfl,h,by intro z;exact absurd (show HT.sIx 3 3 (some 2)=3 from z.2) (by decide),fun p hp=>by rw [show zfm [u,v,w] none (some 2)= [u,v] from zh3 _ 2];exact q.at hp⟩
theorem zlG (cs:List Ch) (gs:List Int) (n:Nat):(zdv cs gs n).Pairwise (· < ·):=by
 unfold zdv
 rw [List.pairwise_map]
 exact (List.pairwise_lt_range.filter _).imp fun h=>by omega
theorem zj1 {zs:List En} {mo:Int} (ho:zbQ (chs zs)):(zaD zs mo).Pairwise (· < ·):=by
 unfold zaD
 have uo:zbQ (chs (zs.take (mOf zs mo))):=by rw [zcE];exact ho.take _
 have sd:=(zcI _ uo _ (Nat.le_refl _)).1
 rw [List.take_length] at sd
 rw [sd]
 exact zlG _ _ _
def ziV (K:PySem.W.Frag) (T:Addr):Sp:=fun vs H Q _=> ∃(a b:Addr) (zs:List En) (ns:List Int) (f e:Int),vs= [.ref a, .ref b]∧SqL K H b (ns.map V.int)∧ns.length≤63∧SqL K H a (zs.map (·.1))∧zbV K H zs∧zs.length≤40∧zs.Pairwise (fun a b=>a.2.2.1≤b.2.2.1)∧zbQ (chs zs)∧(∀z∈zs,f≤z.2.2.1∧z.2.2.1<e)∧EnB f e zs∧0≤f∧e≤4000000∧ziU H T∧
 ∀r (rs:List En) (ks:List Int) H',H r=none→zcb H H'→ziU H' T→(∀b ps,b≠T→H b=some (.tbl ps)→H' b=some (.tbl ps))→H' r=some (.lst (rs.map (·.1)))→zbV K H' rs→ks.Perm (zaD zs 4000000)→rs.map (fun z=>z.2.2.2)=ks.map (zbZ zs)→(∀z∈rs,f≤z.2.2.1∧z.2.2.1<e)→rs.Pairwise (fun a b=>a.2.2.1≤b.2.2.1)→ks.Pairwise (fun k m=>zaA (zbZ zs k)=zaA (zbZ zs m)→k<m)→Q (.ref r) H'
theorem sc_1c:FnScope ["_law_entries_here","_law_script","_law_rows","_law_number","_law_change_here","_law_entered","_law_wide","_law_turn","_law_k","_law_j"] ["_law_entries_here","_law_script"] (zap s_1c):=⟨rfl,rfl,rfl,by decide+kernel,rfl,by decide+kernel,by decide+kernel⟩
theorem ok_1c (T:Txt w K mg t) (B:BM mg base):FnOk P w K mg base (CXE P w) 4 t.a_1c t.d_1c ["_law_entries_here","_law_script"] (ziV K t.p_1c):=by
 refine T.fn_1c.okXC T.cc_1c sc_1c (fun vs H Q E h=> ?_) (fun A outer s H vs Q E L hr h=> ?_)
 ·obtain ⟨a,b,zs,ns,f,e,rfl,hN,h63,hS,hE,z40,hp,ho,hB,hEB,f0,e1,hT,q⟩:=h
  rfl
 obtain ⟨a,b,zs,ns,f,e,rfl,hN,h63,hS,hE,z40,hp,ho,hB,hEB,f0,e1,hT,q⟩:=h
 have nd:=sc_1c.nd
 refine ⟨_,(zad (zan (i:=2) nd rfl (Or.inl rfl) (zbg zae)) (zad (zbO (by passes_own) rfl (zbu (zag L.toLv (ok_19 T) (hr.mono (by decide)) (by rfl) T.mg_19 T.fn_19.kp T.b_19 .nil (zaa (pv 0) (zaa zac zae zah) zab))) (zbi (n:=2) rfl (zal (zaj (i:=3) nd rfl (Or.inl rfl)) (zal (zaj (i:=4) nd rfl (Or.inl rfl)) zaV))) (zad (zan (i:=5) nd rfl (Or.inl rfl) (zaq zas (zaq zaI (pv 0) (pv 3) (fun _ _=>rfl)) zac (fun _ _=>rfl))) (zad (zan (i:=6) nd rfl (Or.inl rfl) (zai zaE (zaF zi9 (by rfl) T.no_abs zli (zaa (zai zbP (pv 5) (zaq zas (pv 4) zac (fun _ _=>rfl))) zae)) zac)) (zad (zan (i:=7) nd rfl (Or.inl rfl) (zai zaC (zag L.toLv (ok_14 T) (hr.mono (by decide)) (by rfl) T.mg_14 T.fn_14.kp T.b_14 .nil (zaa (zag L.toLv (ok_13 T) (hr.mono (by decide)) (by rfl) T.mg_13 T.fn_13.kp T.b_13 .nil (zaa (pv 1) (zaa (zai zaE zac (pv 3)) zae zav) zab)) (zaa (zai zaE (pv 3) zac) zae zav) zaB)) (pv 6))) (zaf (zb8 (zdB PySem.F.plainAttrs_list PySem.F.slot_list_append PySem.F.type_list_append zb2 (pv 2) (zaa (zaJ (zaa (zai zaE (zaF (zc6 (by rfl)) (by rfl) T.no_min zeT (zaa (pv 5) (zaa (zaq zas (pv 4) zac (fun _ _=>rfl)) zae zak) zab)) (pv 7)) (zaa (pv 3) (zaa (pv 4) zae zab) zab) zav)) zae)))))))) (zad (zbO (by passes_own) rfl (zbL (by rfl) T.no_range (zaa (zaF zaW (by rfl) T.no_len zct (zaa (pv 2) zae)) zae)) (zaj (i:=8) nd rfl (Or.inl rfl)) (zaf (zbO (by passes_own) rfl (zbL (by rfl) T.no_range (zaa (pv 8) zae)) (zaj (i:=9) nd rfl (Or.inl rfl)) (zaf (zaM (zdj (zar zbv (zaq zas (zaq zas (zaq zaI (pv 2) (pv 9) (fun _ _=>rfl)) zac (fun _ _=>rfl)) zac (fun _ _=>rfl)) (zaq zas (zaq zas (zaq zaI (pv 2) (pv 8) (fun _ _=>rfl)) zac (fun _ _=>rfl)) zac (fun _ _=>rfl)) (zat _)) (zcV (zar zd4 (zaq zas (zaq zaI (pv 2) (pv 9) (fun _ _=>rfl)) zac (fun _ _=>rfl)) (zaq zas (zaq zaI (pv 2) (pv 8) (fun _ _=>rfl)) zac (fun _ _=>rfl)) (zat _)))).pt (zaf (zby (zaJ (zaa (zaq zas (zaq zaI (pv 2) (pv 9) (fun _ _=>rfl)) zac (fun _ _=>rfl)) (zaa (zaq zas (zaq zaI (pv 2) (pv 8) (fun _ _=>rfl)) zac (fun _ _=>rfl)) (zaa (zaq zas (zaq zaI (pv 2) (pv 8) (fun _ _=>rfl)) zac (fun _ _=>rfl)) zae zak) zak) zak)) (zf2 (pv 2) (pv 8) zd5))) zaz))))) (zaf (zaw (zcK (n:=3) (N:= ["_law_entered","_law_number","_law_change_here"]) (js:= []) (by rfl) rfl rfl (zbu (ziH (k:=0) (x:="_law_row") (N:= ["_law_row"]) (hr.mono (by decide)) (by rfl) T.no_sorted (zaa (pv 2) zae) rfl B (fun _ X=>T.tb_1c.hd X) ⟨rfl,rfl,rfl,by decide+kernel,rfl,by decide+kernel,by decide+kernel⟩ (fun _ _ _ _=>rfl) (fun _ _ _ _ _ _=>(zgB (zkt (K:=K) rfl) (pv 0) zhX (zhY zac))))) (fun a=>(zbi (n:=3) rfl (zal (zaj (i:=0) (show List.Nodup (["_law_entered","_law_number","_law_change_here"]:List Str) from by decide+kernel) rfl (Or.inl rfl)) (zal (zaj (i:=1) (show List.Nodup (["_law_entered","_law_number","_law_change_here"]:List Str) from by decide+kernel) rfl (Or.inl rfl)) (zal (zaj (i:=2) (show List.Nodup (["_law_entered","_law_number","_law_change_here"]:List Str) from by decide+kernel) rfl (Or.inl rfl)) zaV))))) (fun a=>zcC) (fun a=>(zaJ (zaa (pv 0) (zaa (pv 2) zae zab) zab))))))))),?_⟩
 open_k0
 intro l1 H1 n1 s1 g1
 ((try dsimp only);refine zbX fun R hR=> ?_;lge_open0)
 refine ⟨a,zs,4000000,rfl,s1.seq hS,hE.same s1,z40,hp,ho,fun r as H2 n2 s2 e2 told=>⟨r,rfl,⟨_,SqL.of e2⟩,hR _ _ ?_⟩⟩
 clear hR
 obtain ⟨L,hL⟩: ∃L,L=zaD zs 4000000:=⟨_,rfl⟩
 obtain ⟨knd,kin⟩:=zdJ (mo:=4000000) hp ho
 rw [←hL] at told knd kin q
 have Ll:L.length≤40:=by
  rw [hL]
  unfold zaD
  have:=zcH (chs (zs.take (mOf zs 4000000)))
  rw [zbW,List.length_take] at this
  omega
 have s12:=s1.trans s2
 have rl:r≠l1:=fun z=>by rw [z,g1] at n2;cases n2
 have told_off: ∀{H3:Hp} {xs ys:List V},zfj H3 zs L as→H3 l1=some (.lst xs)→zfj (upd H3 l1 (.lst ys)) zs L as:=fun h e=>⟨h.1,fun i p k h1 h2=>by
  obtain ⟨z,h3,h4⟩:=h.2 i p k h1 h2
  exact ⟨z,h3,by rw [zau (fun y=>by rw [y,e] at h4;cases h4)];exact h4⟩⟩
 obtain ⟨Pv,hPv⟩: ∃Pv:Nat→St→Hp→Prop,Pv=fun (i:Nat) σ1 H3=>zao H H3∧H3 r=some (.lst (as.map V.ref))∧zfj H3 zs L as∧ ∃(ws:List Bx) (x3 x4 x5 x6 x7:Option V),H3 l1=some (.lst (ws.map fun w=>V.ref w.1))∧zdK K H3 ws∧zlF zs f e (L.take i) ws∧σ1= [some (.ref a),some (.ref b),some (.ref l1),x3,x4,x5,x6,x7,none,none]:=⟨_,rfl⟩
 refine zcz (xs:=as.map V.ref) Pv (by rw [hPv];exact ⟨s12,e2,told, [],_,_,_,_,_,s2 _ _ g1,(fun x h=>nomatch h),⟨rfl,(fun x h=>nomatch h)⟩,rfl⟩) (fun _ _ _ _ h=>by rw [hPv] at h;exact SqL.of h.2.1) (fun i x σ1 H3 hx h=> ?_) (fun σ1 H3 h=> ?_)
 ·rw [hPv] at h
  obtain ⟨s3,e3,t3,ws,x3,x4,x5,x6,x7,g3,wA,wO,rfl⟩:=h
  rw [List.getElem?_map] at hx
  obtain ⟨u,hu,rfl⟩:=Option.map_eq_some_iff.mp hx
  have ui:=(List.getElem?_eq_some_iff.mp hu).1
  have li:i<L.length:=by rw [←t3.1];exact ui
  have hk:L[i]? =some (L[i]'li):=List.getElem?_eq_getElem li
  obtain ⟨z,hz,eu⟩:=t3.2 i u _ hu hk
  obtain ⟨z',k0,hz',tm⟩:=kin _ (List.mem_of_getElem? hk)
  rw [hz] at hz'
  cases hz'
  generalize L[i]'li=k at hk hz eu k0
  obtain ⟨kn,rfl⟩:=Int.eq_ofNat_of_zero_le k0
  rw [Int.toNat_natCast] at hz
  have kl:=(List.getElem?_eq_some_iff.mp hz).1
  obtain ⟨pe,ee,q1,q2⟩:=(hE.same s3) z (List.mem_of_getElem? hz)
  obtain ⟨rr,er⟩:=zcP z.2.2.2 tm
  have q2h:=q2
  rw [er] at q2h
  have zb:=hB z (List.mem_of_getElem? hz)
  have tb:=hEB z (List.mem_of_getElem? hz) tm
  have wl:ws.length≤40:=by
   have:=congrArg List.length wO.1
   rw [List.length_map,List.length_take] at this
   omega
  have done: ∀(d:Int) (pn:Addr) (H5:Hp) (y3 y4 y5 y6 y7:Option V),zao H3 H5→H5 pn=some (.tup [.int d, .int (kn:Int), .ref z.2.1])→f≤d→d<e→Pv (i+1) [some (.ref a),some (.ref b),some (.ref l1),y3,y4,y5,y6,y7,none,none] (upd H5 l1 (.lst ((ws.map fun w=>V.ref w.1)++ [.ref pn]))):=fun d pn H5 y3 y4 y5 y6 y7 s5 e5 d0 d1=>by
   have g5:=s5 _ _ g3
   rw [hPv]
   refine ⟨(s3.trans s5).put n1 _,by rw [zau rl];exact s5 _ _ e3,told_off (t3.same s5) g5,ws++ [(pn,z.2.1,d,(kn:Int),z.2.2.2)],_,_,_,_,_,by rw [zay,List.map_append];rfl,zdK.off (fun x hx=> ?_) g5,⟨by rw [List.map_append,wO.1,List.take_add_one,hk];rfl,fun x hx=> ?_⟩,rfl⟩
   ·rcases List.mem_append.mp hx with h|h
    ·exact (wA.same s5) x h
    ·rw [List.mem_singleton.mp h]
     exact ⟨e5,s5.sqT q2⟩
   ·rcases List.mem_append.mp hx with h|h
    ·exact wO.2 x h
    ·rw [List.mem_singleton.mp h]
     refine ⟨?_,tm,d0,d1⟩
     show z.2.2.2=zbZ zs (kn:Int)
     unfold zbZ
     rw [Int.toNat_natCast,List.getD_eq_getElem?_getD,hz]
     rfl
  clear hPv
  w_why
  refine ⟨u,_,rfl,SqT.of eu,rfl,?_⟩
  w_why
  refine ixL (v:=z.1) (s3.seq hS) (zbw (by rw [List.getElem?_map,hz];rfl)) ?_
  rw [ee]
  refine ixT q1 (zbR _ _) (ixT q2h (zb7 _ _ _) ?_)
  refine ⟨_,rfl,_,rfl,b,ns,4+(kn:Int),rfl,s3.seq hN,h63,by omega,_,(kn:Int)+50,rfl,by omega,by omega,fun m m0 m1=>⟨m,rfl,?_, .inl ⟨rfl,_,SqL.of g3⟩,ixT q2h (zb7 _ _ _) ⟨_,rfl,_,rfl,fun pn H5 _ s5 e5=>⟨l1,_,_,rfl,rfl,s5 _ _ g3,za7 (by rw [List.length_map];omega),done _ pn H5 _ _ _ _ _ s5 e5 ?_ ?_⟩⟩⟩⟩
  ·split<;>omega
  ·obtain ⟨_,t0,t1,_⟩:=tb
   have m2:0≤m % ((if z.2.2.1 - zaA z.2.2.2<0 then -(z.2.2.1 - zaA z.2.2.2) else z.2.2.1 - zaA z.2.2.2)+1):=Int.emod_nonneg _ (by split<;>omega)
   split<;>omega
  ·obtain ⟨_,t0,t1,_⟩:=tb
   have m2:m % ((if z.2.2.1 - zaA z.2.2.2<0 then -(z.2.2.1 - zaA z.2.2.2) else z.2.2.1 - zaA z.2.2.2)+1)<((if z.2.2.1 - zaA z.2.2.2<0 then -(z.2.2.1 - zaA z.2.2.2) else z.2.2.1 - zaA z.2.2.2)+1):=Int.emod_lt_of_pos _ (by split<;>omega)
   generalize m % ((if z.2.2.1 - zaA z.2.2.2<0 then -(z.2.2.1 - zaA z.2.2.2) else z.2.2.1 - zaA z.2.2.2)+1)=mm at m2 ⊢
   split at m2<;>split<;>omega
 rw [hPv] at h
 clear hPv
 obtain ⟨s3,e3,t3,ws,x3,x4,x5,x6,x7,g3,wA,wO,rfl⟩:=h
 rw [List.length_map,t3.1,List.take_length] at wO
 have wl:ws.length≤40:=by
  have:=congrArg List.length wO.1
  rw [List.length_map] at this
  omega
 ((try dsimp only);refine zbX fun R hR=> ?_;lge_open0)
 refine ⟨_, .inl (SqL.of g3),?_⟩
 rw [List.length_map]
 refine ⟨by omega,by omega,hR _ _ ?_⟩
 clear hR
 rw [Int.toNat_natCast]
 obtain ⟨Pw,hPw⟩: ∃Pw:Nat→St→Hp→Prop,Pw=fun (k:Nat) σ1 H4=>zao H H4∧ ∃(vs:List Bx) (x3 x4 x5 x6 x7 x8 x9:Option V),H4 l1=some (.lst (vs.map fun w=>V.ref w.1))∧zdK K H4 vs∧zlF zs f e L vs∧(∀(i j:Nat) (x y:Bx),i<j→j<k→vs[i]? =some x→vs[j]? =some y→zaA x.2.2.2.2=zaA y.2.2.2.2→x.2.2.1≤y.2.2.1)∧σ1= [some (.ref a),some (.ref b),some (.ref l1),x3,x4,x5,x6,x7,x8,x9]:=⟨_,rfl⟩
 refine zb1 (n:=ws.length) Pw (by rw [hPw];exact ⟨s3,ws,_,_,_,_,_,_,_,g3,wA,wO,(fun i j x y _ h=>by omega),rfl⟩) (fun k σ1 H4 hk h=> ?_) (fun σ1 H4 h=> ?_)
 ·rw [hPw] at h
  obtain ⟨s4,vs,y3,y4,y5,y6,y7,y8,y9,g4,vA,vO,ord,rfl⟩:=h
  ((try dsimp only);refine zbX fun R hR=> ?_;lge_open0)
  refine ⟨by omega,by omega,hR _ _ ?_⟩
  clear hR
  rw [Int.zero_add,Int.toNat_natCast]
  obtain ⟨Pu,hPu⟩: ∃Pu:Nat→St→Hp→Prop,Pu=fun (m:Nat) σ1 H5=>zao H H5∧ ∃(us:List Bx) (x9:Option V),H5 l1=some (.lst (us.map fun w=>V.ref w.1))∧zdK K H5 us∧zlF zs f e L us∧(∀(i j:Nat) (x y:Bx),i<j→j<k→us[i]? =some x→us[j]? =some y→zaA x.2.2.2.2=zaA y.2.2.2.2→x.2.2.1≤y.2.2.1)∧(∀(i:Nat) (x y:Bx),i<m→us[i]? =some x→us[k]? =some y→zaA x.2.2.2.2=zaA y.2.2.2.2→x.2.2.1≤y.2.2.1)∧σ1= [some (.ref a),some (.ref b),some (.ref l1),y3,y4,y5,y6,y7,some (.int (k:Int)),x9]:=⟨_,rfl⟩
  refine zb1 (n:=k) Pu (by rw [hPu];exact ⟨s4,vs,_,g4,vA,vO,ord,(fun i x y h=>by omega),rfl⟩) (fun m σ1 H5 hm h=> ?_) (fun σ1 H5 h=> ?_)
  ·rw [hPu] at h
   obtain ⟨s5,us,z9,g5,uA,uO,ord5,ok5,rfl⟩:=h
   have ul:us.length=ws.length:=by
    have h1:=congrArg List.length uO.1
    have h2:=congrArg List.length wO.1
    rw [List.length_map] at h1 h2
    omega
   have hx:us[m]? =some (us[m]'(by omega)):=List.getElem?_eq_getElem _
   have hy:us[k]? =some (us[k]'(by omega)):=List.getElem?_eq_getElem _
   generalize us[m]'(by omega)=x at hx
   generalize us[k]'(by omega)=y at hy
   have xA:=uA x (List.mem_of_getElem? hx)
   have yA:=uA y (List.mem_of_getElem? hy)
   have xO:=uO.2 x (List.mem_of_getElem? hx)
   have yO:=uO.2 y (List.mem_of_getElem? hy)
   obtain ⟨rx,ex⟩:=zcP x.2.2.2.2 xO.2.1
   obtain ⟨ry,ey⟩:=zcP y.2.2.2.2 yO.2.1
   have x2:=xA.2
   have y2:=yA.2
   rw [ex] at x2
   rw [ey] at y2
   open_k0
   rw [Int.zero_add]
   have ix: ∀{Q:VK},Q (.ref x.1) H5→ziv K (.ref l1) (.int (m:Int)) H5 Q:=fun h=>ixL (SqL.of g5) (zbw (by rw [List.getElem?_map,hx];rfl)) h
   have iy: ∀{Q:VK},Q (.ref y.1) H5→ziv K (.ref l1) (.int (k:Int)) H5 Q:=fun h=>ixL (SqL.of g5) (zbw (by rw [List.getElem?_map,hy];rfl)) h
   refine ix (ixT (SqT.of xA.1) (zdw _ _ _ _) (ixT x2 (zb7 _ _ _) (iy (ixT (SqT.of yA.1) (zdw _ _ _ _) (ixT y2 (zb7 _ _ _) ?_)))))
   have stay:(zaA x.2.2.2.2=zaA y.2.2.2.2→x.2.2.1≤y.2.2.1)→Pu (m+1) [some (.ref a),some (.ref b),some (.ref l1),y3,y4,y5,y6,y7,some (.int (k:Int)),some (.int (m:Int))] H5:=fun h=>by
    rw [hPu]
    refine ⟨s5,us,_,g5,uA,uO,ord5,fun i x' y' hi hx' hy' e'=> ?_,rfl⟩
    by_cases z:i=m
    ·subst z
     rw [hx] at hx'
     rw [hy] at hy'
     cases hx'
     cases hy'
     exact h e'
    ·exact ok5 i x' y' (by omega) hx' hy' e'
   by_cases eqd:zaA x.2.2.2.2=zaA y.2.2.2.2
   ·refine ⟨rfl,zbr (by rw [eqd]) ?_⟩
    refine ix (ixT (SqT.of xA.1) (zbR _ _) (iy (ixT (SqT.of yA.1) (zbR _ _) ⟨_,rfl,_,rfl,zbY (fun lt=> ?_) (fun ge=>stay fun _=>by omega)⟩)))
    refine ix (ixT (SqT.of xA.1) (zbR _ _) (iy (ixT (SqT.of yA.1) (zb7 _ _ _) (iy (ixT (SqT.of yA.1) (zdw _ _ _ _) fun pn H6 _ s6 e6=> ?_)))))
    have g6:=s6 _ _ g5
    refine ⟨.ref l1,rfl, .int (k:Int),rfl,l1,_,(k:Int),k,rfl,rfl,g6,by rw [List.length_map];unfold ixN;rw [if_pos (by omega),if_pos (by omega),Int.toNat_natCast],?_⟩
    rw [hPu]
    obtain ⟨y',hy'⟩: ∃y':Bx,y'=(pn,y.2.1,x.2.2.1,y.2.2.2.1,y.2.2.2.2):=⟨_,rfl⟩
    have sk:(us.set k y')[k]? =some y':=List.getElem?_set_self (by omega)
    have sn: ∀i,i≠k→(us.set k y')[i]? =us[i]? :=fun i hi=>List.getElem?_set_ne (Ne.symm hi)
    refine ⟨(s5.trans s6).put n1 _,us.set k y',_,by rw [zay,List.map_set,hy'],zdK.off (fun w hw=> ?_) g6,⟨?_,fun w hw=> ?_⟩,fun i j v w hij hjk hv hw e'=> ?_,fun i v w hi hv hw e'=> ?_,rfl⟩
    ·rcases List.mem_or_eq_of_mem_set hw with h|rfl
     ·exact (uA.same s6) w h
     ·rw [hy']
      exact ⟨e6,s6.sqT yA.2⟩
    ·rw [←uO.1]
     refine List.ext_getElem? fun i=> ?_
     rw [List.getElem?_map,List.getElem?_map]
     by_cases z:i=k
     ·subst z
      rw [sk,hy,hy']
      rfl
     ·rw [sn i z]
    ·rcases List.mem_or_eq_of_mem_set hw with h|rfl
     ·exact uO.2 w h
     ·rw [hy']
      exact ⟨yO.1,yO.2.1,xO.2.2.1,xO.2.2.2⟩
    ·rw [sn i (by omega)] at hv
     rw [sn j (by omega)] at hw
     exact ord5 i j v w hij hjk hv hw e'
    ·rw [sn i (by omega)] at hv
     rw [sk] at hw
     cases hw
     rw [hy'] at e' ⊢
     by_cases z:i=m
     ·subst z
      rw [hx] at hv
      cases hv
      exact Int.le_refl _
     ·have:=ok5 i v y (by omega) hv hy e'
      show v.2.2.1≤x.2.2.1
      omega
   ·exact ⟨rfl,zaT (fun z=>eqd (by rw [V.int.injEq] at z;exact z)) (stay fun h=>absurd h eqd)⟩
  ·rw [hPu] at h
   obtain ⟨s5,us,z9,g5,uA,uO,ord5,ok5,rfl⟩:=h
   rw [hPw]
   refine ⟨s5,us,_,_,_,_,_,_,_,g5,uA,uO,fun i j v w hij hjk hv hw e'=> ?_,rfl⟩
   by_cases z:j=k
   ·subst z
    exact ok5 i v w hij hv hw e'
   ·exact ord5 i j v w hij (by omega) hv hw e'
 rw [hPw] at h
 clear hPw
 obtain ⟨s4,vs,y3,y4,y5,y6,y7,y8,y9,g4,vA,vO,ord,rfl⟩:=h
 simp only [zbe,zaU,zbK,zbd,zcx,zbc,zcr,zaS,zbJ,zbb,zbm,zbI,tDc,za4,za5,za3,zbG,zbH,zbl,zbn,za2,zaG,zaH,zcq,List.replicate,Option.join_some,Option.join_none,za6,zcv,zbF,zaR,tSl,zcs,zcp,zcu,slT,zcg,Int.reduceLT,Int.reduceLE,Int.reduceToNat,Int.reduceNeg,Int.reduceAdd,Int.reduceSub,Int.reduceMul,forall_const,zcl,zbC,zcn,zcm,zbM,zbD,zcc,zbq,zbt,zcf,zce,tC,tOp,rI,rI0,tUn,rU,zbE,tB,zci,tOr,zcj,zbA,zck,zbB,tIf,zbx,zch,za9,zbk,tCB,zba,rEq,rNe,zaX,zaY,zaZ,za0,za1,zbj,zco,ipI,L2.start,List.map_cons,List.map_nil,List.length_cons,List.length_nil,List.cons_append,List.nil_append,List.append_nil,List.replicate_succ,List.replicate_zero,Nat.reduceAdd,Nat.reduceSub,List.getElem?_cons_zero,List.getElem?_cons_succ,List.set_cons_zero,List.set_cons_succ,Option.some.injEq,V.int.injEq,V.bl.injEq,V.ref.injEq,V.str.injEq,exists_eq_left',exists_eq_left,exists_eq',exists_and_left,List.cons.injEq,and_true,true_and,and_self,and_assoc,decide_eq_true_eq,if_true,if_false,Bool.true_eq_false,Bool.false_eq_true,Bool.not_eq_true',Bool.not_true,Bool.not_false,decide_eq_false_iff_not,ite_true,ite_false,reduceCtorEq,false_and,exists_false,false_or,or_false,and_false,zds,zdz,Nat.reduceLeDiff]
 refine ⟨hT.same s4,fun H5 gr t5=> ?_⟩
 obtain ⟨ps4,et4,_⟩:=id (hT.same s4)
 have gs:zcb H4 H5:=zil gr et4
 have vl:vs.length≤40:=by
  have:=congrArg List.length vO.1
  rw [List.length_map] at this
  omega
 have Lup:L.Pairwise (· < ·):=by rw [hL];exact zj1 ho
 have vA5: ∀w∈vs,H5 w.1=some (.tup [.int w.2.2.1, .int w.2.2.2.1, .ref w.2.1])∧SqT K H5 w.2.1 ((chD w.2.2.2.2).map sv):=fun w hw=>⟨gs.tup (vA w hw).1,gs.sqT (vA w hw).2⟩
 have vup:vs.Pairwise (fun x y=>x.2.2.2.1<y.2.2.2.1):=by
  rw [←vO.1,List.pairwise_map] at Lup
  exact Lup
 refine ⟨_,gs.lst g4,vs.map (fun w=>(w.2.2.1,w.2.2.2.1)),by rw [List.length_map,List.length_map],by rw [List.length_map];omega,fun i v z H6 hv hz s6=> ?_,fun z hz=> ?_,?_,fun ix H6 s6 hix r7 H7 n7 s7 e7=>⟨r7,rfl,⟨_,SqL.of e7⟩,fun l8 hl8 aa=> ?_⟩⟩
 ·rw [List.getElem?_map] at hv hz
  obtain ⟨w,hw,rfl⟩:=Option.map_eq_some_iff.mp hv
  rw [hw] at hz
  cases hz
  exact zmC (SqT.of (s6 _ _ (vA5 w (List.mem_of_getElem? hw)).1)) fun qq H8 _ s8 e8=>⟨s8,qq,rfl,e8⟩
 ·obtain ⟨w,hw,rfl⟩:=List.mem_map.mp hz
  have:w.2.2.2.1∈L:=by rw [←vO.1];exact List.mem_map.mpr ⟨w,hw,rfl⟩
  obtain ⟨z',k0,hz',_⟩:=kin _ this
  have:=(List.getElem?_eq_some_iff.mp hz').1
  exact ⟨k0,by show w.2.2.2.1<64;omega⟩
 ·rw [List.pairwise_map]
  exact vup.imp fun h=>Int.ne_of_lt h
 obtain ⟨hix1,hix2⟩:=hix
 rw [List.length_map] at hix1
 have inr: ∀i∈ix,i<vs.length:=fun i hi=>List.mem_range.mp (hix1.mem_iff.mp hi)
 obtain ⟨ss,hss⟩: ∃ss,ss=ix.map fun i=>vs.getD i (0,0,0,0, .back):=⟨_,rfl⟩
 have ssv:ss.Perm vs:=by
  have:=hix1.map fun i=>vs.getD i (0,0,0,0, .back)
  rw [zcU,←hss] at this
  exact this
 have e7':H7 r7=some (.lst (ss.map fun w=>V.ref w.1)):=by
  rw [e7,hss,List.map_map]
  congr 2
  refine List.map_congr_left fun i hi=> ?_
  rw [List.getD_eq_getElem?_getD,List.getElem?_map,List.getElem?_eq_getElem (inr i hi)]
  show V.ref (vs[i]'(inr i hi)).1=V.ref (vs.getD i (0,0,0,0, .back)).1
  rw [List.getD_eq_getElem?_getD,List.getElem?_eq_getElem (inr i hi)]
  rfl
 have sl:ss.length≤40:=by have:=ssv.length_eq;omega
 have sA7: ∀w∈ss,H7 w.1=some (.tup [.int w.2.2.1, .int w.2.2.2.1, .ref w.2.1])∧SqT K H7 w.2.1 ((chD w.2.2.2.2).map sv):=fun w hw=>by
  have:=vA5 w (ssv.mem_iff.mp hw)
  exact ⟨s7 _ _ (s6 _ _ this.1),s7.sqT (s6.sqT this.2)⟩
 refine zb0 (fun j xs H'=> ∃rs:List En,xs=rs.map (·.1)∧zbV K H' rs∧rs.map (fun z=>(z.2.2.1,z.2.2.2))=(ss.take j).map (fun w=>(w.2.2.1,w.2.2.2.2))) (zb3 (SqL.of e7')) hl8 (by rw [List.length_map];exact za7 (by omega)) (fun _ _=>⟨[],rfl,(fun z h=>nomatch h),rfl⟩) (fun j x xs H9 K1 K0 hx sm pv hl k1 k0=> ?_) (fun xs H8 s8 pv _ w8=> ?_)
 ·obtain ⟨rs,rfl,rE,rc'⟩:=pv
  rw [List.getElem?_map] at hx
  obtain ⟨w,hw,rfl⟩:=Option.map_eq_some_iff.mp hx
  have wA:=sA7 w (List.mem_of_getElem? hw)
  lgec_open0
  refine ⟨w.1,_,rfl,SqT.of (sm _ _ wA.1),rfl,?_⟩
  lgec_open0
  refine ⟨zbU (by decide),fun pn H5' _ s5' e5'=> ?_⟩
  have hl5:=s5' _ _ hl
  have np:pn≠l8:=fun y=>by rw [y,hl5] at e5';cases e5'
  refine k1 _ _ s5' fun H6' kp=>⟨rs++ [(.ref pn,w.2.1,w.2.2.1,w.2.2.2.2)],by rw [List.map_append];rfl,fun y hy=> ?_,by rw [List.map_append,rc',List.take_add_one,hw,List.map_append];rfl⟩
  rcases List.mem_append.mp hy with h|h
  ·exact ((rE.same s5').off hl5 kp) y h
  ·rw [List.mem_singleton.mp h]
   exact ⟨pn,rfl,SqT.of (kp _ _ np e5'),zcS (s5'.sqT (sm.sqT wA.2)) hl5 hl5 fun b o h1 _ h2=>kp b o h1 h2⟩
 obtain ⟨rs,rfl,rE,rc'⟩:=pv
 rw [List.length_map,List.take_length] at rc'
 have s57:zao H5 H8:=(s6.trans s7).trans s8
 have hn8:H l8=none:=by
  cases z:H l8 with
  |none=>rfl
  |some o=>
   have z4:=s4 _ _ z
   by_cases y:l8=t.p_1c
   ·obtain ⟨ps5,et5,_⟩:=t5
    rw [y,s7 _ _ (s6 _ _ et5)] at hl8
    cases hl8
   ·rw [s7 _ _ (s6 _ _ (gr _ _ y z4))] at hl8
    cases hl8
 have mem: ∀z∈rs,∃w∈ss,z.2.2.1=w.2.2.1∧z.2.2.2=w.2.2.2.2:=fun z hz=>by
  have h1:(z.2.2.1,z.2.2.2)∈rs.map (fun z=>(z.2.2.1,z.2.2.2)):=List.mem_map.mpr ⟨z,hz,rfl⟩
  rw [rc'] at h1
  obtain ⟨w,hw,e'⟩:=List.mem_map.mp h1
  injection e' with e1 e2
  exact ⟨w,hw,e1.symm,e2.symm⟩
 have pss:ss.Pairwise (fun x y=>x.2.2.1<y.2.2.1∨x.2.2.1=y.2.2.1∧x.2.2.2.1<y.2.2.2.1):=by
  rw [hss,List.pairwise_map]
  refine hix2.imp_of_mem fun {i j} hi hj hr=> ?_
  have gi: ∀i,i<vs.length→(vs.map (fun w=>(w.2.2.1,w.2.2.2.1))).getD i (0,0)=((vs.getD i (0,0,0,0, .back)).2.2.1,(vs.getD i (0,0,0,0, .back)).2.2.2.1):=fun i h=>by
   rw [List.getD_eq_getElem?_getD,List.getElem?_map,List.getElem?_eq_getElem h,List.getD_eq_getElem?_getD,List.getElem?_eq_getElem h]
   rfl
  rw [gi i (inr i hi),gi j (inr j hj)] at hr
  exact hr
 refine q l8 rs (ss.map fun w=>w.2.2.2.1) H8 hn8 (((zcL s4).trans gs).trans (zcL s57)) (ziU.same t5 s57) (fun b' ps hb hps=>s57 _ _ (gr _ _ hb (s4 _ _ hps))) w8 rE (by rw [←vO.1];exact ssv.map _) ?_ (fun z hz=> ?_) ?_ ?_
 ·have:=congrArg (List.map Prod.snd) rc'
  rw [List.map_map,List.map_map] at this
  rw [show rs.map (fun z=>z.2.2.2)=rs.map (Prod.snd ∘ fun z=>(z.2.2.1,z.2.2.2)) from rfl,this,List.map_map]
  exact List.map_congr_left fun w hw=>(vO.2 w (ssv.mem_iff.mp hw)).1
 ·obtain ⟨w,hw,e1,_⟩:=mem z hz
  have:=vO.2 w (ssv.mem_iff.mp hw)
  rw [e1]
  exact this.2.2
 ·have h1:(rs.map (fun z=>(z.2.2.1,z.2.2.2))).Pairwise (fun x y=>x.1≤y.1):=by
   rw [rc',List.pairwise_map]
   exact pss.imp fun h=>by show _≤_;omega
  rw [List.pairwise_map] at h1
  exact h1
 ·rw [List.pairwise_map]
  refine pss.imp_of_mem fun {x y} hx hy hr e'=> ?_
  have xv:=ssv.mem_iff.mp hx
  have yv:=ssv.mem_iff.mp hy
  rw [←(vO.2 x xv).1,←(vO.2 y yv).1] at e'
  obtain ⟨i,hi⟩:=List.mem_iff_getElem?.mp xv
  obtain ⟨j,hj⟩:=List.mem_iff_getElem?.mp yv
  have il:=List.getElem?_eq_some_iff.mp hi
  have jl:=List.getElem?_eq_some_iff.mp hj
  have i1:=il.1
  rcases Nat.lt_trichotomy i j with h|h|h
  ·have:=List.pairwise_iff_getElem.mp vup i j il.1 jl.1 h
   rw [il.2,jl.2] at this
   exact this
  ·subst h
   rw [hi] at hj
   cases hj
   omega
  ·have:=ord j i y x h (by
    have h1:=congrArg List.length vO.1
    have h2:=congrArg List.length wO.1
    rw [List.length_map] at h1 h2
    omega) hj hi e'.symm
   have h2:=List.pairwise_iff_getElem.mp vup j i jl.1 il.1 h
   rw [il.2,jl.2] at h2
   omega
def zlH (K:PySem.W.Frag):Sp:=fun vs H Q _=> ∃(l:Addr) (ls:List (Addr×List En)),vs= [.ref l]∧H l=some (.lst (ls.map fun p=>V.ref p.1))∧(∀p∈ls,SqL K H p.1 (p.2.map (·.1))∧zbV K H p.2)∧ ∀m:Int,(∀p∈ls,∀z∈p.2,z.2.2.1≤m)→Q (.int m) H
theorem sc_1d:FnScope ["_law_lists","_law_last_here","_law_entries_here","_law_entered","_law_change_here"] ["_law_lists"] (zap s_1d):=⟨rfl,rfl,rfl,by decide+kernel,rfl,by decide+kernel,by decide+kernel⟩
theorem ok_1d (T:Txt w K mg t):FnOk P w K mg base (CXE P w) 1 t.a_1d t.d_1d ["_law_lists"] (zlH K):=by
 refine T.fn_1d.okX sc_1d (fun vs H Q E h=> ?_) (fun cdv A outer s H vs Q E L hr h=> ?_)
 ·obtain ⟨l,ls,rfl,hl,hA,q⟩:=h
  rfl
 obtain ⟨l,ls,rfl,hl,hA,q⟩:=h
 have nd:=sc_1d.nd
 refine ⟨_,(zad (zan (i:=1) nd rfl (Or.inl rfl) zac) (zad (zbO (by passes_own) rfl (zbu (pv 0)) (zaj (i:=2) nd rfl (Or.inl rfl)) (zaf (zbO (by passes_own) rfl (zbu (pv 2)) (zbi (n:=2) rfl (zal (zaj (i:=3) nd rfl (Or.inl rfl)) (zal (zaj (i:=4) nd rfl (Or.inl rfl)) zaV))) (zaf (zan (i:=1) nd rfl (Or.inl rfl) (zaF (zfv (by rfl)) (by rfl) T.no_max zjf (zaa (pv 1) (zaa (pv 3) zae zab) zab))))))) (zaf (zaw (pv 1))))),?_⟩
 open_k0
 ((try dsimp only);refine zbX fun R hR=> ?_;lge_open0)
 refine ⟨⟨_,SqL.of hl⟩,hR _ _ ?_⟩
 clear hR
 obtain ⟨Pv,hPv⟩: ∃Pv:Nat→St→Hp→Prop,Pv=fun (i:Nat) σ1 H1=>H1=H∧ ∃(m:Int) (x2 x3 x4:Option V),(∀(j:Nat) p,j<i→ls[j]? =some p→ ∀z∈p.2,z.2.2.1≤m)∧σ1= [some (.ref l),some (.int m),x2,x3,x4]:=⟨_,rfl⟩
 refine zcz (xs:=ls.map fun p=>V.ref p.1) Pv (by rw [hPv];exact ⟨rfl,0,_,_,_,(fun j p h=>by omega),rfl⟩) (fun _ _ _ _ h=>by rw [hPv] at h;rw [h.1];exact SqL.of hl) (fun i x σ1 H1 hx h=> ?_) (fun σ1 H1 h=> ?_)
 ·rw [hPv] at h
  obtain ⟨rfl,m,x2,x3,x4,hm,rfl⟩:=h
  rw [List.getElem?_map] at hx
  obtain ⟨p,hp,rfl⟩:=Option.map_eq_some_iff.mp hx
  obtain ⟨pS,pE⟩:=hA p (List.mem_of_getElem? hp)
  ((try dsimp only);refine zbX fun R hR=> ?_;lge_open0)
  refine ⟨⟨_,pS⟩,hR _ _ ?_⟩
  clear hR
  obtain ⟨Pu,hPu⟩: ∃Pu:Nat→St→Hp→Prop,Pu=fun (k:Nat) σ1 H2=>H2=H1∧ ∃(m':Int) (x3 x4:Option V),m≤m'∧(∀(j:Nat) z,j<k→p.2[j]? =some z→z.2.2.1≤m')∧σ1= [some (.ref l),some (.int m'),some (.ref p.1),x3,x4]:=⟨_,rfl⟩
  refine zcz (xs:=p.2.map (·.1)) Pu (by rw [hPu];exact ⟨rfl,m,_,_,Int.le_refl _,(fun j z h=>by omega),rfl⟩) (fun _ _ _ _ h=>by rw [hPu] at h;rw [h.1];exact pS) (fun k x σ1 H2 hx h=> ?_) (fun σ1 H2 h=> ?_)
  ·rw [hPu] at h
   obtain ⟨rfl,m',y3,y4,mm,hk,rfl⟩:=h
   rw [List.getElem?_map] at hx
   obtain ⟨z,hz,rfl⟩:=Option.map_eq_some_iff.mp hx
   obtain ⟨pe,ee,q1,q2⟩:=pE z (List.mem_of_getElem? hz)
   rw [ee]
   open_k0
   refine ⟨pe,_,rfl,q1,rfl,?_⟩
   open_k0
   rw [hPu]
   refine ⟨rfl,_,_,_,?_,fun j z' hj hz'=> ?_,rfl⟩
   ·split<;>omega
   ·by_cases y:j=k
    ·subst y
     rw [hz] at hz'
     cases hz'
     split<;>omega
    ·have:=hk j z' (by omega) hz'
     split<;>omega
  ·rw [hPu] at h
   obtain ⟨rfl,m',y3,y4,mm,hk,rfl⟩:=h
   rw [hPv]
   refine ⟨rfl,m',_,_,_,fun j p' hj hp' z hz=> ?_,rfl⟩
   by_cases y:j=i
   ·subst y
    rw [hp] at hp'
    cases hp'
    obtain ⟨k,hk'⟩:=List.mem_iff_getElem?.mp hz
    exact hk k z (by rw [List.length_map];exact (List.getElem?_eq_some_iff.mp hk').1) hk'
   ·exact Int.le_trans (hm j p' (by omega) hp' z hz) mm
 ·rw [hPv] at h
  obtain ⟨rfl,m,x2,x3,x4,hm,rfl⟩:=h
  open_k0
  refine q m fun p hp z hz=> ?_
  obtain ⟨j,hj⟩:=List.mem_iff_getElem?.mp hp
  exact hm j p (by rw [List.length_map];exact (List.getElem?_eq_some_iff.mp hj).1) hj z hz
noncomputable def spanF (f:Int) (dy:Bool) (c:Int) (zs:List (V×Pl)) (G:Int→List D) (k:Int):Int:=Sb (fun o=>zcQ zs (Cal.beg f dy c k) (Cal.beg f dy c (k+1)) o (o+1) (G o)) (Cal.beg f dy c k) (Cal.beg f dy c (k+1))
noncomputable def toldF (f:Int) (dy:Bool) (c:Int) (zs:List (V×Pl)) (G:Int→List D) (ds:List Int):List D:=((List.range 6).map fun k:Nat=>D.int (spanF f dy c zs G k))++ds.flatMap fun d=> [.tup (G d), .int (dC f dy c zs G d), .int (Sb (dC f dy c zs G) f d)]
def zg3 (K:PySem.W.Frag):Sp:=fun vs H Q _=> ∃(pa l la ld:Addr) (f:Int) (dy:Bool) (c:Int) (zs:List (V×Pl)) (ts:List Tm) (G:Int→List D) (ds:List Int),vs= [.ref pa, .ref l, .ref ld]∧zdf K H pa la f dy c zs∧zde K H l f (Cal.beg f dy c 60) ts∧(∀t∈ts,TmX zs t.2.2.2)∧zjR f dy c ts G∧H ld=some (.lst (ds.map V.int))∧ds.length≤10∧(∀d∈ds,f≤d∧d<Cal.beg f dy c 60)∧ ∀r xs H',zao H H'→H' r=some (.lst xs)→zcN (Dp K H' 1) (toldF f dy c zs G ds) xs→Q (.ref r) H'
theorem ziW {K:PySem.W.Frag} {H:Hp} {n:Nat} {f:Int} {dy:Bool} {c:Int} {zs:List (V×Pl)} {G:Int→List D} (g:List Nat):zcN (Dp K H n) (g.map fun k:Nat=>D.int (spanF f dy c zs G k)) ((g.map fun k:Nat=>spanF f dy c zs G k).map V.int):=by
 induction g with
 |nil=>exact trivial
 |cons a r ih=>exact ⟨by simp only [Dp],ih⟩
theorem ziX {f:Int} {dy:Bool} {c:Int} {zs:List (V×Pl)} {G:Int→List D} {ds:List Int} {i:Nat} {d:Int} (h:ds[i]? =some d):toldF f dy c zs G (ds.take (i+1))=toldF f dy c zs G (ds.take i)++ [.tup (G d), .int (dC f dy c zs G d), .int (Sb (dC f dy c zs G) f d)]:=by
 simp only [toldF]
 rw [List.take_add_one,h,List.flatMap_append,List.append_assoc]
 rfl
theorem sc_1e:FnScope ["_law_account_here","_law_terms","_law_days","_law_found","_law_day_here"] ["_law_account_here","_law_terms","_law_days"] (zap s_1e):=⟨rfl,rfl,rfl,by decide+kernel,rfl,by decide+kernel,by decide+kernel⟩
theorem ok_1e (T:Txt w K mg t):FnOk P w K mg base (CXE P w) 12 t.a_1e t.d_1e ["_law_account_here","_law_terms","_law_days"] (zg3 K):=by
 refine T.fn_1e.okX sc_1e (fun vs H Q E h=> ?_) (fun cdv A outer s H vs Q E L hr h=> ?_)
 ·obtain ⟨pa,l,la,ld,f,dy,c,zs,ts,G,ds,rfl,hz,ht,hx,hG,hd,d10,db,q⟩:=h
  rfl
 obtain ⟨pa,l,la,ld,f,dy,c,zs,ts,G,ds,rfl,hz,ht,hx,hG,hd,d10,db,q⟩:=h
 have nd:=sc_1e.nd
 refine ⟨_,(zad (zdM (i:=3) nd rfl rfl (n:=1) (N:= ["_law_k","_law_account_here","_law_terms"]) (js:= [0,1]) (by rfl) rfl rfl (zbL (by rfl) T.no_range (zaa zac zae)) (fun a=>(zaj (i:=0) (show List.Nodup (["_law_k","_law_account_here","_law_terms"]:List Str) from by decide+kernel) rfl (Or.inl rfl))) (fun a=>zcC) (fun a=>(zag zfD (ok_0r T) (hr.mono (by decide)) (by rfl) T.mg_0r T.fn_0r.kp T.b_0r .nil (zaa (pv 1) (zaa (pv 2) (zaa (pv 0) zae zab) zab) zab)))) (zad (zbO (by passes_own) rfl (zbu (pv 2)) (zaj (i:=4) nd rfl (Or.inl rfl)) (zaf (zan (i:=3) nd rfl (Or.inl rfl) (zai zh0 (pv 3) (zbg (zaa (zag L.toLv (ok_0j T) (hr.mono (by decide)) (by rfl) T.mg_0j T.fn_0j.kp T.b_0j .nil (zaa (pv 0) (zaa (pv 1) (zaa (pv 4) zae zab) zab) zab)) (zaa (zag L.toLv (ok_0n T) (hr.mono (by decide)) (by rfl) T.mg_0n T.fn_0n.kp T.b_0n .nil (zaa (pv 0) (zaa (pv 1) (zaa (pv 4) zae zab) zab) zab)) (zaa (zag L.toLv (ok_0s T) (hr.mono (by decide)) (by rfl) T.mg_0s T.fn_0s.kp T.b_0s .nil (zaa (pv 0) (zaa (pv 1) (zaa (pv 4) zae zab) zab) zab)) zae zaB) zaB) zaB)))))) (zaf (zaw (pv 3))))),?_⟩
 obtain ⟨f0,f1,hc⟩:=hz.1.cyc
 open_k0
 refine ⟨_,rfl,?_⟩
 refine ⟨by decide,by decide,fun l2 hl2 aa=> ?_⟩
 refine zb0 (fun j xs _=>xs=((List.range j).map fun i:Nat=>spanF f dy c zs G i).map V.int) (zdN 0 6 H) hl2 (by rw [zb4];exact za7 (by decide)) (fun _ _=>rfl) (fun j y xs H8 K1 K0 hxx sm pv hl k1 k0=> ?_) (fun xs H2 s2 pv _ w2=> ?_)
 ·have hj:=(List.getElem?_eq_some_iff.mp hxx).1
  rw [zb4] at hj
  rw [zeb hj] at hxx
  cases hxx
  open_k0
  refine ⟨pa,l,la,f,dy,c,zs,ts,G,(j:Int),by rw [Int.zero_add],hz.same sm,ht.same sm,hx,hG,fun _ _ H9 s9=>k1 _ _ s9 fun H5 h5=> ?_,fun z=>absurd z (by omega),fun z=>absurd z (by omega)⟩
  rw [pv,List.range_succ,List.map_append,List.map_append]
  rfl
 rw [zb4] at pv
 ((try dsimp only);refine zbX fun R hR=> ?_;lge_open0)
 refine ⟨⟨_,SqL.of (s2 _ _ hd)⟩,hR _ _ ?_⟩
 clear hR
 obtain ⟨Pv,hPv⟩: ∃Pv:Nat→St→Hp→Prop,Pv=fun (i:Nat) σ1 H1=>zao H H1∧ ∃(r:Addr) (ys:List V) (x4:Option V),H1 r=some (.lst ys)∧ys.length=6+3*i∧zcN (Dp K H1 1) (toldF f dy c zs G (ds.take i)) ys∧σ1= [some (.ref pa),some (.ref l),some (.ref ld),some (.ref r),x4]:=⟨_,rfl⟩
 refine zcz (xs:=ds.map V.int) Pv ?_ (fun _ _ _ _ h=>by rw [hPv] at h;exact SqL.of (h.1 _ _ hd)) (fun i x σ1 H1 hx' h=> ?_) (fun σ1 H1 h=> ?_)
 ·rw [hPv]
  refine ⟨s2,l2,xs,_,w2,by rw [pv,List.length_map,List.length_map,List.length_range],?_,rfl⟩
  rw [pv]
  simp only [toldF,List.take_zero,List.flatMap_nil,List.append_nil]
  exact ziW _
 ·rw [hPv] at h
  obtain ⟨s1,r,ys,x4,er,yl,ya,rfl⟩:=h
  rw [List.getElem?_map] at hx'
  obtain ⟨d,hd',rfl⟩:=Option.map_eq_some_iff.mp hx'
  have hi:=(List.getElem?_eq_some_iff.mp hd').1
  obtain ⟨d0,d1⟩:=db d (List.mem_of_getElem? hd')
  open_k0
  refine ⟨pa,l,la,f,dy,c,d,ts,rfl,(hz.same s1).1,ht.same s1,fun _ _ p ts' o0 o1 o2 H3 s3 om so ep=> ?_,fun z=>by omega,fun z=>by omega⟩
  have s13:=s1.trans s3
  have sd:StD (G d):=by rw [←hG ts' om _ _ _ _ so];exact st_std (fun t h=>(ht.2.2.1 t ((om t).mp h)).2.2.1) so
  rw [hG ts' om _ _ _ _ so] at ep
  refine ⟨pa,l,la,f,dy,c,d,zs,ts,rfl,hz.same s13,ht.same s13,hx,fun k k0' k1' a1 a2 ts2 u0 u1 u2 H4 s4 om2 so2=> ?_,fun z=>by omega,fun z=>by omega⟩
  rw [hG ts2 om2 _ _ _ _ so2,←zk0 f0 f1 hc k0' k1' a1 a2]
  have s14:=s13.trans s4
  refine ⟨pa,l,la,f,dy,c,d,zs,ts,G,rfl,hz.same s14,ht.same s14,hx,hG,d0,by omega,fun H5 s5=> ?_⟩
  have s35:=s3.trans (s4.trans s5)
  intro b H6 _ sb eb
  refine ⟨r,b,ys,_,rfl,rfl,sb _ _ (s35 _ _ er),eb,?_,fun b2 H7 _ sb2 eb2=> ?_⟩
  ·have:=za7 (n:=ys.length+3) (by omega)
   simp only [List.length_cons,List.length_nil]
   omega
  rw [hPv]
  have s5':=sb.trans sb2
  refine ⟨(s1.trans s35).trans s5',b2,_,_,eb2,by rw [List.length_append,yl];simp only [List.length_cons,List.length_nil];omega,?_,rfl⟩
  rw [ziX hd']
  refine ze3 (zda (fun _ _ _ h=>h.same (s35.trans s5')) ya) ⟨sd.dp ((s4.trans s5).trans s5' _ _ ep),?_,?_,trivial⟩<;>simp only [Dp]
 ·rw [hPv] at h
  obtain ⟨s1,r,ys,x4,er,yl,ya,rfl⟩:=h
  open_k0
  rw [List.length_map,List.take_length] at ya
  exact q r ys H1 s1 er ya
theorem zmg {K:PySem.W.Frag} {H:Hp} {f:Int} {dy:Bool} {c:Int} {zs:List (V×Pl)} {ys:List En} (mo:Int) (f0:0≤f) (f1:f≤3500000) (hc:Cal.CycOk dy c) (hY:EnX zs f (Cal.beg f dy c 60) K H ys): ∃G,GL f dy c ys mo G:=by
 have b6:=Cal.beg_range (k:=60) f0 f1 hc (by decide) (by decide)
 obtain ⟨kn,ki⟩:=zdJ (mo:=mo) hY.2.2.1 hY.2.2.2.1
 have inj: ∀t∈(zaD ys mo).map (rtK f dy c ys),∀u∈(zaD ys mo).map (rtK f dy c ys),t.2.2.1=u.2.2.1→t=u:=fun t ht u hu e=>by
  obtain ⟨k,hk,rfl⟩:=List.mem_map.mp ht
  obtain ⟨j,hj,rfl⟩:=List.mem_map.mp hu
  obtain ⟨z,k0,e1,tm⟩:=ki k hk
  obtain ⟨z',j0,e2,tm'⟩:=ki j hj
  have kl:=(List.getElem?_eq_some_iff.mp e1).1
  have jl:=(List.getElem?_eq_some_iff.mp e2).1
  have l40:=hY.2.1
  have g1:ys.getD k.toNat (.non,0,0, .back)=z:=by rw [List.getD_eq_getElem?_getD,e1];rfl
  have g2:ys.getD j.toNat (.non,0,0, .back)=z':=by rw [List.getD_eq_getElem?_getD,e2];rfl
  have t1:=hY.2.2.2.2.1 z (List.mem_of_getElem? e1) tm
  have t2:=hY.2.2.2.2.1 z' (List.mem_of_getElem? e2) tm'
  have e':(cntF f dy c z.2.2.2*4000000+zaA z.2.2.2)*64+k=(cntF f dy c z'.2.2.2*4000000+zaA z'.2.2.2)*64+j:=by
   have e0:(cntF f dy c (ys.getD k.toNat (.non,0,0, .back)).2.2.2*4000000+zaA (ys.getD k.toNat (.non,0,0, .back)).2.2.2)*64+k=(cntF f dy c (ys.getD j.toNat (.non,0,0, .back)).2.2.2*4000000+zaA (ys.getD j.toNat (.non,0,0, .back)).2.2.2)*64+j:=e
   rw [g1,g2] at e0
   exact e0
  have:k=j:=by omega
  rw [this]
 have h: ∀d,∃x:List D,∀ts:List Tm,ts.map (rtT f dy c)=(zaD ys mo).map (rtK f dy c ys)→ ∀ts',(∀t,t∈ts'↔t∈ts)→ ∀o0 o1 o2,zd1 f dy c ts' d o0 o1 o2→stT o0 o1 o2=x:=fun d=>by
  have mm: ∀{ts ts':List Tm},ts.map (rtT f dy c)=(zaD ys mo).map (rtK f dy c ys)→(∀t,t∈ts'↔t∈ts)→ ∀t,t∈ts'.map (rtT f dy c)↔t∈(zaD ys mo).map (rtK f dy c ys):=fun er m t=>by
   rw [←er]
   constructor
   ·intro h
    obtain ⟨x,hx,rfl⟩:=List.mem_map.mp h
    exact List.mem_map.mpr ⟨x,(m x).mp hx,rfl⟩
   ·intro h
    obtain ⟨x,hx,rfl⟩:=List.mem_map.mp h
    exact List.mem_map.mpr ⟨x,(m x).mpr hx,rfl⟩
  by_cases z: ∃o0 o1 o2,Bst ((zaD ys mo).map (rtK f dy c ys)) d 0 o0∧Bst ((zaD ys mo).map (rtK f dy c ys)) d 1 o1∧Bst ((zaD ys mo).map (rtK f dy c ys)) d 2 o2
  ·obtain ⟨p0,p1,p2,h0,h1,h2⟩:=z
   refine ⟨stT p0 p1 p2,fun ts er ts' m o0 o1 o2 h=> ?_⟩
   obtain rfl:=Bst.one inj (mm er m) h0 h.1
   obtain rfl:=Bst.one inj (mm er m) h1 h.2.1
   obtain rfl:=Bst.one inj (mm er m) h2 h.2.2
   rfl
  ·exact ⟨[],fun ts er ts' m o0 o1 o2 h=>absurd ⟨o0,o1,o2,h.1.mem fun t=>(mm er m t).symm,h.2.1.mem fun t=>(mm er m t).symm,h.2.2.mem fun t=>(mm er m t).symm⟩ z⟩
 exact ⟨fun d=>(h d).choose,fun ts er ts' m d o0 o1 o2 hs=>(h d).choose_spec ts er ts' m o0 o1 o2 hs⟩
theorem zj2 {f:Int} {dy:Bool} {c:Int} {zs zs':List En} {mo mo':Int} {G:Int→List D} (P:List (Int×Int)) (h1: ∀k,k∈zaD zs mo↔ ∃p∈P,p.1=k) (h2: ∀k,k∈zaD zs' mo'↔ ∃p∈P,p.2=k)
  (hn: ∀p∈P,(0≤p.1∧p.1<64)∧0≤p.2∧p.2<64) (he: ∀p∈P,zbZ zs p.1=zbZ zs' p.2) (hd: ∀p∈P,0≤zaA (zbZ zs p.1)∧zaA (zbZ zs p.1)<4000000)
  (ho: ∀p∈P,∀q∈P,zaA (zbZ zs p.1)=zaA (zbZ zs q.1)→p.1≤q.1→p.2≤q.2) (hG:GL f dy c zs mo G):GL f dy c zs' mo' G:=by
 intro ts' e ts'' om d o0 o1 o2 so
 obtain ⟨ts,hts⟩: ∃ts:List Tm,ts=(zaD zs mo).map fun k=>((0:Addr),(0:Addr),k,zbZ zs k):=⟨_,rfl⟩
 have et:ts.map (rtT f dy c)=(zaD zs mo).map (rtK f dy c zs):=by
  rw [hts,List.map_map]
  rfl
 obtain ⟨p0,b0⟩:=zgm d 0 (ts.map (rtT f dy c))
 obtain ⟨p1,b1⟩:=zgm d 1 (ts.map (rtT f dy c))
 obtain ⟨p2,b2⟩:=zgm d 2 (ts.map (rtT f dy c))
 rw [←hG ts et ts (fun _=>Iff.rfl) d p0 p1 p2 ⟨b0,b1,b2⟩]
 have I:Iso (P.map fun p=>(rtK f dy c zs p.1,rtK f dy c zs' p.2)) (ts.map (rtT f dy c)) (ts''.map (rtT f dy c)):=by
  have mp: ∀{q:Rt×Rt},q∈P.map (fun p=>(rtK f dy c zs p.1,rtK f dy c zs' p.2))→ ∃p∈P,q=(rtF f dy c p.1 (zbZ zs p.1),rtF f dy c p.2 (zbZ zs p.1)):=fun h=>by
   obtain ⟨p,hp,rfl⟩:=List.mem_map.mp h
   refine ⟨p,hp,?_⟩
   have:=he p hp
   rw [this]
   show (rtF f dy c p.1 (zbZ zs p.1),rtF f dy c p.2 (zbZ zs' p.2))=_
   rw [this]
  have m2: ∀t,t∈ts''.map (rtT f dy c)↔t∈(zaD zs' mo').map (rtK f dy c zs'):=fun t=>by
   rw [←e]
   constructor
   ·intro h
    obtain ⟨u,hu,rfl⟩:=List.mem_map.mp h
    exact List.mem_map.mpr ⟨u,(om u).mp hu,rfl⟩
   ·intro h
    obtain ⟨u,hu,rfl⟩:=List.mem_map.mp h
    exact List.mem_map.mpr ⟨u,(om u).mpr hu,rfl⟩
  have snd: ∀t,t∈ts''.map (rtT f dy c)↔ ∃p∈P.map (fun p=>(rtK f dy c zs p.1,rtK f dy c zs' p.2)),p.2=t:=fun t=>by
   rw [m2]
   constructor
   ·intro h
    obtain ⟨k,hk,rfl⟩:=List.mem_map.mp h
    obtain ⟨p,hp,rfl⟩:=(h2 k).mp hk
    exact ⟨_,List.mem_map.mpr ⟨p,hp,rfl⟩,rfl⟩
   ·rintro ⟨q,hq,rfl⟩
    obtain ⟨p,hp,rfl⟩:=List.mem_map.mp hq
    exact List.mem_map.mpr ⟨p.2,(h2 _).mpr ⟨p,hp,rfl⟩,rfl⟩
  refine ⟨fun t=> ?_,snd,fun q hq=> ?_,fun q hq=> ?_,fun q hq=> ?_,fun q hq r hr=> ?_,fun t ht u hu eq=> ?_⟩
  ·rw [et]
   constructor
   ·intro h
    obtain ⟨k,hk,rfl⟩:=List.mem_map.mp h
    obtain ⟨p,hp,rfl⟩:=(h1 k).mp hk
    exact ⟨_,List.mem_map.mpr ⟨p,hp,rfl⟩,rfl⟩
   ·rintro ⟨q,hq,rfl⟩
    obtain ⟨p,hp,rfl⟩:=List.mem_map.mp hq
    exact List.mem_map.mpr ⟨p.1,(h1 _).mpr ⟨p,hp,rfl⟩,rfl⟩
  ·obtain ⟨p,hp,rfl⟩:=mp hq
   rfl
  ·obtain ⟨p,hp,rfl⟩:=mp hq
   rfl
  ·obtain ⟨p,hp,rfl⟩:=mp hq
   rfl
  ·obtain ⟨p,hp,rfl⟩:=mp hq
   obtain ⟨p',hp',rfl⟩:=mp hr
   exact zlx (hn p hp).1 (hn p' hp').1 (hn p hp).2 (hn p' hp').2 (hd p hp) (hd p' hp') (ho p hp p' hp')
  ·obtain ⟨q,hq,rfl⟩:=(snd t).mp ht
   obtain ⟨r,hr,rfl⟩:=(snd u).mp hu
   obtain ⟨p,hp,rfl⟩:=mp hq
   obtain ⟨p',hp',rfl⟩:=mp hr
   have n1:=hn p hp
   have n2:=hn p' hp'
   have d1:=hd p hp
   have d2:=hd p' hp'
   have eq':(cntF f dy c (zbZ zs p.1)*4000000+zaA (zbZ zs p.1))*64+p.2=(cntF f dy c (zbZ zs p'.1)*4000000+zaA (zbZ zs p'.1))*64+p'.2:=eq
   have e2:p.2=p'.2:=by omega
   have e3:=he p hp
   have e4:=he p' hp'
   show rtF f dy c p.2 (zbZ zs p.1)=rtF f dy c p'.2 (zbZ zs p'.1)
   rw [e3,e4,e2]
 unfold stT
 rw [I.best _ b0 so.1,I.best _ b1 so.2.1,I.best _ b2 so.2.2]
theorem zfY: ∀{cs:List Ch},(∀k,Ch.undo k∉cs)→zaO cs= []
 | [],_=>rfl
 |c::r,h=>by
  have ih:=zfY (cs:=r) fun k hk=>h k (List.mem_cons_of_mem _ hk)
  cases c with
  |undo k=>exact absurd List.mem_cons_self (h k)
  |plan=>exact ih
  |seats=>exact ih
  |word=>exact ih
  |grant=>exact ih
  |back=>exact ih
theorem ziY {cs:List Ch} (h: ∀k,Ch.undo k∉cs):zbQ cs:=fun i k e=>absurd (List.mem_of_getElem? e) (h k)
theorem zfZ {cs:List Ch} (h: ∀k,Ch.undo k∉cs) (k:Int):k∈zaQ cs↔ ∃(j:Nat) (c:Ch),k=(j:Int)∧cs[j]? =some c∧zbs c=true:=by
 have sd:=(zcI cs (ziY h) cs.length (Nat.le_refl _)).1
 rw [List.take_length,zfY h] at sd
 rw [sd]
 unfold zdv
 constructor
 ·intro hk
  obtain ⟨j,hj,rfl⟩:=List.mem_map.mp hk
  obtain ⟨h1,h2⟩:=List.mem_filter.mp hj
  have jl:=List.mem_range.mp h1
  rw [List.getElem?_eq_getElem jl] at h2
  refine ⟨j,cs[j],rfl,List.getElem?_eq_getElem jl,?_⟩
  rw [Bool.and_eq_true] at h2
  exact h2.1
 ·rintro ⟨j,c,rfl,e,tm⟩
  refine List.mem_map.mpr ⟨j,List.mem_filter.mpr ⟨List.mem_range.mpr (List.getElem?_eq_some_iff.mp e).1,?_⟩,rfl⟩
  rw [e,Bool.and_eq_true]
  exact ⟨tm,by simp⟩
theorem zdh {zs:List En} {mo:Int} (h: ∀z∈zs,z.2.2.1≤mo):zaD zs mo=zaQ (chs zs):=by
 unfold zaD mOf
 rw [(List.filter_eq_self (p:=enL mo)).mpr fun z hz=>decide_eq_true (h z hz),List.take_length]
theorem zg4 {zs:List En} {i:Nat} {z:En} (h:zs[i]? =some z):zbZ zs i=z.2.2.2:=by
 unfold zbZ
 rw [Int.toNat_natCast,List.getD_eq_getElem?_getD,h]
 rfl
theorem zhM {f e:Int} {dy:Bool} {c:Int} {zs rs:List En} {ks:List Int} {mo:Int} {G:Int→List D} (pm:ks.Perm (zaD zs 4000000)) (er:rs.map (fun z=>z.2.2.2)=ks.map (zbZ zs)) (ko:ks.Pairwise fun k m=>zaA (zbZ zs k)=zaA (zbZ zs m)→k<m)
  (hp:zs.Pairwise (fun a b=>a.2.2.1≤b.2.2.1)) (ho:zbQ (chs zs)) (z40:zs.length≤40) (hB:EnB f e zs) (f0:0≤f) (e1:e≤4000000) (z4: ∀z∈zs,z.2.2.1≤4000000) (zm: ∀z∈zs,z.2.2.1≤mo) (rm: ∀z∈rs,z.2.2.1≤mo) (hG:GL f dy c zs mo G):GL f dy c rs mo G:=by
 have ke:zaD zs 4000000=zaD zs mo:=(zdh z4).trans (zdh zm).symm
 rw [ke] at pm
 obtain ⟨_,ki⟩:=zdJ (mo:=mo) hp ho
 have tm: ∀k∈ks,∃z,0≤k∧k<40∧z∈zs∧zbZ zs k=z.2.2.2∧zbs z.2.2.2=true:=fun k hk=>by
  obtain ⟨z,k0,ez,tz⟩:=ki k (pm.mem_iff.mp hk)
  have kl:=(List.getElem?_eq_some_iff.mp ez).1
  obtain ⟨n,rfl⟩:=Int.eq_ofNat_of_zero_le k0
  rw [Int.toNat_natCast] at ez kl
  exact ⟨z,k0,by omega,List.mem_of_getElem? ez,zg4 ez,tz⟩
 have kl:ks.length≤40:=by
  have h1:=zcH (chs (zs.take (mOf zs mo)))
  rw [zbW,List.length_take] at h1
  have h2:=pm.length_eq
  unfold zaD at h2
  omega
 have rl:rs.length=ks.length:=by
  have:=congrArg List.length er
  rw [List.length_map,List.length_map] at this
  exact this
 have cr:chs rs=ks.map (zbZ zs):=er
 have nu: ∀k,Ch.undo k∉chs rs:=fun k hk=>by
  rw [cr] at hk
  obtain ⟨m,hm,em⟩:=List.mem_map.mp hk
  obtain ⟨z,_,_,_,e2,t2⟩:=tm m hm
  rw [←e2,em] at t2
  cases t2
 have at_: ∀(i:Nat) k,ks[i]? =some k→zbZ rs i=zbZ zs k:=fun i k h=>by
  have il:i<rs.length:=by rw [rl];exact (List.getElem?_eq_some_iff.mp h).1
  rw [zg4 (List.getElem?_eq_getElem il)]
  have:(chs rs)[i]? =some (rs[i]).2.2.2:=by
   unfold chs
   rw [List.getElem?_map,List.getElem?_eq_getElem il]
   rfl
  rw [cr,List.getElem?_map,h] at this
  exact (Option.some.inj this).symm
 have mP: ∀{p:Int×Int},p∈(List.range ks.length).map (fun i:Nat=>(ks.getD i 0,(i:Int)))→ ∃i:Nat,ks[i]? =some p.1∧p.2=(i:Int):=fun h=>by
  obtain ⟨i,hi,rfl⟩:=List.mem_map.mp h
  have il:=List.mem_range.mp hi
  refine ⟨i,?_,rfl⟩
  show ks[i]? =some (ks.getD i 0)
  rw [List.getD_eq_getElem?_getD,List.getElem?_eq_getElem il]
  rfl
 have Pm: ∀{i:Nat} {k:Int},ks[i]? =some k→(k,(i:Int))∈(List.range ks.length).map (fun i:Nat=>(ks.getD i 0,(i:Int))):=fun {i k} h=>by
  refine List.mem_map.mpr ⟨i,List.mem_range.mpr (List.getElem?_eq_some_iff.mp h).1,?_⟩
  rw [List.getD_eq_getElem?_getD,h]
  rfl
 refine zj2 ((List.range ks.length).map fun i:Nat=>(ks.getD i 0,(i:Int))) (fun k=> ?_) (fun k=> ?_) (fun p hp=> ?_) (fun p hp=> ?_) (fun p hp=> ?_) (fun p hp q hq ed le=> ?_) hG
 ·rw [←pm.mem_iff]
  constructor
  ·intro h
   obtain ⟨i,hi⟩:=List.mem_iff_getElem?.mp h
   exact ⟨_,Pm hi,rfl⟩
  ·rintro ⟨p,hp,rfl⟩
   obtain ⟨i,hi,_⟩:=mP hp
   exact List.mem_of_getElem? hi
 ·rw [zdh rm,zfZ nu]
  constructor
  ·rintro ⟨j,ch,rfl,e2,_⟩
   have jl:j<ks.length:=by
    have:=(List.getElem?_eq_some_iff.mp e2).1
    rw [zbW] at this
    omega
   exact ⟨_,Pm (List.getElem?_eq_getElem jl),rfl⟩
  ·rintro ⟨p,hp,rfl⟩
   obtain ⟨i,hi,ei⟩:=mP hp
   obtain ⟨z,_,_,_,e2,t2⟩:=tm p.1 (List.mem_of_getElem? hi)
   refine ⟨i,_,ei,by rw [cr,List.getElem?_map,hi];rfl,by rw [e2];exact t2⟩
 ·obtain ⟨i,hi,ei⟩:=mP hp
  obtain ⟨z,k0,k1,_⟩:=tm p.1 (List.mem_of_getElem? hi)
  have:=(List.getElem?_eq_some_iff.mp hi).1
  omega
 ·obtain ⟨i,hi,ei⟩:=mP hp
  rw [ei,at_ i _ hi]
 ·obtain ⟨i,hi,ei⟩:=mP hp
  obtain ⟨z,_,_,hz,e2,t2⟩:=tm p.1 (List.mem_of_getElem? hi)
  have:=hB z hz t2
  rw [e2]
  have h1:=this.2.1
  have h2:=this.2.2.1
  omega
 ·obtain ⟨i,hi,ei⟩:=mP hp
  obtain ⟨j,hj,ej⟩:=mP hq
  rw [ei,ej]
  by_cases ij:j<i
  ·have l1:=List.getElem?_eq_some_iff.mp hi
   have l2:=List.getElem?_eq_some_iff.mp hj
   have:=List.pairwise_iff_getElem.mp ko j i l2.1 l1.1 ij
   rw [l1.2,l2.2] at this
   have:=this ed.symm
   omega
  ·omega
theorem zkN {f e:Int} {dy:Bool} {c:Int} {zs rs:List En} {so:List Row} {mo:Int} {G:Int→List D} (it:zgl (zs.map ce) so) (er:rs.map ce=so.map rc) (ho:zbQ (chs zs)) (z40:zs.length≤40) (hB:EnB f e zs) (f0:0≤f) (e1:e≤4000000) (zm: ∀z∈zs,z.2.2.1≤mo) (rm: ∀z∈rs,z.2.2.1≤mo) (hG:GL f dy c zs mo G):GL f dy c rs mo G:=by
 have ec:(zs.map ce).map (·.2)=chs zs:=by rw [List.map_map];rfl
 have row: ∀r∈so,∃n:Nat,n<zs.length∧r.2.2.1=n∧(zc0 r.2.2.2=true∨(r.2.1=0∧r.1=zaA r.2.2.2∧zbs r.2.2.2=true∧(chs zs)[n]? =some r.2.2.2∧(n:Int)∉zaO (chs zs))):=fun r hr=>by
  obtain ⟨i,hi,h⟩:=List.mem_filterMap.mp (it.1.mem_iff.mp hr)
  have il:=List.mem_range.mp hi
  rw [List.length_map] at il
  obtain ⟨a,b⟩:=zig h
  rw [ec] at b
  exact ⟨i,il,a,b.imp (fun h=>h.2.2) id⟩
 have term: ∀r∈so,zbs r.2.2.2=true→ ∃n:Nat,n<zs.length∧r.2.2.1=n∧r.2.1=0∧r.1=zaA r.2.2.2∧zbZ zs r.2.2.1=r.2.2.2∧(∃z∈zs,z.2.2.2=r.2.2.2)∧(chs zs)[n]? =some r.2.2.2∧(n:Int)∉zaO (chs zs):=fun r hr tm=>by
  obtain ⟨n,nl,en,h|⟨a1,a2,a3,a4,a5⟩⟩:=row r hr
  ·rw [zhA _ h] at tm
   cases tm
  ·have ez:(zs[n]).2.2.2=r.2.2.2:=by
    unfold chs at a4
    rw [List.getElem?_map,List.getElem?_eq_getElem nl] at a4
    exact Option.some.inj a4
   exact ⟨n,nl,en,a1,a2,by rw [en,zg4 (List.getElem?_eq_getElem nl)];exact ez,⟨_,List.getElem_mem nl,ez⟩,a4,a5⟩
 have cr:chs rs=so.map fun r=>r.2.2.2:=by
  have:=congrArg (List.map (·.2)) er
  rw [List.map_map,List.map_map] at this
  exact this
 have nu: ∀k,Ch.undo k∉chs rs:=fun k hk=>by
  rw [cr] at hk
  obtain ⟨r,hr,e2⟩:=List.mem_map.mp hk
  obtain ⟨n,_,_,h|⟨_,_,h,_⟩⟩:=row r hr
  ·rw [e2] at h;cases h
  ·rw [e2] at h;cases h
 have rl:rs.length=so.length:=by
  have:=congrArg List.length er
  rw [List.length_map,List.length_map] at this
  exact this
 have sl:so.length≤zs.length:=by
  have h1:=it.1.length_eq
  have h2:=zfU (zs.map ce) (zs.map ce).length
  unfold zgV at h1
  rw [List.length_map] at h1 h2
  omega
 have at_: ∀(i:Nat) r,so[i]? =some r→zbZ rs i=r.2.2.2:=fun i r h=>by
  have il:i<rs.length:=by rw [rl];exact (List.getElem?_eq_some_iff.mp h).1
  rw [zg4 (List.getElem?_eq_getElem il)]
  have:(chs rs)[i]? =some (rs[i]).2.2.2:=by
   unfold chs
   rw [List.getElem?_map,List.getElem?_eq_getElem il]
   rfl
  rw [cr,List.getElem?_map,h] at this
  exact (Option.some.inj this).symm
 obtain ⟨P,hP⟩: ∃P:List (Int×Int),∀p,p∈P↔ ∃(i:Nat) (r:Row),so[i]? =some r∧zbs r.2.2.2=true∧p=(r.2.2.1,(i:Int)):=by
  refine ⟨((List.range so.length).filter fun i=>zbs (so.getD i (0,0,0, .back)).2.2.2).map fun i:Nat=>((so.getD i (0,0,0, .back)).2.2.1,(i:Int)),fun p=> ?_⟩
  have gd: ∀{i:Nat} {r:Row},so[i]? =some r→so.getD i (0,0,0, .back)=r:=fun h=>by rw [List.getD_eq_getElem?_getD,h];rfl
  constructor
  ·intro h
   obtain ⟨i,hi,rfl⟩:=List.mem_map.mp h
   obtain ⟨h1,h2⟩:=List.mem_filter.mp hi
   have il:=List.mem_range.mp h1
   have e2:=List.getElem?_eq_getElem il
   rw [gd e2] at h2
   exact ⟨i,_,e2,h2,by rw [gd e2]⟩
  ·rintro ⟨i,r,h1,h2,rfl⟩
   refine List.mem_map.mpr ⟨i,List.mem_filter.mpr ⟨List.mem_range.mpr (List.getElem?_eq_some_iff.mp h1).1,by rw [gd h1];exact h2⟩,by rw [gd h1]⟩
 refine zj2 P (fun k=> ?_) (fun k=> ?_) (fun p hp=> ?_) (fun p hp=> ?_) (fun p hp=> ?_) (fun p hp q hq ed le=> ?_) hG
 ·have sd:=(zcI (chs zs) ho (chs zs).length (Nat.le_refl _)).1
  rw [List.take_length] at sd
  rw [zdh zm,sd]
  unfold zdv
  constructor
  ·intro hk
   obtain ⟨j,hj,rfl⟩:=List.mem_map.mp hk
   obtain ⟨h1,h2⟩:=List.mem_filter.mp hj
   have jl:=List.mem_range.mp h1
   rw [zbW] at jl
   have cj:(chs zs)[j]? =some (zs[j]).2.2.2:=by
    unfold chs
    rw [List.getElem?_map,List.getElem?_eq_getElem jl]
    rfl
   rw [cj] at h2
   have h2':(zbs (zs[j]).2.2.2 && !decide ((j:Int)∈zaO (chs zs)))=true:=h2
   have tm:zbs (zs[j]).2.2.2=true:=((Bool.and_eq_true _ _).mp h2').1
   have no:zc0 (zs[j]).2.2.2=false:=by
    cases q:zc0 (zs[j]).2.2.2 with
    |false=>rfl
    |true=>rw [zhA _ q] at tm;cases tm
   have rA:zgU (zs.map ce) j=some (zaA (zs[j]).2.2.2,0,(j:Int),(zs[j]).2.2.2):=by
    have rO:zdI (zs.map ce) j=none:=by
     unfold zdI
     rw [List.getElem?_map,List.getElem?_eq_getElem jl]
     show (if zc0 (zs[j]).2.2.2=true then _ else none)=none
     rw [no]
     rfl
    unfold zgU
    rw [rO,ec]
    show zfc (chs zs) (zaO (chs zs)) j=_
    unfold zfc
    rw [cj]
    show (if (zbs (zs[j]).2.2.2 && !decide ((j:Int)∈zaO (chs zs)))=true then _ else none)=_
    rw [if_pos h2']
   have mr:(zaA (zs[j]).2.2.2,0,(j:Int),(zs[j]).2.2.2)∈so:=it.1.mem_iff.mpr (List.mem_filterMap.mpr ⟨j,List.mem_range.mpr (by rw [List.length_map];exact jl),rA⟩)
   obtain ⟨i,hi⟩:=List.mem_iff_getElem?.mp mr
   exact ⟨_,(hP _).mpr ⟨i,_,hi,tm,rfl⟩,rfl⟩
  ·rintro ⟨p,hp,rfl⟩
   obtain ⟨i,r,hi,tm,rfl⟩:=(hP p).mp hp
   obtain ⟨n,nl,en,_,_,_,_,a4,a5⟩:=term r (List.mem_of_getElem? hi) tm
   refine List.mem_map.mpr ⟨n,List.mem_filter.mpr ⟨List.mem_range.mpr (by rw [zbW];exact nl),?_⟩,en.symm⟩
   rw [a4]
   exact (Bool.and_eq_true _ _).mpr ⟨tm,by rw [decide_eq_false a5];rfl⟩
 ·rw [zdh rm,zfZ nu]
  constructor
  ·rintro ⟨j,ch,rfl,e2,tm⟩
   rw [cr,List.getElem?_map] at e2
   obtain ⟨r,hr,rfl⟩:=Option.map_eq_some_iff.mp e2
   exact ⟨_,(hP _).mpr ⟨j,r,hr,tm,rfl⟩,rfl⟩
  ·rintro ⟨p,hp,rfl⟩
   obtain ⟨i,r,hi,tm,rfl⟩:=(hP p).mp hp
   exact ⟨i,r.2.2.2,rfl,by rw [cr,List.getElem?_map,hi];rfl,tm⟩
 ·obtain ⟨i,r,hi,tm,rfl⟩:=(hP p).mp hp
  obtain ⟨n,nl,en,_⟩:=term r (List.mem_of_getElem? hi) tm
  have:=(List.getElem?_eq_some_iff.mp hi).1
  show (0≤r.2.2.1∧r.2.2.1<64)∧0≤(i:Int)∧(i:Int)<64
  omega
 ·obtain ⟨i,r,hi,tm,rfl⟩:=(hP p).mp hp
  obtain ⟨n,nl,en,_,_,a,_⟩:=term r (List.mem_of_getElem? hi) tm
  show zbZ zs r.2.2.1=zbZ rs (i:Int)
  rw [a,at_ i r hi]
 ·obtain ⟨i,r,hi,tm,rfl⟩:=(hP p).mp hp
  obtain ⟨n,nl,en,_,_,a,⟨z,hz,ez⟩,_⟩:=term r (List.mem_of_getElem? hi) tm
  have:=hB z hz (by rw [ez];exact tm)
  rw [ez] at this
  have h1:=this.2.1
  have h2:=this.2.2.1
  show 0≤zaA (zbZ zs r.2.2.1)∧zaA (zbZ zs r.2.2.1)<4000000
  rw [a]
  omega
 ·obtain ⟨i,r,hi,tm,rfl⟩:=(hP p).mp hp
  obtain ⟨j,s,hj,tm2,rfl⟩:=(hP q).mp hq
  obtain ⟨n,_,_,z1,d1,a1,_⟩:=term r (List.mem_of_getElem? hi) tm
  obtain ⟨m,_,_,z2,d2,a2,_⟩:=term s (List.mem_of_getElem? hj) tm2
  have ed':zaA (zbZ zs r.2.2.1)=zaA (zbZ zs s.2.2.1):=ed
  rw [a1,a2] at ed'
  have le':r.2.2.1≤s.2.2.1:=le
  show (i:Int)≤(j:Int)
  by_cases ji:j<i
  ·have l1:=List.getElem?_eq_some_iff.mp hi
   have l2:=List.getElem?_eq_some_iff.mp hj
   have:=List.pairwise_iff_getElem.mp it.2 j i l2.1 l1.1 ji
   rw [l1.2,l2.2] at this
   unfold rLt at this
   omega
  ·omega
theorem zcy {nms:List (List Nat)} {f e:Int} {zs:List En} (h:zcd nms f e zs):zbQ (chs zs):=fun i k hi=>by
 unfold chs at hi
 rw [List.getElem?_map] at hi
 obtain ⟨z,hz,ez⟩:=Option.map_eq_some_iff.mp hi
 have:=(h i z hz).2.2.2
 rw [ez,zcE] at this
 exact this
theorem zlI {K:PySem.W.Frag} {H H':Hp} {p:Addr} {f:Int} {dy:Bool} {cc:Int} {zs:List (V×Pl)} (h:Acc K H p f dy cc zs) (s:zcb H H'):Acc K H' p f dy cc zs:=by
 obtain ⟨l,⟨pc,h1,h2,h3,h4⟩,h5,h6,h7⟩:=h
 exact ⟨l,⟨pc,h1,h2,⟨s.sqT h3.1,h3.2⟩,s.tup h4⟩,s.seq h5,fun z hz=>(let ⟨q,e,g⟩:=h6 z hz;⟨q,e,s.sqT g⟩),h7⟩
theorem zkO {nms:List (List Nat)} {f e:Int} {ys rs:List En} {so:List Row} (h:zcd nms f e ys) (it:zgl (ys.map ce) so) (hr:rs.map ce=so.map rc):zcd nms f e rs∧zbQ (chs rs)∧rs.length≤ys.length:=by
 have row: ∀r∈so,(f≤r.1∧r.1<e)∧(∀L,zgc nms f e L r.2.2.2)∧ ∀k,r.2.2.2≠ .undo k:=fun r hr=>by
  obtain ⟨i,_,hi⟩:=List.mem_filterMap.mp (it.1.mem_iff.mp hr)
  rcases (zig hi).2 with ⟨_,b1,b2⟩|⟨_,b1,b2,b3,_⟩
  ·rw [List.getElem?_map] at b1
   obtain ⟨z,hz,ez⟩:=Option.map_eq_some_iff.mp b1
   have ez':(z.2.2.1,z.2.2.2)=(r.1,r.2.2.2):=ez
   have e1:z.2.2.1=r.1:=congrArg Prod.fst ez'
   have e2:z.2.2.2=r.2.2.2:=by injection ez'
   have hz':=h i z hz
   rw [e1,e2] at hz'
   obtain ⟨c1,c2,_,c4⟩:=hz'
   generalize r.2.2.2=c at b2 c4
   cases c with
   |grant g=>exact ⟨⟨c1,c2⟩,fun _=>c4,fun k z=>by cases z⟩
   |back=>exact ⟨⟨c1,c2⟩,fun _=>trivial,fun k z=>by cases z⟩
   |_=>cases b2
  ·rw [zim] at b3
   unfold chs at b3
   rw [List.getElem?_map] at b3
   obtain ⟨z,hz,ez⟩:=Option.map_eq_some_iff.mp b3
   have c4:=(h i z hz).2.2.2
   rw [ez] at c4
   rw [b1]
   generalize r.2.2.2=c at b2 c4
   cases c with
   |plan d nm=>exact ⟨⟨c4.1,c4.2.1⟩,fun _=>c4,fun k z=>by cases z⟩
   |seats d n=>exact ⟨⟨c4.1,c4.2.1⟩,fun _=>c4,fun k z=>by cases z⟩
   |word w d=>exact ⟨⟨c4.2.1,c4.2.2⟩,fun _=>c4,fun k z=>by cases z⟩
   |_=>cases b2
 have len:rs.length=so.length:=by
  have:=congrArg List.length hr
  rw [List.length_map,List.length_map] at this
  exact this
 have at_: ∀(i:Nat) z,rs[i]? =some z→ ∃r,so[i]? =some r∧z.2.2.1=r.1∧z.2.2.2=r.2.2.2:=fun i z hz=>by
  have h1:=congrArg (fun l=>l[i]?) hr
  simp only [List.getElem?_map,hz,Option.map_some] at h1
  obtain ⟨r,h2,h3⟩:=Option.map_eq_some_iff.mp h1.symm
  exact ⟨r,h2,(congrArg Prod.fst h3).symm,(congrArg Prod.snd h3).symm⟩
 refine ⟨fun i z hz=> ?_,fun i k hi=> ?_,?_⟩
 ·obtain ⟨r,h1,h2,h3⟩:=at_ i z hz
  have b:=row r (List.mem_of_getElem? h1)
  rw [h2,h3]
  refine ⟨b.1.1,b.1.2,fun y hy=> ?_,b.2.1 _⟩
  obtain ⟨j,hj⟩:=List.mem_iff_getElem?.mp hy
  rw [List.getElem?_take] at hj
  by_cases ji:j<i
  ·rw [if_pos ji] at hj
   obtain ⟨r',g1,g2,_⟩:=at_ j y hj
   rw [g2]
   have l1:=(List.getElem?_eq_some_iff.mp h1)
   have l2:=(List.getElem?_eq_some_iff.mp g1)
   have:=List.pairwise_iff_getElem.mp it.2 j i l2.1 l1.1 ji
   rw [l2.2,l1.2] at this
   unfold rLt at this
   omega
  ·rw [if_neg ji] at hj
   cases hj
 ·unfold chs at hi
  rw [List.getElem?_map] at hi
  obtain ⟨z,hz,ez⟩:=Option.map_eq_some_iff.mp hi
  obtain ⟨r,h1,_,h3⟩:=at_ i z hz
  exact absurd (h3.symm.trans ez) ((row r (List.mem_of_getElem? h1)).2.2 k)
 ·have h1:=it.1.length_eq
  have h2:=zfU (ys.map ce) (ys.map ce).length
  unfold zgV at h1
  rw [List.length_map] at h1 h2
  omega
theorem zhN {nms:List (List Nat)} {f e:Int} {ys bs:List En} {ks:List Int} (h:zcd nms f e ys) (hp:ys.Pairwise (fun a b=>a.2.2.1≤b.2.2.1)) (pm:ks.Perm (zaD ys 4000000)) (er:bs.map (fun z=>z.2.2.2)=ks.map (zbZ ys)) (bb: ∀z∈bs,f≤z.2.2.1∧z.2.2.1<e) (bp:bs.Pairwise (fun a b=>a.2.2.1≤b.2.2.1)):zcd nms f e bs∧bs.length≤ys.length:=by
 obtain ⟨_,ki⟩:=zdJ (mo:=4000000) hp (zcy h)
 have ch: ∀z∈bs,∀L,zgc nms f e L z.2.2.2:=fun z hz L=>by
  have:z.2.2.2∈ks.map (zbZ ys):=by rw [←er];exact List.mem_map.mpr ⟨z,hz,rfl⟩
  obtain ⟨k,hk,ek⟩:=List.mem_map.mp this
  obtain ⟨y,k0,ey,tm⟩:=ki k (pm.mem_iff.mp hk)
  obtain ⟨n,rfl⟩:=Int.eq_ofNat_of_zero_le k0
  rw [Int.toNat_natCast] at ey
  rw [zg4 ey] at ek
  have c4:=(h n y ey).2.2.2
  rw [ek] at c4 tm
  generalize z.2.2.2=c at c4 tm
  cases c with
  |plan d nm=>exact c4
  |seats d n=>exact c4
  |word w d=>exact c4
  |_=>cases tm
 refine ⟨fun i z hz=>⟨(bb z (List.mem_of_getElem? hz)).1,(bb z (List.mem_of_getElem? hz)).2,fun y hy=> ?_,ch z (List.mem_of_getElem? hz) _⟩,?_⟩
 ·obtain ⟨j,hj⟩:=List.mem_iff_getElem?.mp hy
  rw [List.getElem?_take] at hj
  by_cases ji:j<i
  ·rw [if_pos ji] at hj
   have l1:=List.getElem?_eq_some_iff.mp hz
   have l2:=List.getElem?_eq_some_iff.mp hj
   have:=List.pairwise_iff_getElem.mp bp j i l2.1 l1.1 ji
   rw [l1.2,l2.2] at this
   exact this
  ·rw [if_neg ji] at hj
   cases hj
 ·have h1:=congrArg List.length er
  rw [List.length_map,List.length_map] at h1
  have h2:=pm.length_eq
  have h3:=zcH (chs (ys.take (mOf ys 4000000)))
  rw [zbW,List.length_take] at h3
  unfold zaD at h2
  omega
theorem zkP {K:PySem.W.Frag} {H H':Hp} {p l:Addr} {f:Int} {dy:Bool} {cc:Int} {zs:List (V×Pl)} (h:zdf K H p l f dy cc zs) (s:zcb H H'):zdf K H' p l f dy cc zs:=by
 obtain ⟨⟨pc,h1,h2,h3,h4⟩,h5,h6,h7⟩:=h
 exact ⟨⟨pc,h1,h2,⟨s.sqT h3.1,h3.2⟩,s.tup h4⟩,s.lst h5,fun z hz=>(let ⟨q,e,g⟩:=h6 z hz;⟨q,e,s.sqT g⟩),h7⟩
theorem zhO {K:PySem.W.Frag} {H:Hp} {zs:List (V×Pl)} {f e:Int} {ys:List En} (hE:zbV K H ys) (l:ys.length≤40) (yO:zcd (zs.map fun z=>z.2.1) f e ys):EnX zs f e K H ys:=by
 refine ⟨hE,l,yO.pair,zcy yO,EnB.of yO,fun z hz' tm=> ?_⟩
 obtain ⟨i,hi⟩:=List.mem_iff_getElem?.mp hz'
 have ci:=(yO i z hi).2.2.2
 exact ⟨fun d nm h'=>by rw [h'] at ci;exact ci.2.2,fun d n h'=>by rw [h'] at ci;exact ci.2.2⟩
theorem all2_at {g:D→V→Prop}: ∀{ds:List D} {xs:List V},zcN g ds xs→ ∀{i:Nat} {d:D},ds[i]? =some d→ ∃x,xs[i]? =some x∧g d x
 | [],_,_,i,d,h=>by rw [List.getElem?_nil] at h;cases h
 |_::_, [],h,_,_,_=>h.elim
 |_::_,x::_,h,0,_,e=>by cases e;exact ⟨x,rfl,h.1⟩
 |_::_,_::_,h,i+1,_,e=>all2_at (i:=i) h.2 e
theorem ziZ {K:PySem.W.Frag} {H:Hp} {f:Int} {dy:Bool} {c:Int} {zs:List (V×Pl)} {G:Int→List D} {ds:List Int} {ws:List V} (h:zcN (Dp K H 1) (toldF f dy c zs G ds) ws) {i:Nat} (hi:i<6):ws[i]? =some (.int (spanF f dy c zs G i)):=by
 obtain ⟨x,e,g⟩:=all2_at h (i:=i) (d:= .int (spanF f dy c zs G i)) (by
  unfold toldF
  rw [List.getElem?_append_left (by rw [List.length_map,List.length_range];exact hi),List.getElem?_map,List.getElem?_range hi]
  rfl)
 have g':x= .int (spanF f dy c zs G i):=by simpa only [Dp] using g
 rw [e,g']
theorem zf0 (F:Int→Int) (a:Int): ∀n:Nat,((List.range n).map fun i:Nat=>F (a+i)).sum=Ss F a n
 |0=>rfl
 |n+1=>by
  rw [List.range_succ,List.map_append,List.sum_append,zf0 F a n]
  show _+(F (a+n)+0)=Ss F a n+F (a+n)
  omega
theorem zg5 {α:Type} (a b c:Int→α): ∀{ds:List Int} {j:Nat} {d:Int},ds[j]? =some d→(ds.flatMap fun d=> [a d,b d,c d])[3*j]? =some (a d)
 | [],_,_,h=>by rw [List.getElem?_nil] at h;cases h
 |x::r,0,d,h=>by cases h;rfl
 |x::r,j+1,d,h=>by
  have:=zg5 a b c (ds:=r) (j:=j) (d:=d) h
  rw [List.flatMap_cons,List.getElem?_append_right (by simp only [List.length_cons,List.length_nil];omega)]
  rw [←this]
  congr 1
theorem zkQ {K:PySem.W.Frag} {H:Hp} {f:Int} {dy:Bool} {c:Int} {zs:List (V×Pl)} {G:Int→List D} {ds:List Int} {ws:List V} (h:zcN (Dp K H 1) (toldF f dy c zs G ds) ws) {j:Nat} {d:Int} (hd:ds[j]? =some d): ∃x,ws[6+3*j]? =some x∧Dp K H 1 (.tup (G d)) x:=by
 refine all2_at h ?_
 unfold toldF
 rw [List.getElem?_append_right (by rw [List.length_map,List.length_range];omega),List.length_map,List.length_range,Nat.add_sub_cancel_left]
 exact zg5 _ _ _ hd
theorem zkR {n:Nat} (h:n≤4000000):n<sizeLine:=Nat.lt_of_le_of_lt h (by decide)
theorem zg6 {K:PySem.W.Frag} {H:Hp} {G:Int→List D}: ∀{as:List Addr} {ds:List Int},as.length=ds.length→(∀(i:Nat) a d,as[i]? =some a→ds[i]? =some d→H a=some (.tup ((G d).map sv))∧StD (G d))→zcN (Dp K H 1) (ds.map fun d=>D.tup (G d)) (as.map V.ref)
 | [], [],_,_=>trivial
 |a::r,d::t,e,h=>⟨(h 0 a d rfl rfl).2.dp (h 0 a d rfl rfl).1,zg6 (by simpa using e) fun i a d h1 h2=>h (i+1) a d h1 h2⟩
 | [],_::_,e,_=>by cases e
 |_::_, [],e,_=>by cases e
theorem sc_1f:FnScope ["_law_script","_law_account_here","_law_entries_here","_law_timed","_law_between_here","_law_moment","_law_wide","_law_days","_law_due","_law_other","_law_terms","_law_k","_law_span"] ["_law_script"] (zap s_1f):=⟨rfl,rfl,rfl,by decide+kernel,rfl,by decide+kernel,by decide+kernel⟩
theorem ok_1f (T:Txt w K mg t) (B:BM mg base):FnOk P w K mg base (CXE P w) 13 t.a_1f t.d_1f ["_law_script"] (zk1 K [t.p_12,t.p_1c]):=by
 refine T.fn_1f.okX sc_1f (fun vs H Q E h=> ?_) (fun cdv A outer s H vs Q E L hr h=> ?_)
 ·obtain ⟨a,ns,rfl,hS,h63,hNd,hTs,q⟩:=h
  rfl
 obtain ⟨a,ns,rfl,hS,h63,hNd,hTs,q⟩:=h
 have nd:=sc_1f.nd
 refine ⟨_,(zad (zan (i:=1) nd rfl (Or.inr rfl) (zag L.toLv (ok_16 T) (hr.mono (by decide)) (by rfl) T.mg_16 T.fn_16.kp T.b_16 .nil (zaa (pv 0) zae))) (zad (zan (i:=2) nd rfl (Or.inl rfl) (zag L.toLv (ok_18 T) (hr.mono (by decide)) (by rfl) T.mg_18 T.fn_18.kp T.b_18 .nil (zaa (pv 0) (zaa (pv 1) (zaa zac zae zah) zab) zab))) (zad (zan (i:=3) nd rfl (Or.inl rfl) (zag L.toLv (ok_12 T B) (hr.mono (by decide)) (by rfl) T.mg_12 T.fn_12.kp T.b_12 .nil (zaa (pv 2) zae))) (zad (zan (i:=4) nd rfl (Or.inl rfl) (zag L.toLv (ok_1c T B) (hr.mono (by decide)) (by rfl) T.mg_1c T.fn_1c.kp T.b_1c .nil (zaa (pv 2) (zaa (pv 0) zae zab) zab))) (zad (zaM (zar zj9 (zag L.toLv (ok_10 T) (hr.mono (by decide)) (by rfl) T.mg_10 T.fn_10.kp T.b_10 .nil (zaa (pv 1) (zaa (pv 4) zae zab) zab)) zeN (zat _)) (zaf (zaw zgt)) zaz) (zad (zan (i:=5) nd rfl (Or.inl rfl) (zaF (zfv (by rfl)) (by rfl) T.no_max zjf (zaa (zaq zas (pv 1) zac (fun _ _=>rfl)) (zaa (zag L.toLv (ok_1d T) (hr.mono (by decide)) (by rfl) T.mg_1d T.fn_1d.kp T.b_1d .nil (zaa (zbg (zaa (pv 2) (zaa (pv 3) (zaa (pv 4) zae zab) zab) zab)) zae)) zae zaB) zak))) (zad (zan (i:=6) nd rfl (Or.inr rfl) (zai zbP (zag L.toLv (ok_07 T) (hr.mono (by decide)) (by rfl) T.mg_07 T.fn_07.kp T.b_07 .nil (zaa (zaq zas (pv 1) zac (fun _ _=>rfl)) (zaa (zaq zas (pv 1) zac (fun _ _=>rfl)) (zaa zac zae zah) zak) zak)) (zaq zas (pv 1) zac (fun _ _=>rfl)))) (zad (zdM (i:=7) nd rfl rfl (n:=1) (N:= ["_law_k","_law_account_here","_law_script","_law_wide"]) (js:= [1,0,6]) (by rfl) rfl rfl (zbL (by rfl) T.no_range (zaa zac zae)) (fun a=>(zaj (i:=0) (show List.Nodup (["_law_k","_law_account_here","_law_script","_law_wide"]:List Str) from by decide+kernel) rfl (Or.inl rfl))) (fun a=>zcC) (fun a=>(zai zaE (zaq zas (pv 1) zac (fun _ _=>rfl)) (zai zaC (zag zfD (ok_14 T) (hr.mono (by decide)) (by rfl) T.mg_14 T.fn_14.kp T.b_14 .nil (zaa (zag zfD (ok_13 T) (hr.mono (by decide)) (by rfl) T.mg_13 T.fn_13.kp T.b_13 .nil (zaa (pv 2) (zaa (zai zaE zac (pv 0)) zae zav) zab)) (zaa (pv 0) zae zab) zaB)) (pv 3))))) (zad (zan (i:=8) nd rfl (Or.inr rfl) (zag L.toLv (ok_1e T) (hr.mono (by decide)) (by rfl) T.mg_1e T.fn_1e.kp T.b_1e .nil (zaa (pv 1) (zaa (zag L.toLv (ok_11 T) (hr.mono (by decide)) (by rfl) T.mg_11 T.fn_11.kp T.b_11 .nil (zaa (pv 2) (zaa (pv 5) zae zab) zab)) (zaa (pv 7) zae zab) zaB) zab))) (zad (zbO (by passes_own) rfl (zbu (zbg (zaa (pv 3) (zaa (pv 4) zae zab) zab))) (zaj (i:=9) nd rfl (Or.inl rfl)) (zaf (zaM (zar (zhj hr) (zag L.toLv (ok_1e T) (hr.mono (by decide)) (by rfl) T.mg_1e T.fn_1e.kp T.b_1e .nil (zaa (pv 1) (zaa (zag L.toLv (ok_11 T) (hr.mono (by decide)) (by rfl) T.mg_11 T.fn_11.kp T.b_11 .nil (zaa (pv 9) (zaa (pv 5) zae zab) zab)) (zaa (pv 7) zae zab) zaB) zab)) (pv 8) (zat _)) (zaf (zaw zgt)) zaz))) (zad (zan (i:=10) nd rfl (Or.inr rfl) (zag L.toLv (ok_19 T) (hr.mono (by decide)) (by rfl) T.mg_19 T.fn_19.kp T.b_19 .nil (zaa (pv 2) (zaa (pv 5) zae zab) zab))) (zad (zbO (by passes_own) rfl (zbL (by rfl) T.no_range (zaa zac zae)) (zaj (i:=11) nd rfl (Or.inl rfl)) (zad (zan (i:=12) nd rfl (Or.inl rfl) (zaJ (zaa (zag L.toLv (ok_07 T) (hr.mono (by decide)) (by rfl) T.mg_07 T.fn_07.kp T.b_07 .nil (zaa (zaq zas (pv 1) zac (fun _ _=>rfl)) (zaa (zaq zas (pv 1) zac (fun _ _=>rfl)) (zaa (pv 11) zae zab) zak) zak)) (zaa (zag L.toLv (ok_07 T) (hr.mono (by decide)) (by rfl) T.mg_07 T.fn_07.kp T.b_07 .nil (zaa (zaq zas (pv 1) zac (fun _ _=>rfl)) (zaa (zaq zas (pv 1) zac (fun _ _=>rfl)) (zaa (zai zaE (pv 11) zac) zae zav) zak) zak)) zae zaB) zaB))) (zaf (zaM (zar zeQ (zaq zaI (pv 8) (pv 11) (fun _ _=>rfl)) (zaF (zgF (by rfl)) (by rfl) T.no_sum zjk (zaa (zcK (n:=1) (N:= ["_law_day_here","_law_account_here","_law_terms"]) (js:= [1,10]) (by rfl) rfl rfl (zft (by rfl) T.no_range (zaa (zaq zas (pv 12) zac (fun _ _=>rfl)) (zaa (zaq zas (pv 12) zac (fun _ _=>rfl)) zae zak) zak)) (fun a=>(zaj (i:=0) (show List.Nodup (["_law_day_here","_law_account_here","_law_terms"]:List Str) from by decide+kernel) rfl (Or.inl rfl))) (fun a=>zcC) (fun a=>(zag zfD (ok_1b T) (hr.mono (by decide)) (by rfl) T.mg_1b T.fn_1b.kp T.b_1b .nil (zaa (pv 1) (zaa (pv 2) (zaa (pv 0) zae zab) zab) zab)))) zae)) (zat _)) (zaf (zaw zgt)) zaz)))) (zaf (zaw (zbT (zjo hr) (zcK (n:=1) (N:= ["_law_k","_law_due"]) (js:= [8]) (by rfl) rfl rfl (zbL (by rfl) T.no_range (zaa zac zae)) (fun a=>(zaj (i:=0) (show List.Nodup (["_law_k","_law_due"]:List Str) from by decide+kernel) rfl (Or.inl rfl))) (fun a=>zcC) (fun a=>(zaq zaI (pv 1) (zai zaE zac (zai zb9 zac (pv 0))) (fun _ _=>rfl)))) (zcK (n:=1) (N:= ["_law_day_here","_law_account_here","_law_terms"]) (js:= [1,10]) (by rfl) rfl rfl (zbu (pv 7)) (fun a=>(zaj (i:=0) (show List.Nodup (["_law_day_here","_law_account_here","_law_terms"]:List Str) from by decide+kernel) rfl (Or.inl rfl))) (fun a=>zcC) (fun a=>(zag zfD (ok_1a T) (hr.mono (by decide)) (by rfl) T.mg_1a T.fn_1a.kp T.b_1a .nil (zaa (pv 1) (zaa (pv 2) (zaa (pv 0) zae zab) zab) zab)))) (zat _)))))))))))))))),?_⟩
 open_k0
 refine ⟨a,ns,rfl,hS,h63,fun p l zs f dy cc H1 s1 hA el za zi=> ?_⟩
 have hz:zdf K H1 p l f dy cc zs:=⟨hA,el,za,zi⟩
 obtain ⟨f0,f1,hc⟩:=hz.1.cyc
 have b6:=Cal.beg_range (k:=60) f0 f1 hc (by decide) (by decide)
 refine ⟨a,ns,p,l,f,dy,cc,zs,3,rfl,s1.seq hS,h63,by decide,by decide,hz,fun le ys H2 s2 yE yO y40 e2=> ?_⟩
 have ne:t.p_1c≠t.p_12:=fun z=>(List.pairwise_cons.mp hNd).1 _ List.mem_cons_self z.symm
 have hT1:Tab H2 t.p_12:=⟨#[],s2 _ _ (s1 _ _ (hTs _ List.mem_cons_self)),trivial, .inl rfl⟩
 have hT2:=s2 _ _ (s1 _ _ (hTs t.p_1c (List.mem_cons_of_mem _ List.mem_cons_self)))
 refine ⟨le,ys,rfl,SqL.of e2,yE,y40,zcy yO,hT1,fun lt rs so H3 n3 s3 t3 o3 e3 rE3 it rce=> ?_⟩
 have yb: ∀z∈ys,f≤z.2.2.1∧z.2.2.1<Cal.beg f dy cc 60:=fun z hz'=>by
  obtain ⟨i,hi⟩:=List.mem_iff_getElem?.mp hz'
  exact ⟨(yO i z hi).1,(yO i z hi).2.1⟩
 refine ⟨le,a,ys,ns,f,Cal.beg f dy cc 60,rfl,s3.seq ((s1.trans s2).seq hS),h63,SqL.of (s3.lst e2),zgp yE s3,y40,yO.pair,zcy yO,yb,EnB.of yO,f0,by omega,⟨#[],o3 _ _ ne hT2,trivial, .inl rfl⟩,fun lb bs ks H4 n4 s4 _ _ e4 bE4 pm er bb bp ko=> ?_⟩
 obtain ⟨bok,bl⟩:=zhN yO yO.pair pm er bb bp
 obtain ⟨rok,rundo,rlen⟩:=zkO yO it rce
 have s24:zcb H2 H4:=s3.trans s4
 have hAcc4:Acc K H4 p f dy cc zs:=zlI (⟨l,hA.same s2,SqL.of (s2 _ _ el),za.same s2,zi.1,zi.2.1⟩:Acc K H2 p f dy cc zs) s24
 refine ⟨p,lb,f,dy,cc,zs,bs,rfl,hAcc4,SqL.of e4,bE4,by omega,bok,fun H5 s5=> ?_⟩
 show if¬V.non=V.non then _ else _
 rw [if_neg (fun z=>z rfl)]
 have s15:zcb H1 H5:=(zcL s2).trans (s24.trans (zcL s5))
 have hz5:=zkP hz s15
 have hS5:=s15.seq (s1.seq hS)
 have ey5:=((s24.trans (zcL s5)).lst e2)
 have yE5:=zgp yE (s24.trans (zcL s5))
 have er5:=(s4.trans (zcL s5)).lst e3
 have rE5:=zgp rE3 (s4.trans (zcL s5))
 have eb5:=s5 _ _ e4
 have bE5:=bE4.same s5
 clear hAcc4 s15 s24 hz hA el za zi hS s1 s2 s3 s4 s5 hT1 hT2 t3 o3 hTs hNd ne yE e2 e3 rE3 e4 bE4 n3 n4
 obtain ⟨pc,_,_,hc5,ep⟩:=id hz5.1
 have hT5:=SqT.of (K:=K) ep
 refine ixT hT5 (zb7 _ _ _) fun ll H6 _ s6 e6=> ?_
 refine ⟨ll, [(le,ys),(lt,rs),(lb,bs)],rfl,e6,fun x hx=> ?_,fun m hm=>⟨_,rfl,_,rfl,?_⟩⟩
 ·simp only [List.mem_cons,List.not_mem_nil,or_false] at hx
  rcases hx with rfl|rfl|rfl
  ·exact ⟨SqL.of (s6 _ _ ey5),yE5.same s6⟩
  ·exact ⟨SqL.of (s6 _ _ er5),rE5.same s6⟩
  ·exact ⟨SqL.of (s6 _ _ eb5),bE5.same s6⟩
 obtain ⟨mo,hmo⟩: ∃mo,mo=if m>f then m else f:=⟨_,rfl⟩
 rw [←hmo]
 have mm:m≤mo:=by rw [hmo];split<;>omega
 have ym: ∀z∈ys,z.2.2.1≤mo:=fun z h=>Int.le_trans (hm (le,ys) List.mem_cons_self z h) mm
 have rm: ∀z∈rs,z.2.2.1≤mo:=fun z h=>Int.le_trans (hm (lt,rs) (List.mem_cons_of_mem _ List.mem_cons_self) z h) mm
 have bm: ∀z∈bs,z.2.2.1≤mo:=fun z h=>Int.le_trans (hm (lb,bs) (List.mem_cons_of_mem _ (List.mem_cons_of_mem _ List.mem_cons_self)) z h) mm
 clear hmo hm mm
 have hT6:=s6.sqT hT5
 have b0:Cal.beg f dy cc 0=f:=Cal.beg_zero f0 f1
 refine ixT hT6 (zb7 _ _ _) (ixT hT6 (zdw _ _ _ _) ⟨f,pc,dy,cc,9,rfl,f0,f1,hc5.same s6,fun _ _ H7 s7=>ixT (s7.sqT hT6) (zb7 _ _ _) ⟨_,rfl,_,rfl,?_⟩,fun z=>absurd z (by decide),fun z=>absurd z (by decide)⟩)
 have g1:=Cal.beg_lt (k:=0) (j:=9) f0 f1 hc (by decide) (by decide) (by decide)
 have g2:=Cal.beg_le (k:=9) (j:=60) f0 f1 hc (by decide) (by decide) (by decide)
 rw [b0] at g1
 have wa:0<Cal.beg f dy cc 9 - f∧f+(Cal.beg f dy cc 9 - f)≤Cal.beg f dy cc 60:=by omega
 generalize Cal.beg f dy cc 9 - f=wide at wa ⊢
 simp only [zbe,zaU,zbK,zbd,zcx,zbc,zcr,zaS,zbJ,zbb,zbm,zbI,tDc,za4,za5,za3,zbG,zbH,zbl,zbn,za2,zaG,zaH,zcq,List.replicate,Option.join_some,Option.join_none,za6,zcv,zbF,zaR,tSl,zcs,zcp,zcu,slT,zcg,Int.reduceLT,Int.reduceLE,Int.reduceToNat,Int.reduceNeg,Int.reduceAdd,Int.reduceSub,Int.reduceMul,forall_const,zcl,zbC,zcn,zcm,zbM,zbD,zcc,zbq,zbt,zcf,zce,tC,tOp,rI,rI0,tUn,rU,zbE,tB,zci,tOr,zcj,zbA,zck,zbB,tIf,zbx,zch,za9,zbk,tCB,zba,rEq,rNe,zaX,zaY,zaZ,za0,za1,zbj,zco,ipI,L2.start,List.map_cons,List.map_nil,List.length_cons,List.length_nil,List.cons_append,List.nil_append,List.append_nil,List.replicate_succ,List.replicate_zero,Nat.reduceAdd,Nat.reduceSub,List.getElem?_cons_zero,List.getElem?_cons_succ,List.set_cons_zero,List.set_cons_succ,Option.some.injEq,V.int.injEq,V.bl.injEq,V.ref.injEq,V.str.injEq,exists_eq_left',exists_eq_left,exists_eq',exists_and_left,List.cons.injEq,and_true,true_and,and_self,and_assoc,decide_eq_true_eq,if_true,if_false,Bool.true_eq_false,Bool.false_eq_true,Bool.not_eq_true',Bool.not_true,Bool.not_false,decide_eq_false_iff_not,ite_true,ite_false,reduceCtorEq,false_and,exists_false,false_or,or_false,and_false,zds,zgz,Nat.reduceLeDiff]
 refine ⟨by decide,by decide,fun ld hld aa=> ?_⟩
 have s57:=s6.trans s7
 refine zb0 (fun j xs _=> ∃gs:List Int,xs=gs.map V.int∧gs.length=j∧ ∀g∈gs,f≤g∧g<Cal.beg f dy cc 60) (zdN 0 3 H7) hld (by rw [zb4];exact za7 (by decide)) (fun _ _=>⟨[],rfl,rfl,(fun _ h=>nomatch h)⟩) (fun j y xs H8 K1 K0 hxx sm pv hl k1 k0=> ?_) (fun xs H8 s8 pv _ w8=> ?_)
 ·have hj:=(List.getElem?_eq_some_iff.mp hxx).1
  rw [zb4] at hj
  rw [zeb hj] at hxx
  cases hxx
  obtain ⟨gs,rfl,gl,gb⟩:=pv
  lgec_open0
  have s48:=s57.trans sm
  refine ixT (s48.sqT hT5) (zb7 _ _ _) ⟨a,ns,_,rfl,s48.seq hS5,h63,by omega,_,_,rfl,by omega,by omega,fun r _ _=>⟨_,rfl,wa.1,_,rfl,k1 _ _ (zao.refl _) fun H' _=>⟨gs++ [f+r % wide],by rw [List.map_append];rfl,by rw [List.length_append,gl];rfl,fun g hg=> ?_⟩⟩⟩
  have r0:=Int.emod_nonneg r (show wide≠0 by omega)
  have r1:=Int.emod_lt_of_pos r wa.1
  rcases List.mem_append.mp hg with z|z
  ·exact gb g z
  ·rw [List.mem_singleton.mp z]
   omega
 rw [zb4] at pv
 obtain ⟨ds,rfl,dl,db⟩:=pv
 have s58:=s57.trans s8
 have yX:=zhO (yE5.same s58) y40 yO
 have rX:=zhO (rE5.same s58) (by omega) rok
 have bX:=zhO (bE5.same s58) (by omega) bok
 obtain ⟨G,hG⟩:=zmg mo f0 f1 hc yX
 have hGr:=zkN it rce (zcy yO) y40 (EnB.of yO) f0 (show Cal.beg f dy cc 60≤4000000 by omega) ym rm hG
 have hGb:=zhM pm er ko yO.pair (zcy yO) y40 (EnB.of yO) f0 (show Cal.beg f dy cc 60≤4000000 by omega) (fun z h=>by have:=yb z h;omega) ym bm hG
 have tell: ∀(lx:Addr) (xs:List En) (H9:Hp) (Q':VK),zao H8 H9→SqL K H9 lx (xs.map (·.1))→EnX zs f (Cal.beg f dy cc 60) K H9 xs→GL f dy cc xs mo G→(∀r ws H10,zao H9 H10→H10 r=some (.lst ws)→zcN (Dp K H10 1) (toldF f dy cc zs G ds) ws→Q' (.ref r) H10)→zfW K [.ref lx, .int mo] H9 (fun x H1=>zg3 K [.ref p,x, .ref ld] H1 Q' E) E:=fun lx xs H9 Q' s9 hS9 hX hGx q'=>
  ⟨lx,xs,mo,rfl,hS9,hX.1,hX.2.1,hX.2.2.1,hX.2.2.2.1,fun r as H10 _ s10 er10 ht=>by
   obtain ⟨ts,tA,tk,tz⟩:=zg1 dy cc hX.2.2.1 hX.2.2.2.1 hX.2.1 (hX.1.same s10) hX.2.2.2.2.1 er10 ht
   exact ⟨p,r,l,ld,f,dy,cc,zs,ts,G,ds,rfl,hz5.same (s58.trans (s9.trans s10)),tA,hX.tmx (fun t h=>(tA.2.2.1 t h).2.2.1) tz,hGx ts tk,(s9.trans s10) _ _ w8,by omega,db,fun r' ws H11 s11 e11 a11=>q' r' ws H11 (s10.trans s11) e11 a11⟩⟩
 refine tell le ys H8 _ (zao.refl _) (SqL.of (s58 _ _ ey5)) yX hG fun ldue ws H9 s9 e9 a9=> ?_
 ((try dsimp only);refine zbX fun R hR=> ?_;lge_open0)
 intro lo H10 _ s10 e10
 refine ⟨lo,rfl,⟨_,SqL.of e10⟩,hR _ _ ?_⟩
 clear hR
 obtain ⟨Pv,hPv⟩: ∃Pv:Nat→St→Hp→Prop,Pv=fun (_:Nat) σ1 H11=>zao H10 H11∧ ∃x9:Option V,σ1= [some (.ref a),some (.ref p),some (.ref le),some (.ref lt),some (.ref lb),some (.int mo),some (.int wide),some (.ref ld),some (.ref ldue),x9,none,none,none]:=⟨_,rfl⟩
 refine zcz (xs:= [V.ref lt,V.ref lb]) Pv (by rw [hPv];exact ⟨zao.refl _,_,rfl⟩) (fun _ _ _ _ h=>by rw [hPv] at h;exact SqL.of (h.1 _ _ e10)) (fun i x σ1 H11 hxx h=> ?_) (fun σ1 H11 h=> ?_)
 ·rw [hPv] at h
  obtain ⟨s11,x9,rfl⟩:=h
  have s811:=s9.trans (s10.trans s11)
  obtain ⟨lx,xs,rfl,hSx,hXx,hGx⟩: ∃(lx:Addr) (xs:List En),x= .ref lx∧SqL K H11 lx (xs.map (·.1))∧EnX zs f (Cal.beg f dy cc 60) K H11 xs∧GL f dy cc xs mo G:=by
   have:=List.mem_of_getElem? hxx
   simp only [List.mem_cons,List.not_mem_nil,or_false] at this
   rcases this with rfl|rfl
   ·exact ⟨lt,rs,rfl,SqL.of ((s58.trans s811) _ _ er5),rX.same s811,hGr⟩
   ·exact ⟨lb,bs,rfl,SqL.of ((s58.trans s811) _ _ eb5),bX.same s811,hGb⟩
  open_k0
  refine tell lx xs H11 _ s811 hSx hXx hGx fun r2 ws2 H12 s12 e12 a12=> ?_
  have s912:=(s10.trans s11).trans s12
  refine neD (n:=1) (d:= .lst (toldF f dy cc zs G ds)) (zeu (SqL.of e12) a12) (zeu (SqL.of (s912 _ _ e9)) (zda (fun _ _ _ h=>h.same s912) a9)) rfl (by decide) ⟨_,rfl,zaT (by decide) ?_⟩
  rw [hPv]
  exact ⟨s11.trans s12,_,rfl⟩
 rw [hPv] at h
 obtain ⟨s11,x9,rfl⟩:=h
 clear hPv tell hGr hGb rX bX
 have s911:=s10.trans s11
 have s511:=s58.trans (s9.trans s911)
 have yX11:=(yX.same s9).same s911
 open_k0
 refine ⟨le,ys,mo,rfl,SqL.of (s511 _ _ ey5),yX11.1,y40,yO.pair,zcy yO,fun rk as H12 _ s12 e12 ht=> ?_⟩
 obtain ⟨ts,tA,tk,tz⟩:=zg1 dy cc yX11.2.2.1 yX11.2.2.2.1 yX11.2.1 (yX11.1.same s12) yX11.2.2.2.2.1 e12 ht
 have hx:=yX11.tmx (fun t h=>(tA.2.2.1 t h).2.2.1) tz
 have hGt:=hG ts tk
 ((try dsimp only);refine zbX fun R hR=> ?_;lge_open0)
 refine ⟨by decide,by decide,hR _ _ ?_⟩
 clear hR
 have s512:=s511.trans s12
 have s912:=s911.trans s12
 obtain ⟨Pw,hPw⟩: ∃Pw:Nat→St→Hp→Prop,Pw=fun (_:Nat) σ1 H13=>zao H12 H13∧ ∃x11 x12:Option V,σ1= [some (.ref a),some (.ref p),some (.ref le),some (.ref lt),some (.ref lb),some (.int mo),some (.int wide),some (.ref ld),some (.ref ldue),x9,some (.ref rk),x11,x12]:=⟨_,rfl⟩
 refine zb1 (n:=2) Pw (by rw [hPw];exact ⟨zao.refl _,_,_,rfl⟩) (fun i σ1 H13 hi h=> ?_) (fun σ1 H13 h=> ?_)
 ·rw [hPw] at h
  obtain ⟨s13,x11,x12,rfl⟩:=h
  have s513:=s512.trans s13
  have hT13:=s513.sqT hT5
  open_k0
  refine ixT hT13 (zb7 _ _ _) (ixT hT13 (zdw _ _ _ _) ⟨f,pc,dy,cc,_,rfl,f0,f1,hc5.same s513,fun _ _ H14 s14=> ?_,fun z=>absurd z (by omega),fun z=>absurd z (by omega)⟩)
  have hT14:=s14.sqT hT13
  refine ixT hT14 (zb7 _ _ _) (ixT hT14 (zdw _ _ _ _) ⟨f,pc,dy,cc,_,rfl,f0,f1,(hc5.same s513).same s14,fun _ _ H15 s15=> ?_,fun z=>absurd z (by omega),fun z=>absurd z (by omega)⟩)
  intro ps H16 _ s16 e16
  have wi:=ziZ a9 (show i<6 by omega)
  have s916:=(s912.trans s13).trans (s14.trans (s15.trans s16))
  refine ixL (v:= .int (spanF f dy cc zs G i)) (SqL.of (s916 _ _ e9)) (by rw [Int.zero_add];exact zbw wi) ?_
  simp only [zbe,zaU,zbK,zbd,zcx,zbc,zcr,zaS,zbJ,zbb,zbm,zbI,tDc,za4,za5,za3,zbG,zbH,zbl,zbn,za2,zaG,zaH,zcq,List.replicate,Option.join_some,Option.join_none,za6,zcv,zbF,zaR,tSl,zcs,zcp,zcu,slT,zcg,Int.reduceLT,Int.reduceLE,Int.reduceToNat,Int.reduceNeg,Int.reduceAdd,Int.reduceSub,Int.reduceMul,forall_const,zcl,zbC,zcn,zcm,zbM,zbD,zcc,zbq,zbt,zcf,zce,tC,tOp,rI,rI0,tUn,rU,zbE,tB,zci,tOr,zcj,zbA,zck,zbB,tIf,zbx,zch,za9,zbk,tCB,zba,rEq,rNe,zaX,zaY,zaZ,za0,za1,zbj,zco,ipI,L2.start,List.map_cons,List.map_nil,List.length_cons,List.length_nil,List.cons_append,List.nil_append,List.append_nil,List.replicate_succ,List.replicate_zero,Nat.reduceAdd,Nat.reduceSub,List.getElem?_cons_zero,List.getElem?_cons_succ,List.set_cons_zero,List.set_cons_succ,Option.some.injEq,V.int.injEq,V.bl.injEq,V.ref.injEq,V.str.injEq,exists_eq_left',exists_eq_left,exists_eq',exists_and_left,List.cons.injEq,and_true,true_and,and_self,and_assoc,decide_eq_true_eq,if_true,if_false,Bool.true_eq_false,Bool.false_eq_true,Bool.not_eq_true',Bool.not_true,Bool.not_false,decide_eq_false_iff_not,ite_true,ite_false,reduceCtorEq,false_and,exists_false,false_or,or_false,and_false,zds,zhQ,Nat.reduceLeDiff]
  have gi:=Cal.beg_lt (k:=(i:Int)) (j:=(i:Int)+1) f0 f1 hc (by omega) (by omega) (by omega)
  have gr:=Cal.beg_range (k:=(i:Int)) f0 f1 hc (by omega) (by omega)
  have gr':=Cal.beg_range (k:=(i:Int)+1) f0 f1 hc (by omega) (by omega)
  rw [Int.zero_add] at e16
  refine ixT (SqT.of e16) (zbR _ _) (ixT (SqT.of e16) (zb7 _ _ _) ?_)
  refine ⟨_,rfl,_,rfl,by omega,by omega,by omega,by omega,fun lc hlc ab=> ?_⟩
  have s516:=s513.trans (s14.trans (s15.trans s16))
  have s1216:=s13.trans (s14.trans (s15.trans s16))
  obtain ⟨F,hF⟩: ∃F:Int→Int,F=fun o=>zcQ zs (Cal.beg f dy cc i) (Cal.beg f dy cc ((i:Int)+1)) o (o+1) (G o):=⟨_,rfl⟩
  refine zb0 (fun j xs _=>xs=((List.range j).map fun m:Nat=>F (Cal.beg f dy cc i+m)).map V.int) (zdN _ _ H16) hlc (by rw [zb4];exact zkR (by omega)) (fun _ _=>rfl) (fun j y xs H17 K1 K0 hxx sm pv hl k1 k0=> ?_) (fun xs H17 s17 pv _ w17=> ?_)
  ·have hj:=(List.getElem?_eq_some_iff.mp hxx).1
   rw [zb4] at hj
   rw [zeb hj] at hxx
   cases hxx
   lgec_open0
   refine ⟨p,rk,l,f,dy,cc,_,(i:Int),zs,ts,rfl,hz5.same (s516.trans sm),tA.same (s1216.trans sm),hx,by omega,by omega,by omega,by omega,fun u0 u1 u2 H18 s18 su=>k1 _ _ s18 fun H19 _=> ?_⟩
   rw [pv,hGt ts (fun _=>Iff.rfl) _ _ _ _ su,List.range_succ,List.map_append,List.map_append,hF]
   rfl
  rw [zb4] at pv
  subst pv
  have es:spanF f dy cc zs G i=((List.range (Cal.beg f dy cc ((i:Int)+1) - Cal.beg f dy cc i).toNat).map fun m:Nat=>F (Cal.beg f dy cc i+m)).sum:=by
   rw [zf0,hF]
   rfl
  refine ⟨lc,rfl,_,SqL.of w17,?_⟩
  rw [if_neg (fun z=>z es),hPw]
  exact ⟨s1216.trans s17,_,_,rfl⟩
 rw [hPw] at h
 obtain ⟨s13,x11,x12,rfl⟩:=h
 open_k0
 have s913:=s912.trans s13
 have s513:=s512.trans s13
 simp only [zbe,zaU,zbK,zbd,zcx,zbc,zcr,zaS,zbJ,zbb,zbm,zbI,tDc,za4,za5,za3,zbG,zbH,zbl,zbn,za2,zaG,zaH,zcq,List.replicate,Option.join_some,Option.join_none,za6,zcv,zbF,zaR,tSl,zcs,zcp,zcu,slT,zcg,Int.reduceLT,Int.reduceLE,Int.reduceToNat,Int.reduceNeg,Int.reduceAdd,Int.reduceSub,Int.reduceMul,forall_const,zcl,zbC,zcn,zcm,zbM,zbD,zcc,zbq,zbt,zcf,zce,tC,tOp,rI,rI0,tUn,rU,zbE,tB,zci,tOr,zcj,zbA,zck,zbB,tIf,zbx,zch,za9,zbk,tCB,zba,rEq,rNe,zaX,zaY,zaZ,za0,za1,zbj,zco,ipI,L2.start,List.map_cons,List.map_nil,List.length_cons,List.length_nil,List.cons_append,List.nil_append,List.append_nil,List.replicate_succ,List.replicate_zero,Nat.reduceAdd,Nat.reduceSub,List.getElem?_cons_zero,List.getElem?_cons_succ,List.set_cons_zero,List.set_cons_succ,Option.some.injEq,V.int.injEq,V.bl.injEq,V.ref.injEq,V.str.injEq,exists_eq_left',exists_eq_left,exists_eq',exists_and_left,List.cons.injEq,and_true,true_and,and_self,and_assoc,decide_eq_true_eq,if_true,if_false,Bool.true_eq_false,Bool.false_eq_true,Bool.not_eq_true',Bool.not_true,Bool.not_false,decide_eq_false_iff_not,ite_true,ite_false,reduceCtorEq,false_and,exists_false,false_or,or_false,and_false,zds,zgz,Nat.reduceLeDiff]
 refine ⟨by decide,by decide,fun l1 hl1 ab1=> ?_⟩
 refine zb0 (fun j xs _=>zcN (Dp K H13 1) ((ds.take j).map fun d=>D.tup (G d)) xs) (zdN 0 3 H13) hl1 (by rw [zb4];exact za7 (by decide)) (fun _ _=>trivial) (fun j y xs H14 K1 K0 hxx sm pv hl k1 k0=> ?_) (fun xs H14 s14 pv _ w14=> ?_)
 ·have hj:=(List.getElem?_eq_some_iff.mp hxx).1
  rw [zb4] at hj
  rw [zeb hj] at hxx
  cases hxx
  lgec_open0
  have hj3:j<ds.length:=by omega
  have hd:=List.getElem?_eq_getElem hj3
  generalize ds[j]=d at hd
  obtain ⟨x,wx,dx⟩:=zkQ a9 hd
  refine ⟨.inl (by decide),ixL (v:=x) (SqL.of ((s913.trans sm) _ _ e9)) (by rw [Int.zero_add,show (6:Int)+3*(j:Int)=((6+3*j:Nat):Int) by omega];exact zbw wx) (k1 _ _ (zao.refl _) fun H15 _=> ?_)⟩
  rw [List.take_add_one,hd,List.map_append]
  exact ze3 pv ⟨dx.same s913,trivial⟩
 rw [zb4] at pv
 simp only [zbe,zaU,zbK,zbd,zcx,zbc,zcr,zaS,zbJ,zbb,zbm,zbI,tDc,za4,za5,za3,zbG,zbH,zbl,zbn,za2,zaG,zaH,zcq,List.replicate,Option.join_some,Option.join_none,za6,zcv,zbF,zaR,tSl,zcs,zcp,zcu,slT,zcg,Int.reduceLT,Int.reduceLE,Int.reduceToNat,Int.reduceNeg,Int.reduceAdd,Int.reduceSub,Int.reduceMul,forall_const,zcl,zbC,zcn,zcm,zbM,zbD,zcc,zbq,zbt,zcf,zce,tC,tOp,rI,rI0,tUn,rU,zbE,tB,zci,tOr,zcj,zbA,zck,zbB,tIf,zbx,zch,za9,zbk,tCB,zba,rEq,rNe,zaX,zaY,zaZ,za0,za1,zbj,zco,ipI,L2.start,List.map_cons,List.map_nil,List.length_cons,List.length_nil,List.cons_append,List.nil_append,List.append_nil,List.replicate_succ,List.replicate_zero,Nat.reduceAdd,Nat.reduceSub,List.getElem?_cons_zero,List.getElem?_cons_succ,List.set_cons_zero,List.set_cons_succ,Option.some.injEq,V.int.injEq,V.bl.injEq,V.ref.injEq,V.str.injEq,exists_eq_left',exists_eq_left,exists_eq',exists_and_left,List.cons.injEq,and_true,true_and,and_self,and_assoc,decide_eq_true_eq,if_true,if_false,Bool.true_eq_false,Bool.false_eq_true,Bool.not_eq_true',Bool.not_true,Bool.not_false,decide_eq_false_iff_not,ite_true,ite_false,reduceCtorEq,false_and,exists_false,false_or,or_false,and_false,zdz,Nat.reduceLeDiff]
 have w9:=(s913.trans s14) _ _ (s9 _ _ w8)
 refine ⟨⟨_,SqL.of w9⟩,fun l3 hl3 ab=> ?_⟩
 refine zb0 (fun j xs H5=> ∃as:List Addr,xs=as.map V.ref∧as.length=j∧ ∀(i:Nat) a d,as[i]? =some a→ds[i]? =some d→H5 a=some (.tup ((G d).map sv))∧StD (G d)) (zb3 (SqL.of w9)) hl3 (by rw [List.length_map];exact za7 (by omega)) (fun _ _=>⟨[],rfl,rfl,fun i a d h=>by rw [List.getElem?_nil] at h;cases h⟩) (fun j y xs H15 K1 K0 hxx sm pv hl k1 k0=> ?_) (fun xs H15 s15 pv' _ w15=> ?_)
 ·rw [List.getElem?_map] at hxx
  obtain ⟨d,hd,rfl⟩:=Option.map_eq_some_iff.mp hxx
  obtain ⟨as,rfl,al,av⟩:=pv
  lgec_open0
  have s1315:=s14.trans sm
  refine ⟨p,rk,l,d,f,dy,cc,ts,rfl,(hz5.same (s513.trans s1315)).1,tA.same (s13.trans s1315),fun pp o0 o1 o2 H16 s16 so ep=>k1 _ _ s16 fun H5 h5=>⟨as++ [pp],by rw [List.map_append];rfl,by rw [List.length_append,al];rfl,fun i a d' h1 h2=> ?_⟩⟩
  have sd:StD (G d):=by rw [←hGt ts (fun _=>Iff.rfl) _ _ _ _ so];exact st_std (fun t h=>(tA.2.2.1 t h).2.2.1) so
  rw [hGt ts (fun _=>Iff.rfl) _ _ _ _ so] at ep
  have nl: ∀a xs,H16 a=some (.tup xs)→a≠l3:=fun a xs h z=>by rw [z,s16 _ _ hl] at h;cases h
  rw [List.getElem?_append] at h1
  by_cases hi:i<as.length
  ·rw [if_pos hi] at h1
   have:=av i a d' h1 h2
   have g:=s16 _ _ this.1
   exact ⟨h5 _ _ (nl _ _ g) g,this.2⟩
  ·rw [if_neg hi] at h1
   have i0:i - as.length=0:=by
    rcases Nat.lt_or_ge (i - as.length) 1 with z|z
    ·omega
    ·rw [List.getElem?_eq_none (by simpa using z)] at h1;cases h1
   rw [i0] at h1
   cases h1
   obtain rfl:i=j:=by omega
   rw [hd] at h2
   cases h2
   exact ⟨h5 _ _ (nl _ _ ep) ep,sd⟩
 rw [List.length_map] at pv'
 obtain ⟨as,rfl,al,av⟩:=pv'
 rw [show (3:Nat)=ds.length from dl.symm,List.take_length] at pv
 exact eqD (n:=1) (d:= .lst (ds.map fun d=>D.tup (G d))) (zeu (SqL.of (s15 _ _ w14)) (zda (fun _ _ _ h=>h.same (s14.trans s15)) pv)) (zeu (SqL.of w15) (zg6 al av)) rfl (by decide) (q _)
end
theorem zd3 {α:Type} {P:List α→Prop} (h: ∀a0,P [a0]) (us:List α) (l:us.length=1):P us:=match us,l with| [a0],_=>h a0
theorem zdx {α:Type} {P:List α→Prop} (h: ∀a0 a1,P [a0,a1]) (us:List α) (l:us.length=2):P us:=match us,l with| [a0,a1],_=>h a0 a1
theorem zdR {α:Type} {P:List α→Prop} (h: ∀a0 a1 a2,P [a0,a1,a2]) (us:List α) (l:us.length=3):P us:=match us,l with| [a0,a1,a2],_=>h a0 a1 a2
theorem zlJ {α:Type} {P:List α→Prop} (h: ∀a0 a1 a2 a3,P [a0,a1,a2,a3]) (us:List α) (l:us.length=4):P us:=match us,l with| [a0,a1,a2,a3],_=>h a0 a1 a2 a3
abbrev fnS (x q:Str) (s:Stmt) (tV kV dc pm:Value) (an:Option Addr) (cd ct:Value):=PySem.W.fnOf x q (zdL s) (zcX s) (zap s) tV kV dc pm an cd ct
open PySem.W in
theorem txt_mk {w:World} {K:PySem.W.Frag} {h:Heap} {mg:Str→Option Value} (X:K.In h) (G:h.Ns mainGlobals mg)
  (ha0:nsIn K mainGlobals "has_leap_day"=some (some (.ref f0)))
  (hl0:K.lookup f0=some ⟨oc0,od0, .func (fnS "has_leap_day" "has_leap_day" s_00 .none kV0 dc0 pm0 an0 cd0 ct0),sl0⟩)
  (hc0:codeIn K cd0 "has_leap_day"=true)
  (hk0:keepIn K (.ref f0)=true)
  (ha1:nsIn K mainGlobals "days_in"=some (some (.ref f1)))
  (hl1:K.lookup f1=some ⟨oc1,od1, .func (fnS "days_in" "days_in" s_01 .none kV1 dc1 pm1 an1 cd1 ct1),sl1⟩)
  (hc1:codeIn K cd1 "days_in"=true)
  (hk1:keepIn K (.ref f1)=true)
  (ha2:nsIn K mainGlobals "days_ahead_of_year"=some (some (.ref f2)))
  (hl2:K.lookup f2=some ⟨oc2,od2, .func (fnS "days_ahead_of_year" "days_ahead_of_year" s_02 .none kV2 dc2 pm2 an2 cd2 ct2),sl2⟩)
  (hc2:codeIn K cd2 "days_ahead_of_year"=true)
  (hk2:keepIn K (.ref f2)=true)
  (ha3:nsIn K mainGlobals "day_of"=some (some (.ref f3)))
  (hl3:K.lookup f3=some ⟨oc3,od3, .func (fnS "day_of" "day_of" s_03 .none kV3 dc3 pm3 an3 cd3 ct3),sl3⟩)
  (hc3:codeIn K cd3 "day_of"=true)
  (hk3:keepIn K (.ref f3)=true)
  (ha4:nsIn K mainGlobals "year_of"=some (some (.ref f4)))
  (hl4:K.lookup f4=some ⟨oc4,od4, .func (fnS "year_of" "year_of" s_04 .none kV4 dc4 pm4 an4 cd4 ct4),sl4⟩)
  (hc4:codeIn K cd4 "year_of"=true)
  (hk4:keepIn K (.ref f4)=true)
  (ha5:nsIn K mainGlobals "date_of"=some (some (.ref f5)))
  (hl5:K.lookup f5=some ⟨oc5,od5, .func (fnS "date_of" "date_of" s_05 .none kV5 dc5 pm5 an5 cd5 ct5),sl5⟩)
  (hc5:codeIn K cd5 "date_of"=true)
  (hk5:keepIn K (.ref f5)=true)
  (ha6:nsIn K mainGlobals "months_on"=some (some (.ref f6)))
  (hl6:K.lookup f6=some ⟨oc6,od6, .func (fnS "months_on" "months_on" s_06 .none kV6 dc6 pm6 an6 cd6 ct6),sl6⟩)
  (hc6:codeIn K cd6 "months_on"=true)
  (hk6:keepIn K (.ref f6)=true)
  (ha7:nsIn K mainGlobals "begin_of"=some (some (.ref f7)))
  (hl7:K.lookup f7=some ⟨oc7,od7, .func (fnS "begin_of" "begin_of" s_07 .none kV7 dc7 pm7 an7 cd7 ct7),sl7⟩)
  (hc7:codeIn K cd7 "begin_of"=true)
  (hk7:keepIn K (.ref f7)=true)
  (ha8:nsIn K mainGlobals "span_on"=some (some (.ref f8)))
  (hl8:K.lookup f8=some ⟨oc8,od8, .func (fnS "span_on" "span_on" s_08 .none kV8 dc8 pm8 an8 cd8 ct8),sl8⟩)
  (hc8:codeIn K cd8 "span_on"=true)
  (hk8:keepIn K (.ref f8)=true)
  (ha9:nsIn K mainGlobals "is_whole"=some (some (.ref f9)))
  (hl9:K.lookup f9=some ⟨oc9,od9, .func (fnS "is_whole" "is_whole" s_09 .none kV9 dc9 pm9 an9 cd9 ct9),sl9⟩)
  (hc9:codeIn K cd9 "is_whole"=true)
  (hk9:keepIn K (.ref f9)=true)
  (ha10:nsIn K mainGlobals "is_whole_between"=some (some (.ref f10)))
  (hl10:K.lookup f10=some ⟨oc10,od10, .func (fnS "is_whole_between" "is_whole_between" s_0a .none kV10 dc10 pm10 an10 cd10 ct10),sl10⟩)
  (hc10:codeIn K cd10 "is_whole_between"=true)
  (hk10:keepIn K (.ref f10)=true)
  (ha11:nsIn K mainGlobals "end_of_account"=some (some (.ref f11)))
  (hl11:K.lookup f11=some ⟨oc11,od11, .func (fnS "end_of_account" "end_of_account" s_0b .none kV11 dc11 pm11 an11 cd11 ct11),sl11⟩)
  (hc11:codeIn K cd11 "end_of_account"=true)
  (hk11:keepIn K (.ref f11)=true)
  (ha12:nsIn K mainGlobals "is_day_of"=some (some (.ref f12)))
  (hl12:K.lookup f12=some ⟨oc12,od12, .func (fnS "is_day_of" "is_day_of" s_0c .none kV12 dc12 pm12 an12 cd12 ct12),sl12⟩)
  (hc12:codeIn K cd12 "is_day_of"=true)
  (hk12:keepIn K (.ref f12)=true)
  (ha13:nsIn K mainGlobals "span_days"=some (some (.ref f13)))
  (hl13:K.lookup f13=some ⟨oc13,od13, .func (fnS "span_days" "span_days" s_0d .none kV13 dc13 pm13 an13 cd13 ct13),sl13⟩)
  (hc13:codeIn K cd13 "span_days"=true)
  (hk13:keepIn K (.ref f13)=true)
  (ha14:nsIn K mainGlobals "span_with"=some (some (.ref f14)))
  (hl14:K.lookup f14=some ⟨oc14,od14, .func (fnS "span_with" "span_with" s_0e .none kV14 dc14 pm14 an14 cd14 ct14),sl14⟩)
  (hc14:codeIn K cd14 "span_with"=true)
  (hk14:keepIn K (.ref f14)=true)
  (ha15:nsIn K mainGlobals "share"=some (some (.ref f15)))
  (hl15:K.lookup f15=some ⟨oc15,od15, .func (fnS "share" "share" s_0f .none kV15 dc15 pm15 an15 cd15 ct15),sl15⟩)
  (hc15:codeIn K cd15 "share"=true)
  (hk15:keepIn K (.ref f15)=true)
  (ha16:nsIn K mainGlobals "counts_from"=some (some (.ref f16)))
  (hl16:K.lookup f16=some ⟨oc16,od16, .func (fnS "counts_from" "counts_from" s_0g .none kV16 dc16 pm16 an16 cd16 ct16),sl16⟩)
  (hc16:codeIn K cd16 "counts_from"=true)
  (hk16:keepIn K (.ref f16)=true)
  (ha17:nsIn K mainGlobals "in_order"=some (some (.ref f17)))
  (hl17:K.lookup f17=some ⟨oc17,od17, .func (fnS "in_order" "in_order" s_0h .none kV17 dc17 pm17 an17 cd17 ct17),sl17⟩)
  (hc17:codeIn K cd17 "in_order"=true)
  (hk17:keepIn K (.ref f17)=true)
  (ha18:nsIn K mainGlobals "state_by"=some (some (.ref f18)))
  (hl18:K.lookup f18=some ⟨oc18,od18, .func (fnS "state_by" "state_by" s_0i .none kV18 dc18 pm18 an18 cd18 ct18),sl18⟩)
  (hc18:codeIn K cd18 "state_by"=true)
  (hk18:keepIn K (.ref f18)=true)
  (ha19:nsIn K mainGlobals "state_on"=some (some (.ref f19)))
  (hl19:K.lookup f19=some ⟨oc19,od19, .func (fnS "state_on" "state_on" s_0j .none kV19 dc19 pm19 an19 cd19 ct19),sl19⟩)
  (hc19:codeIn K cd19 "state_on"=true)
  (hk19:keepIn K (.ref f19)=true)
  (ha20:nsIn K mainGlobals "stretches_by"=some (some (.ref f20)))
  (hl20:K.lookup f20=some ⟨oc20,od20, .func (fnS "stretches_by" "stretches_by" s_0k .none kV20 dc20 pm20 an20 cd20 ct20),sl20⟩)
  (hc20:codeIn K cd20 "stretches_by"=true)
  (hk20:keepIn K (.ref f20)=true)
  (ha21:nsIn K mainGlobals "price_and_count"=some (some (.ref f21)))
  (hl21:K.lookup f21=some ⟨oc21,od21, .func (fnS "price_and_count" "price_and_count" s_0l .none kV21 dc21 pm21 an21 cd21 ct21),sl21⟩)
  (hc21:codeIn K cd21 "price_and_count"=true)
  (hk21:keepIn K (.ref f21)=true)
  (ha22:nsIn K mainGlobals "stretch_cost"=some (some (.ref f22)))
  (hl22:K.lookup f22=some ⟨oc22,od22, .func (fnS "stretch_cost" "stretch_cost" s_0m .none kV22 dc22 pm22 an22 cd22 ct22),sl22⟩)
  (hc22:codeIn K cd22 "stretch_cost"=true)
  (hk22:keepIn K (.ref f22)=true)
  (ha23:nsIn K mainGlobals "day_cost"=some (some (.ref f23)))
  (hl23:K.lookup f23=some ⟨oc23,od23, .func (fnS "day_cost" "day_cost" s_0n .none kV23 dc23 pm23 an23 cd23 ct23),sl23⟩)
  (hc23:codeIn K cd23 "day_cost"=true)
  (hk23:keepIn K (.ref f23)=true)
  (ha24:nsIn K mainGlobals "lines_ahead"=some (some (.ref f24)))
  (hl24:K.lookup f24=some ⟨oc24,od24, .func (fnS "lines_ahead" "lines_ahead" s_0o .none kV24 dc24 pm24 an24 cd24 ct24),sl24⟩)
  (hc24:codeIn K cd24 "lines_ahead"=true)
  (hk24:keepIn K (.ref f24)=true)
  (ha25:nsIn K mainGlobals "cost_of"=some (some (.ref f25)))
  (hl25:K.lookup f25=some ⟨oc25,od25, .func (fnS "cost_of" "cost_of" s_0p .none kV25 dc25 pm25 an25 cd25 ct25),sl25⟩)
  (hc25:codeIn K cd25 "cost_of"=true)
  (hk25:keepIn K (.ref f25)=true)
  (ha26:nsIn K mainGlobals "span_lines"=some (some (.ref f26)))
  (hl26:K.lookup f26=some ⟨oc26,od26, .func (fnS "span_lines" "span_lines" s_0q .none kV26 dc26 pm26 an26 cd26 ct26),sl26⟩)
  (hc26:codeIn K cd26 "span_lines"=true)
  (hk26:keepIn K (.ref f26)=true)
  (ha27:nsIn K mainGlobals "span_cost"=some (some (.ref f27)))
  (hl27:K.lookup f27=some ⟨oc27,od27, .func (fnS "span_cost" "span_cost" s_0r .none kV27 dc27 pm27 an27 cd27 ct27),sl27⟩)
  (hc27:codeIn K cd27 "span_cost"=true)
  (hk27:keepIn K (.ref f27)=true)
  (ha28:nsIn K mainGlobals "earned"=some (some (.ref f28)))
  (hl28:K.lookup f28=some ⟨oc28,od28, .func (fnS "earned" "earned" s_0s .none kV28 dc28 pm28 an28 cd28 ct28),sl28⟩)
  (hc28:codeIn K cd28 "earned"=true)
  (hk28:keepIn K (.ref f28)=true)
  (ha29:nsIn K mainGlobals "is_term"=some (some (.ref f29)))
  (hl29:K.lookup f29=some ⟨oc29,od29, .func (fnS "is_term" "is_term" s_0t .none kV29 dc29 pm29 an29 cd29 ct29),sl29⟩)
  (hc29:codeIn K cd29 "is_term"=true)
  (hk29:keepIn K (.ref f29)=true)
  (ha30:nsIn K mainGlobals "names_of"=some (some (.ref f30)))
  (hl30:K.lookup f30=some ⟨oc30,od30, .func (fnS "names_of" "names_of" s_0u .none kV30 dc30 pm30 an30 cd30 ct30),sl30⟩)
  (hc30:codeIn K cd30 "names_of"=true)
  (hk30:keepIn K (.ref f30)=true)
  (ha31:nsIn K mainGlobals "fits_term"=some (some (.ref f31)))
  (hl31:K.lookup f31=some ⟨oc31,od31, .func (fnS "fits_term" "fits_term" s_0v .none kV31 dc31 pm31 an31 cd31 ct31),sl31⟩)
  (hc31:codeIn K cd31 "fits_term"=true)
  (hk31:keepIn K (.ref f31)=true)
  (ha32:nsIn K mainGlobals "fits_grant"=some (some (.ref f32)))
  (hl32:K.lookup f32=some ⟨oc32,od32, .func (fnS "fits_grant" "fits_grant" s_0w .none kV32 dc32 pm32 an32 cd32 ct32),sl32⟩)
  (hc32:codeIn K cd32 "fits_grant"=true)
  (hk32:keepIn K (.ref f32)=true)
  (ha33:nsIn K mainGlobals "fits_undo"=some (some (.ref f33)))
  (hl33:K.lookup f33=some ⟨oc33,od33, .func (fnS "fits_undo" "fits_undo" s_0x .none kV33 dc33 pm33 an33 cd33 ct33),sl33⟩)
  (hc33:codeIn K cd33 "fits_undo"=true)
  (hk33:keepIn K (.ref f33)=true)
  (ha34:nsIn K mainGlobals "fits"=some (some (.ref f34)))
  (hl34:K.lookup f34=some ⟨oc34,od34, .func (fnS "fits" "fits" s_0y .none kV34 dc34 pm34 an34 cd34 ct34),sl34⟩)
  (hc34:codeIn K cd34 "fits"=true)
  (hk34:keepIn K (.ref f34)=true)
  (ha35:nsIn K mainGlobals "standing_terms"=some (some (.ref f35)))
  (hl35:K.lookup f35=some ⟨oc35,od35, .func (fnS "standing_terms" "standing_terms" s_0z .none kV35 dc35 pm35 an35 cd35 ct35),sl35⟩)
  (hc35:codeIn K cd35 "standing_terms"=true)
  (hk35:keepIn K (.ref f35)=true)
  (ha36:nsIn K mainGlobals "check_entries"=some (some (.ref f36)))
  (hl36:K.lookup f36=some ⟨oc36,od36, .func (fnS "check_entries" "check_entries" s_10 .none kV36 dc36 pm36 an36 cd36 ct36),sl36⟩)
  (hc36:codeIn K cd36 "check_entries"=true)
  (hk36:keepIn K (.ref f36)=true)
  (ha37:nsIn K mainGlobals "terms_at"=some (some (.ref f37)))
  (hl37:K.lookup f37=some ⟨oc37,od37, .func (fnS "terms_at" "terms_at" s_11 .none kV37 dc37 pm37 an37 cd37 ct37),sl37⟩)
  (hc37:codeIn K cd37 "terms_at"=true)
  (hk37:keepIn K (.ref f37)=true)
  (ha38:nsIn K mainGlobals "in_time"=some (some (.ref f38)))
  (hl38:K.lookup f38=some ⟨oc38,od38, .func (fnS "in_time" "in_time" s_12 .none kV38 dc38 pm38 an38 cd38 ct38),sl38⟩)
  (hc38:codeIn K cd38 "in_time"=true)
  (hk38:keepIn K (.ref f38)=true)
  (qc38:cd38= .ref cK38)
  (ql38:K.lookup cK38=some ⟨.type "code",oK38, .fields vK38,sK38⟩)
  (qa38:vK38[11]? =some (.ref pK38))
  (qb38:vK38.getD 11 .none= .ref pK38)
  (qd38:vK38.getD 18 .none= .str fK38 uK38)
  (qe38:vK38.getD 7 .none= .int lK38 gK38)
  (qf38:vK38.getD 9 .none= .bool bK38)
  (qg38:vK38.getD 10 .none= .int xK38 tK38)
  (qh38:cK38≠pK38)
  (qi38:K.lookup pK38=none)
  (ha39:nsIn K mainGlobals "_law_cell_at"=some (some (.ref f39)))
  (hl39:K.lookup f39=some ⟨oc39,od39, .func (fnS "_law_cell_at" "_law_cell_at" s_13 .none kV39 dc39 pm39 an39 cd39 ct39),sl39⟩)
  (hc39:codeIn K cd39 "_law_cell_at"=true)
  (hk39:keepIn K (.ref f39)=true)
  (ha40:nsIn K mainGlobals "_law_mixed"=some (some (.ref f40)))
  (hl40:K.lookup f40=some ⟨oc40,od40, .func (fnS "_law_mixed" "_law_mixed" s_14 .none kV40 dc40 pm40 an40 cd40 ct40),sl40⟩)
  (hc40:codeIn K cd40 "_law_mixed"=true)
  (hk40:keepIn K (.ref f40)=true)
  (ha41:nsIn K mainGlobals "_law_plan_names"=some (some (.ref f41)))
  (hl41:K.lookup f41=some ⟨oc41,od41, .func (fnS "_law_plan_names" "_law_plan_names" s_15 .none kV41 dc41 pm41 an41 cd41 ct41),sl41⟩)
  (hc41:codeIn K cd41 "_law_plan_names"=true)
  (hk41:keepIn K (.ref f41)=true)
  (ha42:nsIn K mainGlobals "_law_account"=some (some (.ref f42)))
  (hl42:K.lookup f42=some ⟨oc42,od42, .func (fnS "_law_account" "_law_account" s_16 .none kV42 dc42 pm42 an42 cd42 ct42),sl42⟩)
  (hc42:codeIn K cd42 "_law_account"=true)
  (hk42:keepIn K (.ref f42)=true)
  (ha43:nsIn K mainGlobals "_law_change"=some (some (.ref f43)))
  (hl43:K.lookup f43=some ⟨oc43,od43, .func (fnS "_law_change" "_law_change" s_17 .none kV43 dc43 pm43 an43 cd43 ct43),sl43⟩)
  (hc43:codeIn K cd43 "_law_change"=true)
  (hk43:keepIn K (.ref f43)=true)
  (ha44:nsIn K mainGlobals "_law_entries"=some (some (.ref f44)))
  (hl44:K.lookup f44=some ⟨oc44,od44, .func (fnS "_law_entries" "_law_entries" s_18 .none kV44 dc44 pm44 an44 cd44 ct44),sl44⟩)
  (hc44:codeIn K cd44 "_law_entries"=true)
  (hk44:keepIn K (.ref f44)=true)
  (ha45:nsIn K mainGlobals "_law_known"=some (some (.ref f45)))
  (hl45:K.lookup f45=some ⟨oc45,od45, .func (fnS "_law_known" "_law_known" s_19 .none kV45 dc45 pm45 an45 cd45 ct45),sl45⟩)
  (hc45:codeIn K cd45 "_law_known"=true)
  (hk45:keepIn K (.ref f45)=true)
  (ha46:nsIn K mainGlobals "_law_state"=some (some (.ref f46)))
  (hl46:K.lookup f46=some ⟨oc46,od46, .func (fnS "_law_state" "_law_state" s_1a .none kV46 dc46 pm46 an46 cd46 ct46),sl46⟩)
  (hc46:codeIn K cd46 "_law_state"=true)
  (hk46:keepIn K (.ref f46)=true)
  (ha47:nsIn K mainGlobals "_law_day"=some (some (.ref f47)))
  (hl47:K.lookup f47=some ⟨oc47,od47, .func (fnS "_law_day" "_law_day" s_1b .none kV47 dc47 pm47 an47 cd47 ct47),sl47⟩)
  (hc47:codeIn K cd47 "_law_day"=true)
  (hk47:keepIn K (.ref f47)=true)
  (ha48:nsIn K mainGlobals "_law_between"=some (some (.ref f48)))
  (hl48:K.lookup f48=some ⟨oc48,od48, .func (fnS "_law_between" "_law_between" s_1c .none kV48 dc48 pm48 an48 cd48 ct48),sl48⟩)
  (hc48:codeIn K cd48 "_law_between"=true)
  (hk48:keepIn K (.ref f48)=true)
  (qc48:cd48= .ref cK48)
  (ql48:K.lookup cK48=some ⟨.type "code",oK48, .fields vK48,sK48⟩)
  (qa48:vK48[11]? =some (.ref pK48))
  (qb48:vK48.getD 11 .none= .ref pK48)
  (qd48:vK48.getD 18 .none= .str fK48 uK48)
  (qe48:vK48.getD 7 .none= .int lK48 gK48)
  (qf48:vK48.getD 9 .none= .bool bK48)
  (qg48:vK48.getD 10 .none= .int xK48 tK48)
  (qh48:cK48≠pK48)
  (qi48:K.lookup pK48=none)
  (ha49:nsIn K mainGlobals "_law_last"=some (some (.ref f49)))
  (hl49:K.lookup f49=some ⟨oc49,od49, .func (fnS "_law_last" "_law_last" s_1d .none kV49 dc49 pm49 an49 cd49 ct49),sl49⟩)
  (hc49:codeIn K cd49 "_law_last"=true)
  (hk49:keepIn K (.ref f49)=true)
  (ha50:nsIn K mainGlobals "_law_told"=some (some (.ref f50)))
  (hl50:K.lookup f50=some ⟨oc50,od50, .func (fnS "_law_told" "_law_told" s_1e .none kV50 dc50 pm50 an50 cd50 ct50),sl50⟩)
  (hc50:codeIn K cd50 "_law_told"=true)
  (hk50:keepIn K (.ref f50)=true)
  (ha51:nsIn K mainGlobals "law"=some (some (.ref f51)))
  (hl51:K.lookup f51=some ⟨oc51,od51, .func (fnS "law" "law" s_1f .none kV51 dc51 pm51 an51 cd51 ct51),sl51⟩)
  (hc51:codeIn K cd51 "law"=true)
  (hk51:keepIn K (.ref f51)=true)
  (g_Z0c:nsIn K mainGlobals "SpanError"=some (some (.ref C_Z0c)))
  (gc_Z0c:clsIn K C_Z0c=some cd_Z0c)
  (gt_Z0c:typeIn K (.ref C_Z0c)=some (.type "type"))
  (gm_Z0c:mroIn K C_Z0c (.ref C_Z0c)=some true)
  (g_Z07:nsIn K mainGlobals "NoDate"=some (some (.ref C_Z07)))
  (gc_Z07:clsIn K C_Z07=some cd_Z07)
  (gt_Z07:typeIn K (.ref C_Z07)=some (.type "type"))
  (gm_Z07:mroIn K C_Z07 (.ref C_Z07)=some true)
  (g_Z09:nsIn K mainGlobals "NoSpan"=some (some (.ref C_Z09)))
  (gc_Z09:clsIn K C_Z09=some cd_Z09)
  (gt_Z09:typeIn K (.ref C_Z09)=some (.type "type"))
  (gm_Z09:mroIn K C_Z09 (.ref C_Z09)=some true)
  (g_Z0e:nsIn K mainGlobals "TooLong"=some (some (.ref C_Z0e)))
  (gc_Z0e:clsIn K C_Z0e=some cd_Z0e)
  (gt_Z0e:typeIn K (.ref C_Z0e)=some (.type "type"))
  (gm_Z0e:mroIn K C_Z0e (.ref C_Z0e)=some true)
  (g_Z08:nsIn K mainGlobals "NoEntry"=some (some (.ref C_Z08)))
  (gc_Z08:clsIn K C_Z08=some cd_Z08)
  (gt_Z08:typeIn K (.ref C_Z08)=some (.type "type"))
  (gm_Z08:mroIn K C_Z08 (.ref C_Z08)=some true)
  (gx_Z07:excIn K C_Z07 [.type "ValueError", .type "Exception", .type "BaseException", .type "object"] "ValueError.__new__"=true)
  (gx_Z09:excIn K C_Z09 [.type "ValueError", .type "Exception", .type "BaseException", .type "object"] "ValueError.__new__"=true)
  (gx_Z0e:excIn K C_Z0e [.type "ValueError", .type "Exception", .type "BaseException", .type "object"] "ValueError.__new__"=true)
  (k_Z03:nsIn K mainGlobals "LAST_YEAR"=some (some (.int 9999 tk_Z03)))
  (k_Z02:nsIn K mainGlobals "LAST_DAY"=some (some (.int 3652058 tk_Z02)))
  (k_Z04:nsIn K mainGlobals "MONTH_DAYS"=some (some (.ref A_Z04)))
  (kl_Z04:K.lookup A_Z04=some ⟨.type "tuple",od_Z04, .seq its_Z04 n_Z04,sl_Z04⟩)
  (kz_Z04:its_Z04.size≤sizeLine)
  (kv_Z04:zaP [.int 31, .int 28, .int 31, .int 30, .int 31, .int 30, .int 31, .int 31, .int 30, .int 31, .int 30, .int 31] its_Z04.toList)
  (k_Z0a:nsIn K mainGlobals "ROUND_DAYS"=some (some (.int 146097 tk_Z0a)))
  (k_Z01:nsIn K mainGlobals "HUNDRED_YEARS_DAYS"=some (some (.int 36524 tk_Z01)))
  (k_Z00:nsIn K mainGlobals "FOUR_YEARS_DAYS"=some (some (.int 1461 tk_Z00)))
  (k_Z0g:nsIn K mainGlobals "YEAR_DAYS"=some (some (.int 365 tk_Z0g)))
  (k_Z0b:nsIn K mainGlobals "SPANS"=some (some (.int 60 tk_Z0b)))
  (k_Z0f:nsIn K mainGlobals "WORDS"=some (some (.ref A_Z0f)))
  (kl_Z0f:K.lookup A_Z0f=some ⟨.type "dict",none, .dict es_Z0f n_Z0f, #[]⟩)
  (kv_Z0f:zkq w es_Z0f.toList [(SL [104,111,108,100], .str (SL [104,101,108,100])),(SL [103,111], .str (SL [111,110])),(SL [115,116,111,112], .str (SL [111,102,102])),(SL [108,97,115,116], .str (SL [111,102,102]))])
  (k_Z05:nsIn K mainGlobals "MOST_ENTRIES"=some (some (.int 40 tk_Z05)))
  (k_Z06:nsIn K mainGlobals "MOST_SEATS"=some (some (.int 1000000 tk_Z06)))
  (k_Z0d:nsIn K mainGlobals "TERMS"=some (some (.ref A_Z0d)))
  (kl_Z0d:K.lookup A_Z0d=some ⟨.type "tuple",od_Z0d, .seq its_Z0d n_Z0d,sl_Z0d⟩)
  (kz_Z0d:its_Z0d.size≤sizeLine)
  (kv_Z0d:zaP [.str (SL [112,108,97,110]), .str (SL [115,101,97,116,115]), .str (SL [104,111,108,100]), .str (SL [103,111]), .str (SL [115,116,111,112]), .str (SL [108,97,115,116])] its_Z0d.toList)
  (qn: [pK38,pK48].Nodup)
  (z_range:nsIn K mainGlobals "range"=some none)
  (z_divmod:nsIn K mainGlobals "divmod"=some none)
  (z_min:nsIn K mainGlobals "min"=some none)
  (z_isinstance:nsIn K mainGlobals "isinstance"=some none)
  (z_int:nsIn K mainGlobals "int"=some none)
  (z_bool:nsIn K mainGlobals "bool"=some none)
  (z_sorted:nsIn K mainGlobals "sorted"=some none)
  (z_sum:nsIn K mainGlobals "sum"=some none)
  (z_len:nsIn K mainGlobals "len"=some none)
  (z_enumerate:nsIn K mainGlobals "enumerate"=some none)
  (z_list:nsIn K mainGlobals "list"=some none)
  (z_abs:nsIn K mainGlobals "abs"=some none)
  (z_max:nsIn K mainGlobals "max"=some none)
  : ∃t,Txt w K mg t:=
 ⟨{a_00:=f0,d_00:=fnS "has_leap_day" "has_leap_day" s_00 .none kV0 dc0 pm0 an0 cd0 ct0,
   a_01:=f1,d_01:=fnS "days_in" "days_in" s_01 .none kV1 dc1 pm1 an1 cd1 ct1,
   a_02:=f2,d_02:=fnS "days_ahead_of_year" "days_ahead_of_year" s_02 .none kV2 dc2 pm2 an2 cd2 ct2,
   a_03:=f3,d_03:=fnS "day_of" "day_of" s_03 .none kV3 dc3 pm3 an3 cd3 ct3,
   a_04:=f4,d_04:=fnS "year_of" "year_of" s_04 .none kV4 dc4 pm4 an4 cd4 ct4,
   a_05:=f5,d_05:=fnS "date_of" "date_of" s_05 .none kV5 dc5 pm5 an5 cd5 ct5,
   a_06:=f6,d_06:=fnS "months_on" "months_on" s_06 .none kV6 dc6 pm6 an6 cd6 ct6,
   a_07:=f7,d_07:=fnS "begin_of" "begin_of" s_07 .none kV7 dc7 pm7 an7 cd7 ct7,
   a_08:=f8,d_08:=fnS "span_on" "span_on" s_08 .none kV8 dc8 pm8 an8 cd8 ct8,
   a_09:=f9,d_09:=fnS "is_whole" "is_whole" s_09 .none kV9 dc9 pm9 an9 cd9 ct9,
   a_0a:=f10,d_0a:=fnS "is_whole_between" "is_whole_between" s_0a .none kV10 dc10 pm10 an10 cd10 ct10,
   a_0b:=f11,d_0b:=fnS "end_of_account" "end_of_account" s_0b .none kV11 dc11 pm11 an11 cd11 ct11,
   a_0c:=f12,d_0c:=fnS "is_day_of" "is_day_of" s_0c .none kV12 dc12 pm12 an12 cd12 ct12,
   a_0d:=f13,d_0d:=fnS "span_days" "span_days" s_0d .none kV13 dc13 pm13 an13 cd13 ct13,
   a_0e:=f14,d_0e:=fnS "span_with" "span_with" s_0e .none kV14 dc14 pm14 an14 cd14 ct14,
   a_0f:=f15,d_0f:=fnS "share" "share" s_0f .none kV15 dc15 pm15 an15 cd15 ct15,
   a_0g:=f16,d_0g:=fnS "counts_from" "counts_from" s_0g .none kV16 dc16 pm16 an16 cd16 ct16,
   a_0h:=f17,d_0h:=fnS "in_order" "in_order" s_0h .none kV17 dc17 pm17 an17 cd17 ct17,
   a_0i:=f18,d_0i:=fnS "state_by" "state_by" s_0i .none kV18 dc18 pm18 an18 cd18 ct18,
   a_0j:=f19,d_0j:=fnS "state_on" "state_on" s_0j .none kV19 dc19 pm19 an19 cd19 ct19,
   a_0k:=f20,d_0k:=fnS "stretches_by" "stretches_by" s_0k .none kV20 dc20 pm20 an20 cd20 ct20,
   a_0l:=f21,d_0l:=fnS "price_and_count" "price_and_count" s_0l .none kV21 dc21 pm21 an21 cd21 ct21,
   a_0m:=f22,d_0m:=fnS "stretch_cost" "stretch_cost" s_0m .none kV22 dc22 pm22 an22 cd22 ct22,
   a_0n:=f23,d_0n:=fnS "day_cost" "day_cost" s_0n .none kV23 dc23 pm23 an23 cd23 ct23,
   a_0o:=f24,d_0o:=fnS "lines_ahead" "lines_ahead" s_0o .none kV24 dc24 pm24 an24 cd24 ct24,
   a_0p:=f25,d_0p:=fnS "cost_of" "cost_of" s_0p .none kV25 dc25 pm25 an25 cd25 ct25,
   a_0q:=f26,d_0q:=fnS "span_lines" "span_lines" s_0q .none kV26 dc26 pm26 an26 cd26 ct26,
   a_0r:=f27,d_0r:=fnS "span_cost" "span_cost" s_0r .none kV27 dc27 pm27 an27 cd27 ct27,
   a_0s:=f28,d_0s:=fnS "earned" "earned" s_0s .none kV28 dc28 pm28 an28 cd28 ct28,
   a_0t:=f29,d_0t:=fnS "is_term" "is_term" s_0t .none kV29 dc29 pm29 an29 cd29 ct29,
   a_0u:=f30,d_0u:=fnS "names_of" "names_of" s_0u .none kV30 dc30 pm30 an30 cd30 ct30,
   a_0v:=f31,d_0v:=fnS "fits_term" "fits_term" s_0v .none kV31 dc31 pm31 an31 cd31 ct31,
   a_0w:=f32,d_0w:=fnS "fits_grant" "fits_grant" s_0w .none kV32 dc32 pm32 an32 cd32 ct32,
   a_0x:=f33,d_0x:=fnS "fits_undo" "fits_undo" s_0x .none kV33 dc33 pm33 an33 cd33 ct33,
   a_0y:=f34,d_0y:=fnS "fits" "fits" s_0y .none kV34 dc34 pm34 an34 cd34 ct34,
   a_0z:=f35,d_0z:=fnS "standing_terms" "standing_terms" s_0z .none kV35 dc35 pm35 an35 cd35 ct35,
   a_10:=f36,d_10:=fnS "check_entries" "check_entries" s_10 .none kV36 dc36 pm36 an36 cd36 ct36,
   a_11:=f37,d_11:=fnS "terms_at" "terms_at" s_11 .none kV37 dc37 pm37 an37 cd37 ct37,
   a_12:=f38,d_12:=fnS "in_time" "in_time" s_12 .none kV38 dc38 pm38 an38 cd38 ct38,
   k_12:=cK38,p_12:=pK38,
   a_13:=f39,d_13:=fnS "_law_cell_at" "_law_cell_at" s_13 .none kV39 dc39 pm39 an39 cd39 ct39,
   a_14:=f40,d_14:=fnS "_law_mixed" "_law_mixed" s_14 .none kV40 dc40 pm40 an40 cd40 ct40,
   a_15:=f41,d_15:=fnS "_law_plan_names" "_law_plan_names" s_15 .none kV41 dc41 pm41 an41 cd41 ct41,
   a_16:=f42,d_16:=fnS "_law_account" "_law_account" s_16 .none kV42 dc42 pm42 an42 cd42 ct42,
   a_17:=f43,d_17:=fnS "_law_change" "_law_change" s_17 .none kV43 dc43 pm43 an43 cd43 ct43,
   a_18:=f44,d_18:=fnS "_law_entries" "_law_entries" s_18 .none kV44 dc44 pm44 an44 cd44 ct44,
   a_19:=f45,d_19:=fnS "_law_known" "_law_known" s_19 .none kV45 dc45 pm45 an45 cd45 ct45,
   a_1a:=f46,d_1a:=fnS "_law_state" "_law_state" s_1a .none kV46 dc46 pm46 an46 cd46 ct46,
   a_1b:=f47,d_1b:=fnS "_law_day" "_law_day" s_1b .none kV47 dc47 pm47 an47 cd47 ct47,
   a_1c:=f48,d_1c:=fnS "_law_between" "_law_between" s_1c .none kV48 dc48 pm48 an48 cd48 ct48,
   k_1c:=cK48,p_1c:=pK48,
   a_1d:=f49,d_1d:=fnS "_law_last" "_law_last" s_1d .none kV49 dc49 pm49 an49 cd49 ct49,
   a_1e:=f50,d_1e:=fnS "_law_told" "_law_told" s_1e .none kV50 dc50 pm50 an50 cd50 ct50,
   a_1f:=f51,d_1f:=fnS "law" "law" s_1f .none kV51 dc51 pm51 an51 cd51 ct51,
   c_Z0c:=C_Z0c,
   c_Z07:=C_Z07,
   c_Z09:=C_Z09,
   c_Z0e:=C_Z0e,
   c_Z08:=C_Z08},
  {mg_00:=mg_of X G ha0,
   fn_00:=zam (st:=s_00) hl0 hc0 hk0,
   b_00:=(zam (st:=s_00) hl0 hc0 hk0).binds fun _ _ _ _ _ _=>zd3 fun _=>rfl,
   mg_01:=mg_of X G ha1,
   fn_01:=zam (st:=s_01) hl1 hc1 hk1,
   b_01:=(zam (st:=s_01) hl1 hc1 hk1).binds fun _ _ _ _ _ _=>zdx fun _ _=>rfl,
   mg_02:=mg_of X G ha2,
   fn_02:=zam (st:=s_02) hl2 hc2 hk2,
   b_02:=(zam (st:=s_02) hl2 hc2 hk2).binds fun _ _ _ _ _ _=>zd3 fun _=>rfl,
   mg_03:=mg_of X G ha3,
   fn_03:=zam (st:=s_03) hl3 hc3 hk3,
   b_03:=(zam (st:=s_03) hl3 hc3 hk3).binds fun _ _ _ _ _ _=>zdR fun _ _ _=>rfl,
   mg_04:=mg_of X G ha4,
   fn_04:=zam (st:=s_04) hl4 hc4 hk4,
   b_04:=(zam (st:=s_04) hl4 hc4 hk4).binds fun _ _ _ _ _ _=>zd3 fun _=>rfl,
   mg_05:=mg_of X G ha5,
   fn_05:=zam (st:=s_05) hl5 hc5 hk5,
   b_05:=(zam (st:=s_05) hl5 hc5 hk5).binds fun _ _ _ _ _ _=>zd3 fun _=>rfl,
   mg_06:=mg_of X G ha6,
   fn_06:=zam (st:=s_06) hl6 hc6 hk6,
   b_06:=(zam (st:=s_06) hl6 hc6 hk6).binds fun _ _ _ _ _ _=>zdx fun _ _=>rfl,
   mg_07:=mg_of X G ha7,
   fn_07:=zam (st:=s_07) hl7 hc7 hk7,
   b_07:=(zam (st:=s_07) hl7 hc7 hk7).binds fun _ _ _ _ _ _=>zdR fun _ _ _=>rfl,
   mg_08:=mg_of X G ha8,
   fn_08:=zam (st:=s_08) hl8 hc8 hk8,
   b_08:=(zam (st:=s_08) hl8 hc8 hk8).binds fun _ _ _ _ _ _=>zdR fun _ _ _=>rfl,
   mg_09:=mg_of X G ha9,
   fn_09:=zam (st:=s_09) hl9 hc9 hk9,
   b_09:=(zam (st:=s_09) hl9 hc9 hk9).binds fun _ _ _ _ _ _=>zd3 fun _=>rfl,
   mg_0a:=mg_of X G ha10,
   fn_0a:=zam (st:=s_0a) hl10 hc10 hk10,
   b_0a:=(zam (st:=s_0a) hl10 hc10 hk10).binds fun _ _ _ _ _ _=>zdR fun _ _ _=>rfl,
   mg_0b:=mg_of X G ha11,
   fn_0b:=zam (st:=s_0b) hl11 hc11 hk11,
   b_0b:=(zam (st:=s_0b) hl11 hc11 hk11).binds fun _ _ _ _ _ _=>zd3 fun _=>rfl,
   mg_0c:=mg_of X G ha12,
   fn_0c:=zam (st:=s_0c) hl12 hc12 hk12,
   b_0c:=(zam (st:=s_0c) hl12 hc12 hk12).binds fun _ _ _ _ _ _=>zdx fun _ _=>rfl,
   mg_0d:=mg_of X G ha13,
   fn_0d:=zam (st:=s_0d) hl13 hc13 hk13,
   b_0d:=(zam (st:=s_0d) hl13 hc13 hk13).binds fun _ _ _ _ _ _=>zdx fun _ _=>rfl,
   mg_0e:=mg_of X G ha14,
   fn_0e:=zam (st:=s_0e) hl14 hc14 hk14,
   b_0e:=(zam (st:=s_0e) hl14 hc14 hk14).binds fun _ _ _ _ _ _=>zdx fun _ _=>rfl,
   mg_0f:=mg_of X G ha15,
   fn_0f:=zam (st:=s_0f) hl15 hc15 hk15,
   b_0f:=(zam (st:=s_0f) hl15 hc15 hk15).binds fun _ _ _ _ _ _=>zlJ fun _ _ _ _=>rfl,
   mg_0g:=mg_of X G ha16,
   fn_0g:=zam (st:=s_0g) hl16 hc16 hk16,
   b_0g:=(zam (st:=s_0g) hl16 hc16 hk16).binds fun _ _ _ _ _ _=>zdx fun _ _=>rfl,
   mg_0h:=mg_of X G ha17,
   fn_0h:=zam (st:=s_0h) hl17 hc17 hk17,
   b_0h:=(zam (st:=s_0h) hl17 hc17 hk17).binds fun _ _ _ _ _ _=>zdx fun _ _=>rfl,
   mg_0i:=mg_of X G ha18,
   fn_0i:=zam (st:=s_0i) hl18 hc18 hk18,
   b_0i:=(zam (st:=s_0i) hl18 hc18 hk18).binds fun _ _ _ _ _ _=>zdx fun _ _=>rfl,
   mg_0j:=mg_of X G ha19,
   fn_0j:=zam (st:=s_0j) hl19 hc19 hk19,
   b_0j:=(zam (st:=s_0j) hl19 hc19 hk19).binds fun _ _ _ _ _ _=>zdR fun _ _ _=>rfl,
   mg_0k:=mg_of X G ha20,
   fn_0k:=zam (st:=s_0k) hl20 hc20 hk20,
   b_0k:=(zam (st:=s_0k) hl20 hc20 hk20).binds fun _ _ _ _ _ _=>zdR fun _ _ _=>rfl,
   mg_0l:=mg_of X G ha21,
   fn_0l:=zam (st:=s_0l) hl21 hc21 hk21,
   b_0l:=(zam (st:=s_0l) hl21 hc21 hk21).binds fun _ _ _ _ _ _=>zdx fun _ _=>rfl,
   mg_0m:=mg_of X G ha22,
   fn_0m:=zam (st:=s_0m) hl22 hc22 hk22,
   b_0m:=(zam (st:=s_0m) hl22 hc22 hk22).binds fun _ _ _ _ _ _=>zdR fun _ _ _=>rfl,
   mg_0n:=mg_of X G ha23,
   fn_0n:=zam (st:=s_0n) hl23 hc23 hk23,
   b_0n:=(zam (st:=s_0n) hl23 hc23 hk23).binds fun _ _ _ _ _ _=>zdR fun _ _ _=>rfl,
   mg_0o:=mg_of X G ha24,
   fn_0o:=zam (st:=s_0o) hl24 hc24 hk24,
   b_0o:=(zam (st:=s_0o) hl24 hc24 hk24).binds fun _ _ _ _ _ _=>zlJ fun _ _ _ _=>rfl,
   mg_0p:=mg_of X G ha25,
   fn_0p:=zam (st:=s_0p) hl25 hc25 hk25,
   b_0p:=(zam (st:=s_0p) hl25 hc25 hk25).binds fun _ _ _ _ _ _=>zd3 fun _=>rfl,
   mg_0q:=mg_of X G ha26,
   fn_0q:=zam (st:=s_0q) hl26 hc26 hk26,
   b_0q:=(zam (st:=s_0q) hl26 hc26 hk26).binds fun _ _ _ _ _ _=>zdR fun _ _ _=>rfl,
   mg_0r:=mg_of X G ha27,
   fn_0r:=zam (st:=s_0r) hl27 hc27 hk27,
   b_0r:=(zam (st:=s_0r) hl27 hc27 hk27).binds fun _ _ _ _ _ _=>zdR fun _ _ _=>rfl,
   mg_0s:=mg_of X G ha28,
   fn_0s:=zam (st:=s_0s) hl28 hc28 hk28,
   b_0s:=(zam (st:=s_0s) hl28 hc28 hk28).binds fun _ _ _ _ _ _=>zdR fun _ _ _=>rfl,
   mg_0t:=mg_of X G ha29,
   fn_0t:=zam (st:=s_0t) hl29 hc29 hk29,
   b_0t:=(zam (st:=s_0t) hl29 hc29 hk29).binds fun _ _ _ _ _ _=>zd3 fun _=>rfl,
   mg_0u:=mg_of X G ha30,
   fn_0u:=zam (st:=s_0u) hl30 hc30 hk30,
   b_0u:=(zam (st:=s_0u) hl30 hc30 hk30).binds fun _ _ _ _ _ _=>zd3 fun _=>rfl,
   mg_0v:=mg_of X G ha31,
   fn_0v:=zam (st:=s_0v) hl31 hc31 hk31,
   b_0v:=(zam (st:=s_0v) hl31 hc31 hk31).binds fun _ _ _ _ _ _=>zdx fun _ _=>rfl,
   mg_0w:=mg_of X G ha32,
   fn_0w:=zam (st:=s_0w) hl32 hc32 hk32,
   b_0w:=(zam (st:=s_0w) hl32 hc32 hk32).binds fun _ _ _ _ _ _=>zd3 fun _=>rfl,
   mg_0x:=mg_of X G ha33,
   fn_0x:=zam (st:=s_0x) hl33 hc33 hk33,
   b_0x:=(zam (st:=s_0x) hl33 hc33 hk33).binds fun _ _ _ _ _ _=>zdx fun _ _=>rfl,
   mg_0y:=mg_of X G ha34,
   fn_0y:=zam (st:=s_0y) hl34 hc34 hk34,
   b_0y:=(zam (st:=s_0y) hl34 hc34 hk34).binds fun _ _ _ _ _ _=>zdR fun _ _ _=>rfl,
   mg_0z:=mg_of X G ha35,
   fn_0z:=zam (st:=s_0z) hl35 hc35 hk35,
   b_0z:=(zam (st:=s_0z) hl35 hc35 hk35).binds fun _ _ _ _ _ _=>zd3 fun _=>rfl,
   mg_10:=mg_of X G ha36,
   fn_10:=zam (st:=s_10) hl36 hc36 hk36,
   b_10:=(zam (st:=s_10) hl36 hc36 hk36).binds fun _ _ _ _ _ _=>zdx fun _ _=>rfl,
   mg_11:=mg_of X G ha37,
   fn_11:=zam (st:=s_11) hl37 hc37 hk37,
   b_11:=(zam (st:=s_11) hl37 hc37 hk37).binds fun _ _ _ _ _ _=>zdx fun _ _=>rfl,
   mg_12:=mg_of X G ha38,
   cc_12:=qc38,
   tb_12:=⟨⟨_,_,_,_,_,mg_of X G ha38,hl38,qc38⟩,⟨_,_,_,_,_,_,_,_,_,_,ql38,qa38,qb38,qd38,qe38,qf38,qg38⟩,qh38,qi38⟩,
   fn_12:=zam (st:=s_12) hl38 hc38 hk38,
   b_12:=(zam (st:=s_12) hl38 hc38 hk38).binds fun _ _ _ _ _ _=>zd3 fun _=>rfl,
   mg_13:=mg_of X G ha39,
   fn_13:=zam (st:=s_13) hl39 hc39 hk39,
   b_13:=(zam (st:=s_13) hl39 hc39 hk39).binds fun _ _ _ _ _ _=>zdx fun _ _=>rfl,
   mg_14:=mg_of X G ha40,
   fn_14:=zam (st:=s_14) hl40 hc40 hk40,
   b_14:=(zam (st:=s_14) hl40 hc40 hk40).binds fun _ _ _ _ _ _=>zdx fun _ _=>rfl,
   mg_15:=mg_of X G ha41,
   fn_15:=zam (st:=s_15) hl41 hc41 hk41,
   b_15:=(zam (st:=s_15) hl41 hc41 hk41).binds fun _ _ _ _ _ _=>zdx fun _ _=>rfl,
   mg_16:=mg_of X G ha42,
   fn_16:=zam (st:=s_16) hl42 hc42 hk42,
   b_16:=(zam (st:=s_16) hl42 hc42 hk42).binds fun _ _ _ _ _ _=>zd3 fun _=>rfl,
   mg_17:=mg_of X G ha43,
   fn_17:=zam (st:=s_17) hl43 hc43 hk43,
   b_17:=(zam (st:=s_17) hl43 hc43 hk43).binds fun _ _ _ _ _ _=>zlJ fun _ _ _ _=>rfl,
   mg_18:=mg_of X G ha44,
   fn_18:=zam (st:=s_18) hl44 hc44 hk44,
   b_18:=(zam (st:=s_18) hl44 hc44 hk44).binds fun _ _ _ _ _ _=>zdR fun _ _ _=>rfl,
   mg_19:=mg_of X G ha45,
   fn_19:=zam (st:=s_19) hl45 hc45 hk45,
   b_19:=(zam (st:=s_19) hl45 hc45 hk45).binds fun _ _ _ _ _ _=>zdx fun _ _=>rfl,
   mg_1a:=mg_of X G ha46,
   fn_1a:=zam (st:=s_1a) hl46 hc46 hk46,
   b_1a:=(zam (st:=s_1a) hl46 hc46 hk46).binds fun _ _ _ _ _ _=>zdR fun _ _ _=>rfl,
   mg_1b:=mg_of X G ha47,
   fn_1b:=zam (st:=s_1b) hl47 hc47 hk47,
   b_1b:=(zam (st:=s_1b) hl47 hc47 hk47).binds fun _ _ _ _ _ _=>zdR fun _ _ _=>rfl,
   mg_1c:=mg_of X G ha48,
   cc_1c:=qc48,
   tb_1c:=⟨⟨_,_,_,_,_,mg_of X G ha48,hl48,qc48⟩,⟨_,_,_,_,_,_,_,_,_,_,ql48,qa48,qb48,qd48,qe48,qf48,qg48⟩,qh48,qi48⟩,
   fn_1c:=zam (st:=s_1c) hl48 hc48 hk48,
   b_1c:=(zam (st:=s_1c) hl48 hc48 hk48).binds fun _ _ _ _ _ _=>zdx fun _ _=>rfl,
   mg_1d:=mg_of X G ha49,
   fn_1d:=zam (st:=s_1d) hl49 hc49 hk49,
   b_1d:=(zam (st:=s_1d) hl49 hc49 hk49).binds fun _ _ _ _ _ _=>zd3 fun _=>rfl,
   mg_1e:=mg_of X G ha50,
   fn_1e:=zam (st:=s_1e) hl50 hc50 hk50,
   b_1e:=(zam (st:=s_1e) hl50 hc50 hk50).binds fun _ _ _ _ _ _=>zdR fun _ _ _=>rfl,
   mg_1f:=mg_of X G ha51,
   fn_1f:=zam (st:=s_1f) hl51 hc51 hk51,
   b_1f:=(zam (st:=s_1f) hl51 hc51 hk51).binds fun _ _ _ _ _ _=>zd3 fun _=>rfl,
   mg_Z0c:=mg_of X G g_Z0c,
   cl_Z0c:=⟨by rw [gc_Z0c];rfl,gt_Z0c,gm_Z0c⟩,
   mg_Z07:=mg_of X G g_Z07,
   cl_Z07:=⟨by rw [gc_Z07];rfl,gt_Z07,gm_Z07⟩,
   mg_Z09:=mg_of X G g_Z09,
   cl_Z09:=⟨by rw [gc_Z09];rfl,gt_Z09,gm_Z09⟩,
   mg_Z0e:=mg_of X G g_Z0e,
   cl_Z0e:=⟨by rw [gc_Z0e];rfl,gt_Z0e,gm_Z0e⟩,
   mg_Z08:=mg_of X G g_Z08,
   cl_Z08:=⟨by rw [gc_Z08];rfl,gt_Z08,gm_Z08⟩,
   ex_Z07:=⟨_,_,_,PySem.F.excBase_ValueError,gx_Z07⟩,
   ex_Z09:=⟨_,_,_,PySem.F.excBase_ValueError,gx_Z09⟩,
   ex_Z0e:=⟨_,_,_,PySem.F.excBase_ValueError,gx_Z0e⟩,
   k_Z03:=⟨_,mg_of X G k_Z03,⟨_,rfl⟩⟩,
   k_Z02:=⟨_,mg_of X G k_Z02,⟨_,rfl⟩⟩,
   k_Z04:=⟨A_Z04,mg_of X G k_Z04,fun H=> .inr ⟨_,its_Z04,n_Z04,kl_Z04,rfl,rfl,kz_Z04,kv_Z04⟩⟩,
   k_Z0a:=⟨_,mg_of X G k_Z0a,⟨_,rfl⟩⟩,
   k_Z01:=⟨_,mg_of X G k_Z01,⟨_,rfl⟩⟩,
   k_Z00:=⟨_,mg_of X G k_Z00,⟨_,rfl⟩⟩,
   k_Z0g:=⟨_,mg_of X G k_Z0g,⟨_,rfl⟩⟩,
   k_Z0b:=⟨_,mg_of X G k_Z0b,⟨_,rfl⟩⟩,
   k_Z0f:=⟨A_Z0f,es_Z0f,n_Z0f,mg_of X G k_Z0f,kl_Z0f,kv_Z0f,by decide⟩,
   k_Z05:=⟨_,mg_of X G k_Z05,⟨_,rfl⟩⟩,
   k_Z06:=⟨_,mg_of X G k_Z06,⟨_,rfl⟩⟩,
   k_Z0d:=⟨A_Z0d,mg_of X G k_Z0d,fun H=> .inr ⟨_,its_Z0d,n_Z0d,kl_Z0d,rfl,rfl,kz_Z0d,kv_Z0d⟩⟩,
   ndp:=qn,
   no_range:=mg_none_of X G z_range,
   no_divmod:=mg_none_of X G z_divmod,
   no_min:=mg_none_of X G z_min,
   no_isinstance:=mg_none_of X G z_isinstance,
   no_int:=mg_none_of X G z_int,
   no_bool:=mg_none_of X G z_bool,
   no_sorted:=mg_none_of X G z_sorted,
   no_sum:=mg_none_of X G z_sum,
   no_len:=mg_none_of X G z_len,
   no_enumerate:=mg_none_of X G z_enumerate,
   no_list:=mg_none_of X G z_list,
   no_abs:=mg_none_of X G z_abs,
   no_max:=mg_none_of X G z_max}⟩
theorem bind_law {w:World} {K:PySem.W.Frag} {mg:Str→Option Value} {t:Adr} (T:Txt w K mg t): ∀(s:Shared) (u:Value),BindsTo s t.d_1f ⟨[u], []⟩ [("_law_script",u)]:=by
 obtain ⟨oc,od,kV,doc,pm,an,cdv,ct,osl,e,lk,hcd⟩:=T.fn_1f.ex
 intro s u
 rw [e]
 exact .of_eq rfl
def zhP (K:PySem.W.Frag) (Ts:List Addr):Sp:=fun vs H Q _=> ∃(a:Addr) (ns:List Int),vs= [.ref a]∧SqL K H a (ns.map V.int)∧ns.length≤63∧(∀T∈Ts,H T=some (.tbl #[]))∧ ∀H',Q (.bl true) H'
theorem walk {l:PySem.W.OpenLaw} {q:Program} {loose:List Str} {XP:(Str→Option Value)→Heap→Prop} {YP:World→Heap→Prop} {d:DefRec} {K:Params→PySem.W.Frag} (hn:l.most=some 63) (hdf:d.params.defaults= [])
  (hY: ∀(w:World) (h:Heap),YP w h→(K w.params).In h) (hy: ∀y∈(["in_time","_law_between"]:List Str),∃e∈PyProof.Rows.recsOf q,e.name=y)
  (F: ∀(w:World) (mg:Str→Option Value) (fa:Addr) (h:Heap),(K w.params).In h→h.Ns mainGlobals mg→mg d.name=some (.ref fa)→
   ∃(fd:FuncData) (Ts:List Addr),(∀T∈Ts,∃y∈(["in_time","_law_between"]:List Str),∃c,TabK (K w.params) mg y c T)∧(∀(s:Shared) (u:Value),BindsTo s fd ⟨[u], []⟩ [("_law_script",u)])∧ ∀base:Heap,(K w.params).In base→base.Ns mainGlobals mg→BM mg base→FnOk l.prog w (K w.params) mg base (CXE l.prog w) 16 fa fd ["_law_script"] (zhP (K w.params) Ts)):
  PySem.W.WalkO q loose XP YP l.row.toRowW d [] (fun f vs=>PySem.call f vs):=
 L2.walk_ofTs (n:=63) (k:=16) (x:="_law_script") (ys:= ["in_time","_law_between"]) (CX:=fun w=>CXE l.prog w) (sp:=fun K Ts=>zhP K Ts) hn (by decide) hdf ⟨rfl,by decide,by decide⟩ hY hy F (fun _ _ _ a ns hl hO hS=>⟨a,ns,rfl,hS,hl,hO.1,fun _=>rfl⟩) fun _ _ _ _ _ ⟨_,_,_,_,_,z⟩=>z
theorem lawN {P:Program} {w:World} {K:PySem.W.Frag} {mg:Str→Option Value} {base:Heap} {t:Adr} {k:Nat} {Ts:List Addr} (nd:Ts.Nodup) (F:FnOk P w K mg base (CXE P w) k t.a_1f t.d_1f ["_law_script"] (zk1 K Ts)):FnOk P w K mg base (CXE P w) k t.a_1f t.d_1f ["_law_script"] (zhP K Ts):=
 F.imp fun _ _ _ _ ⟨a,ns,e,hS,hl,hT,q⟩=>⟨a,ns,e,hS,hl,nd,hT,q⟩
end K71
namespace PySem.W.Fast
def tw5757042562054592694:Unit:=()
def tw11954097856096154417:Unit:=()
def tw11040689415278120703:Unit:=()
def tw13995900107802786636:Unit:=()
set_option maxRecDepth 100000 in
def tw15759333496762597132:PySem.Program:=PySem.Challenge.pw_paidspan_k71_late_is_in_time
set_option maxRecDepth 100000 in
theorem te15759333496762597132:PySem.Challenge.pw_paidspan_k71_late_is_in_time=tw15759333496762597132:=rfl
def tw6560244297868767586:Unit:=()
def tw7042141550912599454:Unit:=()
def tw714939813460221120:Unit:=()
def tw3167719054829946847:Unit:=()
def tw9830607129165153077:Unit:=()
def tw10447828887332440794:Unit:=()
def tw2895329600175538533:Unit:=()
def tw3690302885381188931:Unit:=()
def tw12414667475531076815:Unit:=()
def tw17292044270611565594:Unit:=()
def tw15704712673965986676:Unit:=()
def tw9830256161176958033:Unit:=()
def tw10149940837052780764:Unit:=()
def tw16485090103231211004:Unit:=()
def tw14290904932840610785:Unit:=()
def tw15064645469921219983:Unit:=()
def tw10800011242670521169:Unit:=()
def tw11174869069687583291:Unit:=()
def tw11719316990486163078:Unit:=()
def tw17411119202520737769:Unit:=()
def tw9116189562509517759:Unit:=()
def tw14183040710285255769:Unit:=()
def tw7788160571923419052:Unit:=()
def tw14512056482595926673:Unit:=()
def tw17907298160526736339:Unit:=()
def tw10731801408753991340:Unit:=()
def tw8309082481311354033:Unit:=()
def tw9190653965051103706:Unit:=()
def tw7731488159111408792:Unit:=()
def tw2122529340307577762:Unit:=()
def tw7510144239401235612:Unit:=()
def tw469336757927543376:Unit:=()
def tw6353487361396347875:Unit:=()
def tw16138496032189706323:Unit:=()
def tw16467785067085267491:Unit:=()
def tw12242113417225915420:Unit:=()
def tw10879320691045313928:Unit:=()
def tw12030468407888098354:Unit:=()
def tw16732678878693706237:Unit:=()
def tw18303275424689402950:Unit:=()
def tw17126022155765025920:Unit:=()
def tw9356441876977110612:Unit:=()
def tw1266604984603030638:Unit:=()
def tw10431379814971396562:Unit:=()
def tw14153206319624561540:Unit:=()
def tw3947296953519728529:Unit:=()
def tw5953657278899934562:Unit:=()
def tw4889949140849712757:Unit:=()
def tw791962965112470208:Unit:=()
def tw16611709691007460097:Unit:=()
def tw5610536071048879702:Unit:=()
def tw15606505613278108880:Unit:=()
def tw17554912707148472276:Unit:=()
def tw13129591683402628110:Unit:=()
def tw15385013502378431472:Unit:=()
def tw10771473821063695939:Unit:=()
def tw14765493766354842251:Unit:=()
def tw348654175613694148:Unit:=()
def tw7264281548049569804:Unit:=()
def tw4504654352072952860:Unit:=()
def tw5145867825033264675:Unit:=()
def tw14342282714743435858:Unit:=()
def tw1551682680684017288:Unit:=()
def tw2872020075482445715:Unit:=()
def tw5508763988256069826:Unit:=()
def tw18143005408091347444:Unit:=()
def tw17722616248730890120:Unit:=()
def tw13753834718703178722:Unit:=()
def tw2058540967401502965:Unit:=()
def tw14439451940606119012:Unit:=()
def tw15088816506996365082:Unit:=()
def tw7107774136153497407:Unit:=()
def tw11466650742260218926:Unit:=()
def tw2137374860724304545:Unit:=()
def tw7979843329168807632:Unit:=()
def tw17969604104816459340:Unit:=()
def tw5608448448757907271:Unit:=()
def tw6346375203249911117:Unit:=()
def tw7201767461905735777:Unit:=()
def tw571697969369735420:Unit:=()
def tw3926625591008571508:Unit:=()
def tw4514695747352877980:Unit:=()
def tw6325156876521736478:Unit:=()
def tw3437411271052531860:Unit:=()
def tw3370294812737010486:Unit:=()
def tw14200290702971401671:Unit:=()
def tw12494369784068867842:Unit:=()
def tw2835538129929233517:Unit:=()
def tw18073940229756430371:Unit:=()
def tw17148271094176468493:Unit:=()
def tw13067261447475632627:Unit:=()
def tw3682617142253308925:Unit:=()
def tw14511700902046264450:Unit:=()
def tw1790136089034518889:Unit:=()
def tw9868070177867886429:Unit:=()
def tw11027702788136772013:Unit:=()
def tw9807692242383559141:Unit:=()
def tw5395883313768696966:Unit:=()
def tw10710258425492979414:Unit:=()
def tw13701695573925518901:Unit:=()
def tw12841683062401448212:Unit:=()
def tw5681997422946389347:Unit:=()
def tw4324420718276290241:Unit:=()
def tw9305278575963023780:Unit:=()
def tw3617995425150482460:Unit:=()
def tw9934392304221833127:Unit:=()
def tw17335652963120073674:Unit:=()
def tw10392693773220739227:Unit:=()
def tw13712785238949963878:Unit:=()
def tw11282157256944888697:Unit:=()
def tw679909218779293034:Unit:=()
def tw10858851041617429635:Unit:=()
def tw6762463741309949468:Unit:=()
def tw1007084997715876505:Unit:=()
def tw8556674668049931911:Unit:=()
def tw18171254870303328551:Unit:=()
def tw592822238542029716:Unit:=()
def tw17636809257710818989:Unit:=()
def tw3257016475833837034:Unit:=()
def tw14511361209093788517:Unit:=()
def tw16209526571185011293:Unit:=()
def tw3891053464759525545:Unit:=()
def tw8310166839773697477:Unit:=()
def tw7932180379322982883:Unit:=()
def tw15231990695058394684:Unit:=()
def tw2249329824793251237:Unit:=()
def tw15079265913445514748:Unit:=()
def tw17231395990639057476:Unit:=()
def tw2241398087572478779:Unit:=()
def tw3070615709495201233:Unit:=()
def tw14871863373219936506:Unit:=()
def tw9083329046646112757:Unit:=()
def tw1164108708436073410:Unit:=()
def tw6621597808947353924:Unit:=()
def tw9380701531691680412:Unit:=()
def tw10585447381707849902:Unit:=()
def tw10597533738172071516:Unit:=()
def tw13567661426945870722:Unit:=()
def tw9202697046858123868:Unit:=()
def tw13805922435292306228:Unit:=()
def tw304074386135808001:Unit:=()
def tw1303401502916783289:Unit:=()
def tw6972098059281900640:Unit:=()
def tw15346185494127435866:Unit:=()
def tw15061328191689855495:Unit:=()
def tw3957004888374971731:Unit:=()
def tw9445505446135231741:Unit:=()
def tw6080138324674401568:Unit:=()
def tw11005516196249657741:Unit:=()
def tw8667271912010348440:Unit:=()
def tw7213994781779017585:Unit:=()
def tw5534415257204288530:Unit:=()
def tw4079610722863283655:Unit:=()
def tw6289646525969040288:Unit:=()
def tw11588329232128544686:Unit:=()
def tw4848997374387412789:Unit:=()
def tw12191113741055501039:Unit:=()
def tw5792489544187207115:Unit:=()
def tw15583176166595392869:Unit:=()
def tw11932571271089971124:Unit:=()
def tw10967433626308254753:Unit:=()
def tw973508733411210057:Unit:=()
def tw3859282126159988119:Unit:=()
def tw2749869791613672770:Unit:=()
def tw6176884706519110704:Unit:=()
def tw15755291240608010988:Unit:=()
def tw11825765836005398757:Unit:=()
def tw2049884655338504545:Unit:=()
def tw15407373758643521202:Unit:=()
def tw1619414339424328167:Unit:=()
def tw3669913887159914433:Unit:=()
def tw12821463187037611522:Unit:=()
def tw362558061943521461:Unit:=()
def tw11607002708737898313:Unit:=()
def tw4911341437203724805:Unit:=()
def tw7552485600183677017:Unit:=()
def tw14599454939360190590:Unit:=()
def tw13543234613040231627:Unit:=()
def tw1439236298756239284:Unit:=()
def tw4822148932722093545:Unit:=()
def tw5729892869562838604:Unit:=()
def tw14716839576158867450:Unit:=()
def tw9935382838116468691:Unit:=()
def tw17874880319121694037:Unit:=()
def tw17237652443399387053:Unit:=()
def tw1993918536676476331:Unit:=()
def tw13284975451262413131:Unit:=()
def tw11759207141263185230:Unit:=()
def tw4692653178355389244:Unit:=()
def tw14513528778989659551:Unit:=()
def tw17096096058826653669:Unit:=()
def tw5662436542921507574:Unit:=()
def tw1304780476872150088:Unit:=()
def tw18405338909921334514:Unit:=()
def tw15292279955310071710:Unit:=()
def tw10395263771827745704:Unit:=()
def tw4566705713780106009:Unit:=()
def tw8084142946673806879:Unit:=()
def tw14817722425988206061:Unit:=()
def tw7263121654799352937:Unit:=()
def tw8523860993936445142:Unit:=()
def tw17904747889681153915:Unit:=()
def tw9448247481213804036:Unit:=()
def tw3492543976016778941:Unit:=()
def tw1553185609142587716:Unit:=()
def tw7322105673257160364:Unit:=()
def tw2771993423337426303:Unit:=()
def tw4281463122638150754:Unit:=()
def tw16757511963743771597:Unit:=()
def tw10464387497325361092:Unit:=()
def tw11775837424707146737:Unit:=()
def tw8022329081252868524:Unit:=()
def tw3215890942798357047:Unit:=()
def tw12073724986282700243:Unit:=()
def tw16514297493831391253:Unit:=()
def tw7657700186086998268:Unit:=()
def tw13842524071506638261:Unit:=()
def tw5015900208171021413:Unit:=()
def tw8034812931395688463:Unit:=()
def tw11729316292104279480:Unit:=()
def tw1194778241293858207:Unit:=()
def tw8939379282502735350:Unit:=()
def tw11903637537665125792:Unit:=()
def tw13366547228200658844:Unit:=()
def tw2913240923418032864:Unit:=()
def tw10621332941764468238:Unit:=()
def tw4105080296240110286:Unit:=()
def tw11780600625435348490:Unit:=()
def tw2167022158667477930:Unit:=()
def tw14790709155225726782:Unit:=()
def tw15460555890940255129:Unit:=()
def tw5274001802012010632:Unit:=()
def tw2461934007522756940:Unit:=()
def tw7012496620439381367:Unit:=()
def tw17480008425307570111:Unit:=()
def tw14807381790536442864:Unit:=()
def tw15507891900326455623:Unit:=()
def tw12626234413703455531:Unit:=()
def tw13324622910773890242:Unit:=()
def tw4748438960889058901:Unit:=()
def tw9758064171861333039:Unit:=()
def tw16927391813146637118:Unit:=()
def tw16315120849281125040:Unit:=()
def tw11441642857638041346:Unit:=()
def tw16609027645809128740:Unit:=()
def tw4898785080120134317:Unit:=()
def tw14325530399581957013:Unit:=()
def tw8094491272004716136:Unit:=()
def tw6969407770884731931:Unit:=()
def tw13504207963780559932:Unit:=()
def tw14070000482717835005:Unit:=()
def tw1509751610099089742:Unit:=()
def tw7451917276933969508:Unit:=()
def tw10520824597287457441:Unit:=()
def tw13771954724525736401:Unit:=()
def tw15242844264448926268:Unit:=()
def tw4348432026147819798:Unit:=()
def tw5711890991817656714:Unit:=()
def tw106348738484109613:Unit:=()
def tw17711703484638974257:Unit:=()
def tw13758958327698380721:Unit:=()
def tw12730947250688741861:Unit:=()
def tw8139955721895328002:Unit:=()
def tw14735973549667142772:Unit:=()
def tw1333172315558644777:Unit:=()
def tw12252414720362205565:Unit:=()
def tw4986687669048839657:Unit:=()
def tw5382743847187639164:Unit:=()
def tw15173000436063304380:Unit:=()
def tw6343213786406753643:Unit:=()
def tw14140548596634377498:Unit:=()
def tw11337374433123810291:Unit:=()
def tw11592267885788781257:Unit:=()
def tw6002324793849863644:Unit:=()
def tw10012737639899716703:Unit:=()
end PySem.W.Fast
open PySem PySem.W PyProof.Rows
set_option maxRecDepth 100000 in
set_option maxHeartbeats 0 in
theorem PySem.Challenge.cw_paidspan_k71_late_is_in_time_holds : PySem.Challenge.rw_paidspan_k71_late_is_in_time.Holds := by
 w_on;o_law;k_head;(case hw=>w_witness2)
 k_fill
 refine K71.walk (l:=PySem.Challenge.rw_paidspan_k71_late_is_in_time) rfl rfl (fun w h Y=>PySem.W.km_in_of Y) ?hy ?F
 case hy=>
  intro y hy
  simp only [List.mem_cons,List.not_mem_nil,or_false] at hy
  rcases hy with rfl|rfl<;>exact L2.recs_any (by kernel_rfl)
 case F=>
  intro w mg fa h KX G hmg
  have T: ∃t,K71.Txt w (L2.KOf KX) mg t:=by
   dsimp only [L2.KOf]
   refine' K71.txt_mk KX G ?ha0 ?hl0 ?hc0 ?hk0 ?ha1 ?hl1 ?hc1 ?hk1 ?ha2 ?hl2 ?hc2 ?hk2 ?ha3 ?hl3 ?hc3 ?hk3 ?ha4 ?hl4 ?hc4 ?hk4 ?ha5 ?hl5 ?hc5 ?hk5 ?ha6 ?hl6 ?hc6 ?hk6 ?ha7 ?hl7 ?hc7 ?hk7 ?ha8 ?hl8 ?hc8 ?hk8 ?ha9 ?hl9 ?hc9 ?hk9 ?ha10 ?hl10 ?hc10 ?hk10 ?ha11 ?hl11 ?hc11 ?hk11 ?ha12 ?hl12 ?hc12 ?hk12 ?ha13 ?hl13 ?hc13 ?hk13 ?ha14 ?hl14 ?hc14 ?hk14 ?ha15 ?hl15 ?hc15 ?hk15 ?ha16 ?hl16 ?hc16 ?hk16 ?ha17 ?hl17 ?hc17 ?hk17 ?ha18 ?hl18 ?hc18 ?hk18 ?ha19 ?hl19 ?hc19 ?hk19 ?ha20 ?hl20 ?hc20 ?hk20 ?ha21 ?hl21 ?hc21 ?hk21 ?ha22 ?hl22 ?hc22 ?hk22 ?ha23 ?hl23 ?hc23 ?hk23 ?ha24 ?hl24 ?hc24 ?hk24 ?ha25 ?hl25 ?hc25 ?hk25 ?ha26 ?hl26 ?hc26 ?hk26 ?ha27 ?hl27 ?hc27 ?hk27 ?ha28 ?hl28 ?hc28 ?hk28 ?ha29 ?hl29 ?hc29 ?hk29 ?ha30 ?hl30 ?hc30 ?hk30 ?ha31 ?hl31 ?hc31 ?hk31 ?ha32 ?hl32 ?hc32 ?hk32 ?ha33 ?hl33 ?hc33 ?hk33 ?ha34 ?hl34 ?hc34 ?hk34 ?ha35 ?hl35 ?hc35 ?hk35 ?ha36 ?hl36 ?hc36 ?hk36 ?ha37 ?hl37 ?hc37 ?hk37 ?ha38 ?hl38 ?hc38 ?hk38 ?qc38 ?ql38 ?qa38 ?qb38 ?qd38 ?qe38 ?qf38 ?qg38 ?qh38 ?qi38 ?ha39 ?hl39 ?hc39 ?hk39 ?ha40 ?hl40 ?hc40 ?hk40 ?ha41 ?hl41 ?hc41 ?hk41 ?ha42 ?hl42 ?hc42 ?hk42 ?ha43 ?hl43 ?hc43 ?hk43 ?ha44 ?hl44 ?hc44 ?hk44 ?ha45 ?hl45 ?hc45 ?hk45 ?ha46 ?hl46 ?hc46 ?hk46 ?ha47 ?hl47 ?hc47 ?hk47 ?ha48 ?hl48 ?hc48 ?hk48 ?qc48 ?ql48 ?qa48 ?qb48 ?qd48 ?qe48 ?qf48 ?qg48 ?qh48 ?qi48 ?ha49 ?hl49 ?hc49 ?hk49 ?ha50 ?hl50 ?hc50 ?hk50 ?ha51 ?hl51 ?hc51 ?hk51 ?g_Z0c ?gc_Z0c ?gt_Z0c ?gm_Z0c ?g_Z07 ?gc_Z07 ?gt_Z07 ?gm_Z07 ?g_Z09 ?gc_Z09 ?gt_Z09 ?gm_Z09 ?g_Z0e ?gc_Z0e ?gt_Z0e ?gm_Z0e ?g_Z08 ?gc_Z08 ?gt_Z08 ?gm_Z08 ?gx_Z07 ?gx_Z09 ?gx_Z0e ?k_Z03 ?k_Z02 ?k_Z04 ?kl_Z04 ?kz_Z04 ?kv_Z04 ?k_Z0a ?k_Z01 ?k_Z00 ?k_Z0g ?k_Z0b ?k_Z0f ?kl_Z0f ?kv_Z0f ?k_Z05 ?k_Z06 ?k_Z0d ?kl_Z0d ?kz_Z0d ?kv_Z0d ?qn ?z_range ?z_divmod ?z_min ?z_isinstance ?z_int ?z_bool ?z_sorted ?z_sum ?z_len ?z_enumerate ?z_list ?z_abs ?z_max
   (case g_Z0c|g_Z07|g_Z09|g_Z0e|g_Z08|ha0|hl0|hc0=>k_is)
   (case hk0|ha1|hl1|hc1|hk1|ha2|hl2|hc2=>k_is)
   (case hk2|ha3|hl3|hc3|hk3|ha4|hl4|hc4=>k_is)
   (case hk4|ha5|hl5|hc5|hk5|ha6|hl6|hc6=>k_is)
   (case hk6|ha7|hl7|hc7|hk7|ha8|hl8|hc8=>k_is)
   (case hk8|ha9|hl9|hc9|hk9|ha10|hl10|hc10=>k_is)
   (case hk10|ha11|hl11|hc11|hk11|ha12|hl12|hc12=>k_is)
   (case hk12|ha13|hl13|hc13|hk13|ha14|hl14|hc14=>k_is)
   (case hk14|ha15|hl15|hc15|hk15|ha16|hl16|hc16=>k_is)
   (case hk16|ha17|hl17|hc17|hk17|ha18|hl18|hc18=>k_is)
   (case hk18|ha19|hl19|hc19|hk19|ha20|hl20|hc20=>k_is)
   (case hk20|ha21|hl21|hc21|hk21|ha22|hl22|hc22=>k_is)
   (case hk22|ha23|hl23|hc23|hk23|ha24|hl24|hc24=>k_is)
   (case hk24|ha25|hl25|hc25|hk25|ha26|hl26|hc26=>k_is)
   (case hk26|ha27|hl27|hc27|hk27|ha28|hl28|hc28=>k_is)
   (case hk28|ha29|hl29|hc29|hk29|ha30|hl30|hc30=>k_is)
   (case hk30|ha31|hl31|hc31|hk31|ha32|hl32|hc32=>k_is)
   (case hk32|ha33|hl33|hc33|hk33|ha34|hl34|hc34=>k_is)
   (case hk34|ha35|hl35|hc35|hk35|ha36|hl36|hc36=>k_is)
   (case hk36|ha37|hl37|hc37|hk37|ha38|hl38|hc38=>k_is)
   (case hk38=>k_is)
   (case qc38=>rfl)
   (case ql38=>k_is)
   (case qa38=>rfl)
   (case qb38=>rfl)
   (case qd38=>rfl)
   (case qe38=>rfl)
   (case qf38=>rfl)
   (case qg38=>rfl)
   (case qh38=>decide)
   (case qi38=>kernel_rfl)
   (case ha39|hl39|hc39|hk39|ha40|hl40|hc40|hk40=>k_is)
   (case ha41|hl41|hc41|hk41|ha42|hl42|hc42|hk42=>k_is)
   (case ha43|hl43|hc43|hk43|ha44|hl44|hc44|hk44=>k_is)
   (case ha45|hl45|hc45|hk45|ha46|hl46|hc46|hk46=>k_is)
   (case ha47|hl47|hc47|hk47|ha48|hl48|hc48|hk48=>k_is)
   (case qc48=>rfl)
   (case ql48=>k_is)
   (case qa48=>rfl)
   (case qb48=>rfl)
   (case qd48=>rfl)
   (case qe48=>rfl)
   (case qf48=>rfl)
   (case qg48=>rfl)
   (case qh48=>decide)
   (case qi48=>kernel_rfl)
   (case ha49|hl49|hc49|hk49|ha50|hl50|hc50|hk50=>k_is)
   (case ha51|hl51|hc51|hk51|gc_Z0c|gt_Z0c|gm_Z0c|gc_Z07=>k_is)
   (case gt_Z07|gm_Z07|gc_Z09|gt_Z09|gm_Z09|gc_Z0e|gt_Z0e|gm_Z0e=>k_is)
   (case gc_Z08|gt_Z08|gm_Z08=>k_is)
   (case gx_Z07=>k_exc)
   (case gx_Z09=>k_exc)
   (case gx_Z0e=>k_exc)
   (case k_Z03|k_Z02|k_Z04|kl_Z04=>k_is)
   (case kz_Z04=>decide)
   (case kv_Z04=>exact (.cons ⟨_,rfl⟩ (.cons ⟨_,rfl⟩ (.cons ⟨_,rfl⟩ (.cons ⟨_,rfl⟩ (.cons ⟨_,rfl⟩ (.cons ⟨_,rfl⟩ (.cons ⟨_,rfl⟩ (.cons ⟨_,rfl⟩ (.cons ⟨_,rfl⟩ (.cons ⟨_,rfl⟩ (.cons ⟨_,rfl⟩ (.cons ⟨_,rfl⟩ .nil)))))))))))))
   (case k_Z0a|k_Z01|k_Z00|k_Z0g|k_Z0b|k_Z0f|kl_Z0f=>k_is)
   (case kv_Z0f=>exact ⟨⟨_,rfl⟩,rfl,⟨_,rfl⟩,⟨⟨_,rfl⟩,rfl,⟨_,rfl⟩,⟨⟨_,rfl⟩,rfl,⟨_,rfl⟩,⟨⟨_,rfl⟩,rfl,⟨_,rfl⟩,trivial⟩⟩⟩⟩)
   (case k_Z05|k_Z06|k_Z0d|kl_Z0d=>k_is)
   (case kz_Z0d=>decide)
   (case kv_Z0d=>exact (.cons ⟨_,rfl⟩ (.cons ⟨_,rfl⟩ (.cons ⟨_,rfl⟩ (.cons ⟨_,rfl⟩ (.cons ⟨_,rfl⟩ (.cons ⟨_,rfl⟩ .nil)))))))
   (case qn=>decide)
   (case z_range|z_divmod|z_min|z_isinstance|z_int|z_bool|z_sorted|z_sum=>k_is)
   (case z_len|z_enumerate|z_list|z_abs|z_max=>k_is)
  obtain ⟨t,T⟩:=T
  have e0:=hmg.symm.trans T.mg_1f
  cases e0
  refine ⟨_, [t.p_12,t.p_1c],?tk,?b,fun base _ _ B=>(K71.lawN T.ndp (K71.ok_1f T B)).mono (by decide)⟩
  ·intro T' h'
   simp only [List.mem_cons,List.not_mem_nil,or_false] at h'
   rcases h' with rfl|rfl
   ·exact ⟨_,List.mem_cons_self,_,T.tb_12⟩
   ·exact ⟨_,(List.mem_cons_of_mem _ List.mem_cons_self),_,T.tb_1c⟩
  ·exact K71.bind_law T
