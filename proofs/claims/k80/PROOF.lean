import PyProof.Rows.All
import Wide.All
import OpenK.AllK
import Wide.FinOn
import Lean
import PyProof.EqAt
import PyProof.EqKinds
import PyProof.TupleCall
import PySem.Challenge.RW_paidspan_k80_accounts_written
abbrev Fg:=PySem.W.Frag
set_option compiler.extract_closed false
local macro_rules | `(tactic| omega) => `(tactic| lia)
set_option Elab.async false
set_option linter.all false
set_option maxRecDepth 100000
namespace L2
open PySem PySem.Spec PyProof.Rows
abbrev Key:=Sum Int Str
def zeS:Key→Value→Bool
 | .inl k,v=>Value.isInt k v
 | .inr x,v=>Value.isStrOf x v
def zkU(w:World):Key→Int
 | .inl k=>hashInt k
 | .inr x=>hashStr w x
theorem zbx: ∀{k:Key} {v:Value},zeS k v=true→(∃i t,k=Sum.inl i∧v=Value.int i t)∨(∃x t,k=Sum.inr x∧v=Value.str x t)
 | .inl i,v,h=>by
  obtain⟨t,e⟩:=Value.isInt_shape (k:=i) (v:=v) h;exact .inl ⟨i,t,rfl,e⟩
 | .inr x,v,h=>by
  obtain⟨t,e⟩:=Value.isStrOf_shape (x:=x) (v:=v) h;exact .inr ⟨x,t,rfl,e⟩
theorem zhb(i:Int)(t:Tok):zeS (.inl i) (.int i t)=true:=by simp [zeS,Value.isInt]
theorem zhc(x:Str)(t:Tok):zeS (.inr x) (.str x t)=true:=by simp [zeS,Value.isStrOf]
theorem zjv(a b:Int):decide ((Sum.inl a:Key)=Sum.inl b)=(a==b):=by
 by_cases e:a=b
 ·subst e;simp
 ·have h: ¬(Sum.inl a:Key)=Sum.inl b:=fun q=>e (Sum.inl.inj q);rw[decide_eq_false h];exact(beq_eq_false_iff_ne.mpr e).symm
theorem zjw(a b:Str):decide ((Sum.inr a:Key)=Sum.inr b)=decide (a=b):=by
 by_cases e:a=b
 ·subst e;simp
 ·have h: ¬(Sum.inr a:Key)=Sum.inr b:=fun q=>e (Sum.inr.inj q);rw[decide_eq_false h,decide_eq_false e]
theorem zjx(a:Int)(b:Str):decide ((Sum.inl a:Key)=Sum.inr b)=false:=decide_eq_false (fun q=>nomatch q)
theorem zjy(a:Str)(b:Int):decide ((Sum.inr a:Key)=Sum.inl b)=false:=decide_eq_false (fun q=>nomatch q)
def zbK(prog:Program)(w:World):PySem.KeyKind prog w Key where
 is:=zeS
 hash:=zkU w
 inj:=fun v a b ha hb=>by
  rcases zbx ha with⟨i,t,rfl,rfl⟩|⟨x,t,rfl,rfl⟩
  ·rcases zbx hb with⟨j,u,rfl,e⟩|⟨y,u,rfl,e⟩
   ·injection e with e1 _;rw[e1]
   ·exact nomatch e
  ·rcases zbx hb with⟨j,u,rfl,e⟩|⟨y,u,rfl,e⟩
   ·exact nomatch e
   ·injection e with e1 _;rw[e1]
 byValue:=fun k v h=>by
  rcases zbx h with⟨i,t,rfl,rfl⟩|⟨x,t,rfl,rfl⟩<;>rfl
 pyHash:=fun hv h=>by
  rcases zbx hv with⟨i,t,rfl,rfl⟩|⟨x,t,rfl,rfl⟩
  ·exact wpAny_pyHash_int h
  ·exact wpAny_pyHash_str h
 eqBool:=fun hu hv h=>by
  rcases zbx hu with⟨i,t,rfl,rfl⟩|⟨x,t,rfl,rfl⟩
  ·rcases zbx hv with⟨j,u,rfl,rfl⟩|⟨y,u,rfl,rfl⟩
   ·rw[zjv] at h;exact wpAny_eqBool_int h
   ·rw[zjx] at h;exact SeqAt.EqAt.int_str i t y u _ _ _ _ h
  ·rcases zbx hv with⟨j,u,rfl,rfl⟩|⟨y,u,rfl,rfl⟩
   ·rw[zjy] at h;exact SeqAt.EqAt.str_int x t j u _ _ _ _ h
   ·rw[zjw] at h;exact wpAny_eqBool_str h
 «strs» :=fun k x t v h=>by
  rcases zbx h with⟨i,u,rfl,e⟩|⟨y,u,rfl,e⟩
  ·exact nomatch e
  ·injection e with e1 _
   subst e1
   cases v<;>rfl
theorem zfN(prog:Program)(w:World)(i:Int)(t:Tok):(zbK prog w).is (.inl i) (.int i t)=true:=zhb i t
theorem zfO(prog:Program)(w:World)(x:Str)(t:Tok):(zbK prog w).is (.inr x) (.str x t)=true:=zhc x t
end L2
namespace L2
open PySem PySem.Spec PyProof.Rows
inductive V where
 |non|bl (b:Bool)|int (i:Int)|str (x:Str)|byt (b:Array UInt8)|flt (b:UInt64)|ref (a:Addr)|ty (n:String)
 deriving DecidableEq
def zaB:V→Value→Prop
 | .non,u=>u=Value.none
 | .bl b,u=>u=Value.bool b
 | .int i,u=> ∃t,u=Value.int i t
 | .str x,u=> ∃t,u=Value.str x t
 | .byt b,u=> ∃t,u=Value.bytes b t
 | .flt b,u=> ∃t,u=Value.float b t
 | .ref a,u=>u=Value.ref a
 | .ty n,u=>u=Value.type n
abbrev zaP:List V→List Value→Prop:=Paired zaB
theorem zaP.length{xs:List V}{us:List Value}(r:zaP xs us):xs.length=us.length:=Paired.length r
theorem zaP.get: ∀{xs:List V} {us:List Value} {i:Nat} {x:V},zaP xs us→xs[i]? =some x→ ∃u,us[i]? =some u∧zaB x u
 |_,_,_,_, .nil,e=>by simp at e
 |_,_,0,_, .cons r _,e=>by simp at e;subst e;exact⟨_,rfl,r⟩
 |_,_,i+1,x, .cons _ t,e=>by
  obtain⟨u,h1,h2⟩:=zaP.get (i:=i) (x:=x) t (by simpa using e);exact⟨u,by simpa using h1,h2⟩
theorem zaP.set{x:V}{u:Value}(r:zaB x u): ∀{xs:List V} {us:List Value} (i:Nat),zaP xs us→zaP (xs.set i x) (us.set i u)
 |_,_,_, .nil=> .nil
 |_,_,0, .cons _ t=> .cons r t
 |_,_,i+1, .cons q t=> .cons q (zaP.set r i t)
theorem zaP.append: ∀{xs ys:List V} {us ws:List Value},zaP xs us→zaP ys ws→zaP (xs++ys) (us++ws)
 |_,_,_,_, .nil,s=>s
 |_,_,_,_, .cons r t,s=> .cons r (zaP.append t s)
theorem zaP.take: ∀{xs:List V} {us:List Value} (n:Nat),zaP xs us→zaP (xs.take n) (us.take n)
 |_,_,0,_=> .nil
 |_,_,_+1, .nil=> .nil
 |_,_,n+1, .cons r t=> .cons r (zaP.take n t)
theorem zaP.drop: ∀{xs:List V} {us:List Value} (n:Nat),zaP xs us→zaP (xs.drop n) (us.drop n)
 |_,_,0,r=>r
 |_,_,_+1, .nil=> .nil
 |_,_,n+1, .cons _ t=>zaP.drop n t
theorem zaP.none_of: ∀{xs:List V} {us:List Value} {i:Nat},zaP xs us→xs[i]? =none→us[i]? =none:=fun {xs us i} r e=>by
 have h1:=r.length;have h2:xs.length≤i:=List.getElem?_eq_none_iff.mp e;exact List.getElem?_eq_none_iff.mpr (by omega)
def zek:Option V→Option Value→Prop
 |some v,some u=>zaB v u
 |none,none=>True
 |_,_=>False
def KV{κ:Type}:List (κ×V)→List (κ×Value)→Prop:=Paired fun(p:κ×V) (q:κ×Value)=>p.1=q.1∧zaB p.2 q.2
def kV:Key→V
 | .inl i=> .int i
 | .inr x=> .str x
inductive HO where
 |lst (xs:List V)
 |tup (xs:List V)
 |dK (kvs:List (Key×V))|dT (kvs:List (List Key×V))
 |set (S:Int→Bool) (n:Nat)
 |ins (C dx:Addr) (fs:List (Str×V))
 |own (x:Addr)
 |xd (fs:List (Str×V))
 |met (f x:Addr)
 |rng (lo hi:Int)
 |frz (o:Obj) (u:HO)
 |tbl (ps:Array Value)
 |ext (φ:Heap→Prop)
abbrev Hp:=Addr→Option HO
def upd(H:Hp)(a:Addr)(o:HO):Hp:=fun b=>if b=a then some o else H b
theorem zat{H:Hp}{a:Addr}{o:HO}:upd H a o a=some o:=by unfold upd;rw[if_pos rfl]
theorem zaO{H:Hp}{a b:Addr}{o:HO}(h:b≠a):upd H a o b=H b:=by unfold upd;rw[if_neg h]
theorem zkt{H:Hp}{a b:Addr}{o u:HO}(h:H a=some o)(h':H b=some u)(d:o≠u):a≠b:=by
 intro e;subst e;rw[h] at h';exact d (Option.some.inj h')
theorem zbg{H:Hp}{a b:Addr}{o:HO}(h:H a=some o)(h':H b=none):a≠b:=by
 intro e;subst e;rw[h] at h';cases h'
section
variable (P:Program) (w:World)
def zbm(H:Hp)(h:Heap)(a:Addr):HO→Prop
 | .lst xs=>xs.length≤sizeLine∧ ∃(its:List Value) (n:Nat),zaP xs its∧h.get? a=some {cls:= .type "list",data:= .seq its.toArray n}
 | .tup xs=>xs.length≤sizeLine∧ ∃its:List Value,zaP xs its∧IsTup h a its.toArray
 | .dK kvs=>kvs.length≤sizeLine∧(a==sysModules)=false∧ ∃vs,KV kvs vs∧h.DictOf (zbK P w) a vs
 | .dT kvs=>kvs.length≤sizeLine∧(a==sysModules)=false∧ ∃xs:List (List Key×Addr×Value),
   Paired (fun(p:List Key×V) (q:List Key×Addr×Value)=>p.1=q.1∧H q.2.1=some (.tup (p.1.map kV))∧zaB p.2 q.2.2) kvs xs∧
   ∃o es ep,h.get? a=some o∧o.ExactDict∧o.data= .dict es ep∧es.toList=xs.map (entryOfKey (tupleKind (zbK P w)))∧(xs.map (·.1)).Nodup
 | .set S n=>h.SetOf (intKind P w) a S n
 | .ins C dx fs=>H dx=some (.own a)∧fs.length≤1000∧dx≠a∧h.get? a=some (PySem.W.instObj C dx)∧
   ∃mA,h.Ns1 dx mA∧(∀f,zek (fs.lookup f) (mA f))∧PySem.Within mA (fs.map (·.1))
 | .own _=> ∃o,h.get? a=some o
 | .xd fs=> ∃mA,h.Ns1 a mA∧ ∀f,zek (fs.lookup f) (mA f)
 | .rng lo hi=> ∃t u v,h.get? a=some {cls:= .type "range",data:= .fields #[.int lo t, .int hi u, .int 1 v]}
 | .frz o u=>h.get? a=some o∧zbm H h a u
 | .tbl ps=>h.get? a=some {cls:= .none,data:= .fields ps}
 | .met f x=>h.get? a=some (PySem.W.methodObj (.ref f) (.ref x))
 | .ext φ=>φ h∧(∃o,h.get? a=some o)∧ ∀h1 h2:Heap,φ h1→(∀o,h1.get? a=some o→h2.get? a=some o)→φ h2
def HOk(H:Hp)(h:Heap):Prop:= ∀a o,H a=some o→zbm P w H h a o
end
section
variable {P:Program} {w:World} {H H':Hp} {h h':Heap} {a:Addr} {o:HO}
theorem zbm.lt(x:zbm P w H h a o):a<h.objs.size:=by
 cases o with
 |lst xs=>obtain⟨_,_,_,_,e⟩:=x;exact Heap.lt_size e
 |tup xs=>obtain⟨_,_,_,p⟩:=x;exact p.lt
 |dK kvs=>obtain⟨_,_,_,_,o,_,_,e,_⟩:=x;exact Heap.lt_size e
 |dT kvs=>obtain⟨_,_,_,_,o,_,_,e,_⟩:=x;exact Heap.lt_size e
 |set S n=>obtain⟨o,_,_,_,e,_⟩:=x;exact Heap.lt_size e
 |ins C dx fs=>obtain⟨_,_,_,e,_⟩:=x;exact Heap.lt_size e
 |own y=>obtain⟨_,e⟩:=x;exact Heap.lt_size e
 |xd fs=>obtain⟨_,⟨_,_,_,e,_⟩,_⟩:=x;exact Heap.lt_size e
 |rng lo hi=>obtain⟨_,_,_,e⟩:=x;exact Heap.lt_size e
 |frz ob u=>obtain⟨e,_⟩:=x;exact Heap.lt_size e
 |tbl ps=>exact Heap.lt_size (show h.get? a=some _ from x)
 |met f y=>exact Heap.lt_size (show h.get? a=some _ from x)
 |ext φ=>obtain⟨_,⟨_,e⟩,_⟩:=x;exact Heap.lt_size e
theorem Paired.mapP{α β:Type}{F G:α→β→Prop}: ∀{l₁:List α} {l₂:List β},Paired F l₁ l₂→(∀a b,F a b→G a b)→Paired G l₁ l₂
 |_,_, .nil,_=> .nil
 |_,_, .cons r t,f=> .cons (f _ _ r) (Paired.mapP t f)
theorem zbm.stay(x:zbm P w H h a o)(k: ∀b u,(b=a∨H b=some (.own a))→h.get? b=some u→h'.get? b=some u)
  (ho: ∀b,H b=some (.own a)→H' b=some (.own a)) (ht: ∀b xs,H b=some (.tup xs)→H' b=some (.tup xs)):zbm P w H' h' a o:=by
 induction o with
 |lst xs=>obtain⟨z,its,n,r,e⟩:=x;exact⟨z,its,n,r,k _ _ (.inl rfl) e⟩
 |tup xs=>obtain⟨z,its,r,ob,e,c⟩:=x;exact⟨z,its,r,ob,k _ _ (.inl rfl) e,c⟩
 |dK kvs=>obtain⟨z,y,vs,r,ob,es,ep,e,c⟩:=x;exact⟨z,y,vs,r,ob,es,ep,k _ _ (.inl rfl) e,c⟩
 |dT kvs=>
  obtain⟨z,y,xs,r,ob,es,ep,e,c⟩:=x;exact⟨z,y,xs,Paired.mapP r fun p q z=>⟨z.1,ht _ _ z.2.1,z.2.2⟩,ob,es,ep,k _ _ (.inl rfl) e,c⟩
 |set S n=>obtain⟨ob,es,ep,t,e,c⟩:=x;exact⟨ob,es,ep,t,k _ _ (.inl rfl) e,c⟩
 |ins C dx fs=>
  obtain⟨d,z,ne,e,mA,⟨od,es,ep,e2,c⟩,r⟩:=x;exact⟨ho _ d,z,ne,k _ _ (.inl rfl) e,mA,⟨od,es,ep,k _ _ (.inr d) e2,c⟩,r⟩
 |own y=>obtain⟨ob,e⟩:=x;exact⟨ob,k _ _ (.inl rfl) e⟩
 |xd fs=>obtain⟨mA,⟨od,es,ep,e,c⟩,r⟩:=x;exact⟨mA,⟨od,es,ep,k _ _ (.inl rfl) e,c⟩,r⟩
 |rng lo hi=>obtain⟨t,u,v,e⟩:=x;exact⟨t,u,v,k _ _ (.inl rfl) e⟩
 |frz ob u ih=>obtain⟨e,q⟩:=x;exact⟨k _ _ (.inl rfl) e,ih q⟩
 |tbl ps=>
  have e:h.get? a=some {cls:= .none,data:= .fields ps}:=x;show h'.get? a=some {cls:= .none,data:= .fields ps};exact k a _ (.inl rfl) e
 |met f y=>
  have e:h.get? a=some (PySem.W.methodObj (.ref f) (.ref y)):=x;show h'.get? a=some (PySem.W.methodObj (.ref f) (.ref y));exact k a _ (.inl rfl) e
 |ext φ=>obtain⟨p,⟨o,e⟩,st⟩:=x;exact⟨st _ _ p fun o q=>k _ _ (.inl rfl) q,⟨o,k _ _ (.inl rfl) e⟩,st⟩
theorem HOk.lt(x:HOk P w H h)(e:H a=some o):a<h.objs.size:=(x a o e).lt
theorem HOk.fresh(x:HOk P w H h)(e:h.objs.size≤a):H a=none:=by
 cases q:H a with
 |none=>rfl
 |some u=>exact absurd (Nat.lt_of_lt_of_le (x.lt q) e) (Nat.lt_irrefl _)
theorem HOk.kept(x:HOk P w H h)(k: ∀b u,h.get? b=some u→h'.get? b=some u):HOk P w H h':=fun a o e=>
 (x a o e).stay (fun b u _ q=>k b u q) (fun _ q=>q) fun _ _ q=>q
theorem HOk.laid(x:HOk P w H h)(k: ∀b u,h.get? b=some u→h'.get? b=some u)(hp:h.objs.size≤a)(new:zbm P w (upd H a o) h' a o):HOk P w (upd H a o) h':=fun b u e=>by
 have hn:=x.fresh hp;by_cases hb:b=a
 ·subst hb;rw[zat] at e;cases e;exact new
 ·rw[zaO hb] at e;exact(x b u e).stay (fun c v _ q=>k c v q) (fun c q=>by rw[zaO (zbg q hn)];exact q) fun c xs q=>by rw[zaO (zbg q hn)];exact q
end
def Rd(H:Hp)(a:Addr)(u:HO):Prop:=H a=some u∨ ∃o,H a=some (.frz o u)
theorem Rd.of{H:Hp}{a:Addr}{u:HO}(h:H a=some u):Rd H a u:= .inl h
theorem Rd.ok{P:Program}{w:World}{H:Hp}{h:Heap}{a:Addr}{u:HO}(r:Rd H a u)(x:HOk P w H h):zbm P w H h a u:=by
 rcases r with r|⟨o,r⟩
 ·exact x a u r
 ·obtain⟨_,q⟩:=x a _ r;exact q
def Mut:Option HO→Prop
 |some (.lst _)=>True
 |some (.dK _)=>True
 |some (.dT _)=>True
 |some (.set _ _)=>True
 |some (.ins _ _ _)=>True
 |some (.ext _)=>True
 |_=>False
section
variable {P:Program} {w:World} {H:Hp} {h h':Heap} {x e:Addr} {o':HO}
theorem HOk.write(ok:HOk P w H h)(mu:Mut (H x))(he:e=x∨H e=some (.own x))(k: ∀b u,b≠e→h.get? b=some u→h'.get? b=some u)(heo: ∃u,h'.get? e=some u)
  (new:zbm P w (upd H x o') h' x o'):HOk P w (upd H x o') h':=fun b u q=>by
 have nown: ∀c y,H c=some (.own y)→c≠x:=fun c y r z=>by subst z;rw[r] at mu;exact mu
 have ntup: ∀c xs,H c=some (.tup xs)→c≠x:=fun c xs r z=>by subst z;rw[r] at mu;exact mu
 by_cases hb:b=x
 ·subst hb;rw[zat] at q;cases q;exact new
 ·rw[zaO hb] at q;by_cases hbe:b=e
  ·have q':H b=some (.own x):=by
    rcases he with z|z
    ·exact absurd (hbe.trans z) hb
    ·rw[hbe];exact z
   rw[q] at q';cases q';obtain⟨v,hv⟩:=heo;exact⟨v,by rw[hbe];exact hv⟩
  ·refine(ok b u q).stay (fun c v hc r=>k c v ?_ r) (fun c r=>by rw[zaO (nown c b r)];exact r) fun c xs r=>by rw[zaO (ntup c xs r)];exact r
   rcases hc with rfl|hc
   ·exact hbe
   ·rintro rfl;rcases he with z|z
    ·exact nown c b hc z
    ·rw[hc] at z;cases z;exact hb rfl
end
structure Un (fs ex:List Addr) (H H':Hp) (h h':Heap):Prop where
 keep: ∀b o,h.get? b=some o→H b=none→b∉fs→b∉ex→h'.get? b=some o
 slot: ∀b o,h.get? b=some o→H b=none→b∈fs→b∉ex→ ∃sl,h'.get? b=some {o with slots:=sl}
 free: ∀b o,h.get? b=some o→H b=none→b∉ex→H' b=none
 there: ∀b o,h.get? b=some o→b∉ex→ ∃o',h'.get? b=some o'
 tups: ∀b xs,H b=some (.tup xs)→H' b=some (.tup xs)
 frzs: ∀b o u,H b=some (.frz o u)→H' b=some (.frz o u)
 tbls: ∀b ps,H b=some (.tbl ps)→ ∃more,H' b=some (.tbl (ps++more))
section
variable {fs fs' ex ex':List Addr} {H H1 H2:Hp} {h h1 h2 h':Heap} {a x e:Addr} {o:HO}
theorem Un.any(u:Un fs ex H H1 h h1){b:Addr}{ob:Obj}(q:h.get? b=some ob)(n:H b=none)(hx:b∉ex): ∃sl,h1.get? b=some {ob with slots:=sl}:=by
 by_cases hb:b∈fs
 ·exact u.slot b ob q n hb hx
 ·exact⟨ob.slots,u.keep b ob q n hb hx⟩
theorem Un.trans(a:Un fs ex H H1 h h1)(b:Un fs ex H1 H2 h1 h2):Un fs ex H H2 h h2 where
 keep:=fun c ob q n hc hx=>b.keep c ob (a.keep c ob q n hc hx) (a.free c ob q n hx) hc hx
 slot:=fun c ob q n hc hx=>by
  obtain⟨sl,e1⟩:=a.slot c ob q n hc hx;obtain⟨sl',e2⟩:=b.slot c _ e1 (a.free c ob q n hx) hc hx;exact⟨sl',e2⟩
 free:=fun c ob q n hx=>by
  obtain⟨o',e1⟩:=a.there c ob q hx;exact b.free c o' e1 (a.free c ob q n hx) hx
 there:=fun c ob q hx=>by
  obtain⟨o',e1⟩:=a.there c ob q hx;exact b.there c o' e1 hx
 tups:=fun c xs q=>b.tups c xs (a.tups c xs q)
 frzs:=fun c ob xs q=>b.frzs c ob xs (a.frzs c ob xs q)
 tbls:=fun c ps q=>by
  obtain⟨m1,e1⟩:=a.tbls c ps q;obtain⟨m2,e2⟩:=b.tbls c _ e1;exact⟨m1++m2,by rw[e2,Array.append_assoc]⟩
theorem Un.kept(k: ∀b u,h.get? b=some u→h'.get? b=some u):Un fs ex H H h h':=
 ⟨fun b ob q _ _ _=>k b ob q,fun b ob q _ _ _=>⟨ob.slots,k b ob q⟩,fun _ _ _ n _=>n,fun b ob q _=>⟨ob,k b ob q⟩,fun _ _ q=>q,fun _ _ _ q=>q,fun _ ps q=>⟨#[],by rw[q];simp⟩⟩
theorem Un.refl:Un fs ex H H h h:=Un.kept fun _ _ q=>q
theorem Un.laid(k: ∀b u,h.get? b=some u→h'.get? b=some u)(hp:h.objs.size≤a)(hn:H a=none):Un fs ex H (upd H a o) h h' where
 keep:=fun b u q _ _ _=>k b u q
 slot:=fun b u q _ _ _=>⟨u.slots,k b u q⟩
 free:=fun b u q n _=>by rw[zaO (Nat.ne_of_lt (Nat.lt_of_lt_of_le (Heap.lt_size q) hp))];exact n
 there:=fun b u q _=>⟨u,k b u q⟩
 tups:=fun b xs q=>by rw[zaO (zbg q hn)];exact q
 frzs:=fun b u xs q=>by rw[zaO (zbg q hn)];exact q
 tbls:=fun b ps q=>⟨#[],by rw[zaO (zbg q hn),q];simp⟩
theorem Un.write(mu:Mut (H x))(he:e=x∨H e=some (.own x))(k: ∀b u,b≠e→h.get? b=some u→h'.get? b=some u)(heo: ∃u,h'.get? e=some u):Un fs ex H (upd H x o) h h':=by
 have hx: ∀b,H b=none→b≠x:=fun b n z=>by subst z;rw[n] at mu;exact mu
 have hb: ∀b,H b=none→b≠e:=fun b n z=>by
  subst z;rcases he with r|r
  ·exact hx b n r
  ·rw[n] at r;cases r
 have hm: ∀b u,H b=some u→ ¬Mut (some u)→b≠x:=fun b u q nm z=>by subst z;rw[q] at mu;exact nm mu
 refine⟨fun b u q n _ _=>k b u (hb b n) q,fun b u q n _ _=>⟨u.slots,k b u (hb b n) q⟩,fun b u q n _=>by rw[zaO (hx b n)];exact n,fun b u q _=> ?_,
  fun b xs q=>by rw[zaO (hm b _ q fun z=>z)];exact q,fun b u xs q=>by rw[zaO (hm b _ q fun z=>z)];exact q,fun b ps q=>⟨#[],by rw[zaO (hm b _ q fun z=>z),q];simp⟩⟩
 by_cases hbe:b=e
 ·subst hbe;exact heo
 ·exact⟨u,k b u hbe q⟩
theorem Un.mono(u:Un fs ex H H1 h h1)(hs: ∀b∈fs,b∈fs')(hx: ∀b∈ex,b∈ex'):Un fs' ex' H H1 h h1:=
 ⟨fun b ob q n hb he=>u.keep b ob q n (fun z=>hb (hs b z)) fun z=>he (hx b z),fun _ _ q n _ he=>u.any q n fun z=>he (hx _ z),fun b ob q n he=>u.free b ob q n fun z=>he (hx b z),fun b ob q he=>u.there b ob q fun z=>he (hx b z),u.tups,u.frzs,u.tbls⟩
end
def trk(h:Heap)(H:Hp):List Addr:=(List.range h.objs.size).filter fun a=>(H a).isSome
def zfj(h:Heap)(H:Hp):Heap:=PySem.W.hideAll h (trk h H)
theorem zhd(h:Heap)(H:Hp):(zfj h H).objs.size=h.objs.size:=PySem.W.hideAll_size _ _
theorem zhL{h:Heap}{H:Hp}{b:Addr}{o:Obj}(e:h.get? b=some o)(n:H b=none):(zfj h H).get? b=some o:=
 PySem.W.hideAll_get _ e fun hm=>by
  have q:(H b).isSome=true:=(List.mem_filter.mp hm).2;rw[n] at q;simp at q
theorem ziI{h:Heap}{H:Hp}{b:Addr}{o:Obj}(e:(zfj h H).get? b=some o):h.get? b=some o∧H b=none:=by
 have e':h.get? b=some o:=PySem.W.of_hideAll (trk h H) e;refine⟨e',?_⟩;cases q:H b with
 |none=>rfl
 |some x=>
  have hm:b∈trk h H:=List.mem_filter.mpr ⟨List.mem_range.mpr (Heap.lt_size e'),by simp [q]⟩;have z:(zfj h H).get? b=none:=PySem.W.hideAll_none (trk h H) hm;rw[z] at e;cases e
def ziJ(g h:Heap)(L:Addr):List (Addr×Obj):=(List.range h.objs.size).filterMap fun a=>if a=L∨(g.get? a).isSome=true then none else (h.get? a).map fun o=>(a,o)
def rest(g h:Heap)(L d:Addr):List (Addr×Obj):=(ziJ g h L).filter fun p=>decide (p.1≠d)
end L2
namespace L2
open PySem PySem.Spec PyProof.Rows
structure Mod (K:Fg) (mg:Str→Option Value) (base:Heap):Prop where
 kin:K.In base
 glob:base.Ns mainGlobals mg
 blt: ∃mb,base.Ns builtinsNs mb∧ ∀x:Str,x≠"__name__"→mb x=bootBuiltins x
 nolimit:base.NoLimit
set_option genInjectivity false in
set_option genSizeOf false in
structure Cx where
 prog:Program
 w:World
 K:Fg
 mg:Str→Option Value
 base:Heap
 A:Around
 N:List Str
 s₀:Shared
 H₀:Hp
 env:Env
 outer:List Env
 stack:List Env
 ex:List Addr
 fn:Str→Bool
 calm:Bool
 pn:List (Addr×Obj)
 xe:Value→Shared→Prop
def frs(l:List Env):List Addr:=l.filterMap (·.frame)
abbrev Cx.fs(X:Cx):List Addr:=frs X.outer
def Vis(sc:Scope)(x:Str):Prop:=sc.names.lookup x=some .local∨sc.names.lookup x=some .cell∨sc.names.lookup x=some .free
def Loc(sc:Scope)(x:Str):Prop:=sc.names.lookup x=some .local∨sc.names.lookup x=some .cell
def zkV(env:Env)(h:Heap)(m:Str→Option Value)(x:Str)(u:Value):Prop:=
 (env.kindOf x=some .local∧m x=some u)∨((env.kindOf x=some .cell∨env.kindOf x=some .free)∧ ∃c,env.cells.lookup x=some c∧h.IsCell c (some u))
structure Cx.Ok (X:Cx):Prop where
 mod:Mod X.K X.mg X.base
 kind:X.env.scope.kind= .function
 glob:X.env.globals=mainGlobals
 blt:X.env.builtins=builtinsNs
 above:X.s₀.heap.objs.size≤X.env.locals
 inj: ∀x y c,X.env.cells.lookup x=some c→X.env.cells.lookup y=some c→x=y
 has: ∀x,(X.env.kindOf x=some .cell∨X.env.kindOf x=some .free)→ ∃c,X.env.cells.lookup x=some c
 cab: ∀x c,X.fn x=true→X.env.cells.lookup x=some c→X.s₀.heap.objs.size≤c
 hd:X.calm=true→X.A.handled=none
 frames:X.A.frames=some X.stack
 stk:X.stack=X.outer∨(X.stack=X.env::X.outer∧X.env.frame=some X.env.locals)
 exf: ∀b∈X.ex,b≠X.env.locals∧ ∀x c,X.env.cells.lookup x=some c→c≠b
 bs: ∀b o,X.base.get? b=some o→X.s₀.heap.get? b=some o∧X.H₀ b=none
 bsz:X.base.objs.size≤X.s₀.heap.objs.size
 noex: ∀b o,X.base.get? b=some o→b∉X.ex
 exfs: ∀b∈X.ex,b∉X.fs
 funs:X.s₀.heap.FunFrames X.base X.outer
 frf: ∀b∈X.fs,X.H₀ b=none
structure Inv (X:Cx) (pins:List (Addr×Obj)) (σ:List (Option V)) (H:Hp) (s:Shared):Prop where
 ok:X.Ok
 os:s.os=X.s₀.os
 bare:AllBare s.gens
 base:Un X.fs X.ex X.H₀ H X.s₀.heap s.heap
 loc: ∃m,s.heap.Ns X.env.locals m∧ ∀(i:Nat) (x:Str) (v:V),X.N[i]? =some x→σ[i]? =some (some v)→Vis X.env.scope x→ ∃u,zaB v u∧zkV X.env s.heap m x u
 cell: ∀x c,X.env.cells.lookup x=some c→ ∃v,s.heap.IsCell c v
 free:H X.env.locals=none
 freeC: ∀x c,X.env.cells.lookup x=some c→H c=none
 pin: ∀p∈X.pn++pins,s.heap.get? p.1=some p.2∧H p.1=none∧p.1≠X.env.locals∧p.1∉X.fs∧ ∀v,p.2.data≠ .cell v
 hok:HOk X.prog X.w H s.heap
 len:σ.length=X.N.length
section
variable {X:Cx} {pins:List (Addr×Obj)} {σ:List (Option V)} {H H':Hp} {s:Shared} {h':Heap}
theorem Cx.Ok.nofr(ok:X.Ok){b:Addr}{o:Obj}(e:X.base.get? b=some o):b∉X.fs:=fun hb=>by
 have:=(ok.funs.mem hb).1;rw[e] at this;cases this
theorem Inv.bs(I:Inv X pins σ H s): ∀b o,X.base.get? b=some o→s.heap.get? b=some o∧H b=none:=fun b o e=>
 ⟨I.base.keep b o (I.ok.bs b o e).1 (I.ok.bs b o e).2 (I.ok.nofr e) (I.ok.noex b o e),I.base.free b o (I.ok.bs b o e).1 (I.ok.bs b o e).2 (I.ok.noex b o e)⟩
theorem Inv.bk(I:Inv X pins σ H s): ∀b o,X.base.get? b=some o→s.heap.get? b=some o:=fun b o e=>(I.bs b o e).1
theorem Inv.mod(I:Inv X pins σ H s):Mod X.K X.mg X.base:=I.ok.mod
theorem Inv.kIn(I:Inv X pins σ H s):X.K.In s.heap:=I.ok.mod.kin.keeps I.bk
theorem Inv.nolimit(I:Inv X pins σ H s):s.heap.NoLimit:=I.ok.mod.nolimit.keeps I.bk
theorem Inv.fr(I:Inv X pins σ H s): ∃m,Fr X.base X.env.locals s.heap m:=
 let ⟨m,hn,_⟩:=I.loc
 ⟨m,hn,I.bk,Nat.le_trans I.ok.bsz I.ok.above⟩
theorem Inv.lt(I:Inv X pins σ H s):X.env.locals<s.heap.objs.size:=let ⟨_,hn,_⟩:=I.loc;hn.lt
theorem Inv.sz(I:Inv X pins σ H s):X.s₀.heap.objs.size≤s.heap.objs.size:=Nat.le_trans I.ok.above (Nat.le_of_lt I.lt)
theorem Inv.nofs(I:Inv X pins σ H s){a:Addr}(h:s.heap.objs.size≤a):a∉X.fs:=fun hb=>by
 obtain⟨_,o,ho,_⟩:=I.ok.funs.mem hb;exact absurd (Nat.lt_of_lt_of_le (Heap.lt_size ho) (Nat.le_trans I.sz h)) (Nat.lt_irrefl _)
theorem Inv.cne(I:Inv X pins σ H s): ∀x c,X.env.cells.lookup x=some c→c≠X.env.locals:=fun x c e z=>by
 obtain⟨v,o,ho,hd⟩:=I.cell x c e;obtain⟨m,⟨o',es,ep,ho',hd',_⟩,_⟩:=I.loc;rw[z,ho'] at ho;cases ho;rw[hd'] at hd;cases hd
theorem Inv.funs(I:Inv X pins σ H s):s.heap.FunFrames X.base X.outer:=by
 have all: ∀(l:List Env),(∀b∈frs l,b∈X.fs)→X.s₀.heap.FunFrames X.base l→s.heap.FunFrames X.base l:=by
  intro l;induction l with
  |nil=>intro _ _;trivial
  |cons env r ih=>
   intro hs hl;obtain⟨hk,⟨L,o,hf,hn,ho,hd⟩,hr⟩:=hl;have hL:L∈X.fs:=hs L (by unfold frs;rw[List.filterMap_cons,hf];exact List.mem_cons_self);obtain⟨sl,e⟩:=I.base.slot L o ho (I.ok.frf L hL) hL fun z=>I.ok.exfs L z hL;exact⟨hk,⟨L,_,hf,hn,e,hd⟩,ih (fun b hb=>hs b (by unfold frs;rw[List.filterMap_cons,hf];exact List.mem_cons_of_mem _ hb)) hr⟩
 exact all X.outer (fun _ hb=>hb) I.ok.funs
theorem Inv.stack(I:Inv X pins σ H s):s.heap.FunFrames X.base X.stack:=by
 rcases I.ok.stk with e|⟨e,hf⟩
 ·rw[e];exact I.funs
 ·rw[e];obtain⟨m,hn,_⟩:=I.loc;refine .cons (by rw[I.ok.kind];decide) hf hn ?_ I.funs;exact Heap.get?_none_of_le (Nat.le_trans I.ok.bsz I.ok.above)
theorem Inv.stkSub(I:Inv X pins σ H s): ∀b∈frs X.stack,b∈X.env.locals::X.fs:=fun b hb=>by
 rcases I.ok.stk with e|⟨e,hf⟩
 ·rw[e] at hb;exact List.mem_cons_of_mem _ hb
 ·rw[e] at hb;unfold frs at hb;rw[List.filterMap_cons,hf] at hb;exact hb
theorem Inv.stkFree(I:Inv X pins σ H s): ∀b∈frs X.stack,H b=none:=fun b hb=>by
 rcases List.mem_cons.mp (I.stkSub b hb) with e|hb
 ·rw[e];exact I.free
 ·obtain⟨_,o,ho,_⟩:=I.ok.funs.mem hb;exact I.base.free b o ho (I.ok.frf b hb) fun z=>I.ok.exfs b z hb
theorem Inv.step{g':Array GenState}{t':Nat}{d':Drawn}{ch:List Addr}(I:Inv X pins σ H s)
  (hch: ∀b∈ch,(b∈X.ex∨X.s₀.heap.objs.size≤b)∧b≠X.env.locals∧(∀x c,X.env.cells.lookup x=some c→c≠b)∧ ∀p∈X.pn++pins,p.1≠b)
  (keep: ∀b o,b≠X.env.locals→b∉X.fs→b∉ch→s.heap.get? b=some o→H b=none→h'.get? b=some o)
  (slot: ∀b o,b≠X.env.locals→b∈X.fs→b∉ch→s.heap.get? b=some o→H b=none→ ∃sl,h'.get? b=some {o with slots:=sl}) (free: ∀b o,b∉ch→s.heap.get? b=some o→H b=none→H' b=none)
  (there: ∀b o,b∉ch→s.heap.get? b=some o→ ∃o',h'.get? b=some o')
  (tups: ∀b xs,H b=some (.tup xs)→H' b=some (.tup xs)) (frzs: ∀b o u,H b=some (.frz o u)→H' b=some (.frz o u)) (tbls: ∀b ps,H b=some (.tbl ps)→ ∃more,H' b=some (.tbl (ps++more)))
  (ns: ∀m,s.heap.Ns X.env.locals m→h'.Ns X.env.locals m) (hok:HOk X.prog X.w H' h') (hg:AllBare g'):
  Inv X pins σ H' {s with heap:=h',gens:=g',drawn:=d',toks:=t'}:=by
 have neL: ∀b o,X.s₀.heap.get? b=some o→b≠X.env.locals:=fun b o e=>Nat.ne_of_lt (Nat.lt_of_lt_of_le (Heap.lt_size e) I.ok.above);have neC: ∀b o,X.s₀.heap.get? b=some o→b∉X.ex→b∉ch:=fun b o e hx hb=>by
  rcases (hch b hb).1 with z|z
  ·exact hx z
  ·exact absurd (Nat.lt_of_lt_of_le (Heap.lt_size e) z) (Nat.lt_irrefl _)
 have cellK: ∀x c,X.env.cells.lookup x=some c→ ∀v,s.heap.IsCell c v→h'.IsCell c v:=fun x c e v ⟨o,ho,hd⟩=>by
  have nch:c∉ch:=fun z=>(hch c z).2.2.1 x c e rfl;by_cases hc:c∈X.fs
  ·obtain⟨sl,q⟩:=slot c o (I.cne x c e) hc nch ho (I.freeC x c e);exact⟨_,q,hd⟩
  ·exact⟨o,keep c o (I.cne x c e) hc nch ho (I.freeC x c e),hd⟩
 refine⟨I.ok,I.os,hg,⟨fun b o e n hb hx=> ?_,fun b o e n hb hx=> ?_,fun b o e n hx=> ?_,fun b o e hx=> ?_,fun b xs e=>tups b xs (I.base.tups b xs e),fun b o xs e=>frzs b o xs (I.base.frzs b o xs e),fun b ps e=> ?_⟩,?_,fun x c e=> ?_,?_,fun x c e=> ?_,fun p hp=> ?_,hok,I.len⟩
 ·exact keep b o (neL b o e) hb (neC b o e hx) (I.base.keep b o e n hb hx) (I.base.free b o e n hx)
 ·obtain⟨sl,e1⟩:=I.base.slot b o e n hb hx;obtain⟨sl',e2⟩:=slot b _ (neL b o e) hb (neC b o e hx) e1 (I.base.free b o e n hx);exact⟨sl',e2⟩
 ·obtain⟨o',e1⟩:=I.base.there b o e hx;exact free b o' (neC b o e hx) e1 (I.base.free b o e n hx)
 ·obtain⟨o',e1⟩:=I.base.there b o e hx;exact there b o' (neC b o e hx) e1
 ·obtain⟨m1,e1⟩:=I.base.tbls b ps e;obtain⟨m2,e2⟩:=tbls b _ e1;exact⟨m1++m2,by rw[e2,Array.append_assoc]⟩
 ·obtain⟨m,hn,hl⟩:=I.loc;refine⟨m,ns m hn,fun i x v e1 e2 e3=> ?_⟩;obtain⟨u,r,l⟩:=hl i x v e1 e2 e3;refine⟨u,r,?_⟩;rcases l with l|⟨k,c,e,z⟩
  ·exact .inl l
  ·exact .inr ⟨k,c,e,cellK x c e _ z⟩
 ·obtain⟨v,z⟩:=I.cell x c e;exact⟨v,cellK x c e v z⟩
 ·obtain⟨m,⟨o,_,_,ho,_⟩,_⟩:=I.loc;exact free _ o (fun z=>(hch _ z).2.1 rfl) ho I.free
 ·obtain⟨v,o,ho,hd⟩:=I.cell x c e;exact free c o (fun z=>(hch c z).2.2.1 x c e rfl) ho (I.freeC x c e)
 ·obtain⟨e,n,ne,nf,d⟩:=I.pin p hp;have nch:p.1∉ch:=fun z=>(hch p.1 z).2.2.2 p hp rfl;exact⟨keep p.1 p.2 ne nf nch e n,free p.1 p.2 nch e n,ne,nf,d⟩
theorem Inv.un{t':Nat}(I:Inv X pins σ H s)(u:Un X.fs [] H H' s.heap h')(hok:HOk X.prog X.w H' h'):Inv X pins σ H' {s with heap:=h',toks:=t'}:=by
 obtain⟨m,⟨o,es,ep,ho,r⟩,_⟩:=id I.loc;obtain⟨sl,hL⟩:=u.any ho I.free (by simp);exact I.step (g':=s.gens) (d':=s.drawn) (ch:= []) (fun _ z=>nomatch z) (fun b o _ hb _ e n=>u.keep b o e n hb (by simp)) (fun b o _ hb _ e n=>u.slot b o e n hb (by simp)) (fun b o _ e n=>u.free b o e n (by simp)) (fun b o _ e=>u.there b o e (by simp)) u.tups u.frzs u.tbls (fun m' hm=>by
  obtain⟨o',es',ep',ho',r'⟩:=hm;rw[ho] at ho';cases ho';exact⟨_,es',ep',hL,r'⟩) hok I.bare
theorem Inv.call{g':Array GenState}{t':Nat}{d':Drawn}{ch:List Addr}(I:Inv X pins σ H s)(u:Un (frs X.stack) ch H H' s.heap h')(hok:HOk X.prog X.w H' h')(hg:AllBare g')
  (hch: ∀b∈ch,(b∈X.ex∨X.s₀.heap.objs.size≤b)∧b≠X.env.locals∧(∀x c,X.env.cells.lookup x=some c→c≠b)∧ ∀p∈X.pn++pins,p.1≠b):
  Inv X pins σ H' {s with heap:=h',gens:=g',drawn:=d',toks:=t'}:=by
 obtain⟨m,⟨o,es,ep,ho,r⟩,_⟩:=id I.loc;obtain⟨sl,hL⟩:=u.any ho I.free fun z=>(hch _ z).2.1 rfl;exact I.step (ch:=ch) hch (fun b o hL hb hc e n=>u.keep b o e n (fun z=>(List.mem_cons.mp (I.stkSub b z)).elim hL hb) hc) (fun b o _ _ hc e n=>u.any e n hc) (fun b o hc e n=>u.free b o e n hc) (fun b o hc e=>u.there b o e hc) u.tups u.frzs u.tbls (fun m' hm=>by
  obtain⟨o',es',ep',ho',r'⟩:=hm;rw[ho] at ho';cases ho';exact⟨_,es',ep',hL,r'⟩) hok hg
theorem Inv.turned{t':Nat}{it:Addr}(I:Inv X pins σ H s)(k: ∀b o,b≠it→s.heap.get? b=some o→h'.get? b=some o)(hn:H it=none)(hL:it≠X.env.locals)
  (h1:it∈X.ex∨X.s₀.heap.objs.size≤it) (h2: ∀x c,X.env.cells.lookup x=some c→c≠it) (h3: ∀p∈X.pn++pins,p.1≠it):Inv X pins σ H {s with heap:=h',toks:=t'}:=by
 have nit: ∀b u,H b=some u→b≠it:=fun b u e z=>by rw[z,hn] at e;cases e
 refine I.step (g':=s.gens) (d':=s.drawn) (ch:= [it]) (fun b hb=> ?_) (fun b o _ _ hc e _=>k b o (fun z=>hc (by simp [z])) e) (fun b o _ _ hc e _=>⟨o.slots,k b o (fun z=>hc (by simp [z])) e⟩) (fun _ _ _ _ n=>n)
  (fun b o hc e=>⟨o,k b o (fun z=>hc (by simp [z])) e⟩) (fun _ _ e=>e) (fun _ _ _ e=>e) (fun b ps e=>⟨#[],by rw[e];simp⟩) (fun m hm=> ?_) (fun b u e=> ?_) I.bare
 ·have e:b=it:=by simpa using hb
  subst e;exact⟨h1,hL,h2,h3⟩
 ·obtain⟨o,es,ep,ho,r⟩:=hm;exact⟨o,es,ep,k _ o (Ne.symm hL) ho,r⟩
 ·refine(I.hok b u e).stay (fun c v hc q=>k c v ?_ q) (fun _ q=>q) fun _ _ q=>q;rcases hc with z|z
  ·rw[z];exact nit b u e
  ·exact nit c _ z
theorem Inv.tok(I:Inv X pins σ H s)(t:Nat):Inv X pins σ H {s with toks:=t}:=I.un (h':=s.heap) (t':=t) Un.refl I.hok
theorem Inv.kept{t':Nat}(I:Inv X pins σ H s)(k: ∀b u,s.heap.get? b=some u→h'.get? b=some u):Inv X pins σ H {s with heap:=h',toks:=t'}:=I.un (Un.kept k) (I.hok.kept k)
theorem Inv.laid{a:Addr}{o:HO}{t':Nat}(I:Inv X pins σ H s)(k: ∀b u,s.heap.get? b=some u→h'.get? b=some u)(hp:s.heap.objs.size≤a)(new:zbm X.prog X.w (upd H a o) h' a o):
  Inv X pins σ (upd H a o) {s with heap:=h',toks:=t'}:=I.un (Un.laid k hp (I.hok.fresh hp)) (I.hok.laid k hp new)
theorem Inv.write{x e:Addr}{o:HO}{t':Nat}(I:Inv X pins σ H s)(mu:Mut (H x))(he:e=x∨H e=some (.own x))(k: ∀b u,b≠e→s.heap.get? b=some u→h'.get? b=some u)(heo: ∃u,h'.get? e=some u)
  (new:zbm X.prog X.w (upd H x o) h' x o):Inv X pins σ (upd H x o) {s with heap:=h',toks:=t'}:=I.un (Un.write mu he k heo) (I.hok.write mu he k heo new)
theorem Inv.weak{σ':List (Option V)}(I:Inv X pins σ H s)(hl:σ'.length=σ.length)(w: ∀(i:Nat) v,σ'[i]? =some (some v)→σ[i]? =some (some v)):Inv X pins σ' H s:=
 ⟨I.ok,I.os,I.bare,I.base,let ⟨m,hn,hl'⟩:=I.loc;⟨m,hn,fun i x v e1 e2 e3=>hl' i x v e1 (w i v e2) e3⟩,I.cell,I.free,I.freeC,I.pin,I.hok,hl.trans I.len⟩
theorem Inv.pins_of{pins':List (Addr×Obj)}(I:Inv X pins σ H s)(h: ∀p∈pins',s.heap.get? p.1=some p.2∧H p.1=none∧p.1≠X.env.locals∧p.1∉X.fs∧ ∀v,p.2.data≠ .cell v):Inv X pins' σ H s:=
 ⟨I.ok,I.os,I.bare,I.base,I.loc,I.cell,I.free,I.freeC,fun p hp=>(List.mem_append.mp hp).elim (fun z=>I.pin p (List.mem_append_left _ z)) (h p),I.hok,I.len⟩
theorem zfP{N:List Str}(hN:N.Nodup){i j:Nat}{x:Str}(a:N[i]? =some x)(b:N[j]? =some x):i=j:=by
 obtain⟨h1,e1⟩:=List.getElem?_eq_some_iff.mp a;obtain⟨h2,e2⟩:=List.getElem?_eq_some_iff.mp b;exact(List.getElem_inj hN).mp (e1.trans e2.symm)
theorem zeT{M:Model}{A:Around}{E:Value→Shared→Prop}{i:Nat}{x:Str}{v:V}{u:Value}{Q:Unit→Shared→Prop}(I:Inv X pins σ H s)(hN:X.N.Nodup)(hi:X.N[i]? =some x)(hx:Loc X.env.scope x)(r:zaB v u)
  (h: ∀s',Inv X pins (σ.set i (some v)) H s'→(∃a,Heap.SameBut a s.heap s'.heap∧(a=X.env.locals∨X.env.cells.lookup x=some a))→Q () s') (hf:X.fn x=true∨X.env.scope.names.lookup x=some .local:=by first|exact .inl rfl|exact .inr rfl|assumption):wpAny M A (storeName X.env x u) Q E s:=by
 obtain⟨m,hn,hl⟩:=id I.loc;have hcls:(X.env.scope.kind== .class||(X.env.scope.kind== .module && X.env.locals !=X.env.globals))=false:=by rw[I.ok.kind];rfl
 have hiσ:i<σ.length:=by rw[I.len];exact(List.getElem?_eq_some_iff.mp hi).1
 have cne:=I.cne;have tracked: ∀{a:Addr} {h':Heap},(∃o,s.heap.get? a=some o∧H a=none)→Heap.SameBut a s.heap h'→HOk X.prog X.w H h':=fun {a h'} ha hs b ob e=>by
  obtain⟨_,_,hfree⟩:=ha;refine(I.hok b ob e).stay (fun c w' hc q=>(hs.2 c ?_).trans q) (fun _ q=>q) fun _ _ q=>q;rintro rfl;rcases hc with rfl|hc
  ·rw[hfree] at e;cases e
  ·rw[hfree] at hc;cases hc
 rcases hx with hk|hk
 ·refine wpAny_storeName_local hk hn (fun h' hn' hs=> ?_) hcls;obtain⟨oL,_,_,hoL,_⟩:=id hn;refine h _ ⟨I.ok,I.os,I.bare,⟨fun b o e n hb hx=> ?_,fun b o e n hb hx=> ?_,I.base.free,fun b o e hx=> ?_,I.base.tups,I.base.frzs,I.base.tbls⟩,⟨_,hn',fun j y v' e1 e2 e3=> ?_⟩,fun y c e=> ?_,I.free,I.freeC,fun p hp=> ?_,tracked ⟨oL,hoL,I.free⟩ hs,by simpa using I.len⟩ ⟨_,hs, .inl rfl⟩
  ·exact(hs.2 b (Nat.ne_of_lt (Nat.lt_of_lt_of_le (Heap.lt_size e) I.ok.above))).trans (I.base.keep b o e n hb hx)
  ·obtain⟨sl,e1⟩:=I.base.slot b o e n hb hx;exact⟨sl,(hs.2 b (Nat.ne_of_lt (Nat.lt_of_lt_of_le (Heap.lt_size e) I.ok.above))).trans e1⟩
  ·obtain⟨o',e1⟩:=I.base.there b o e hx;exact⟨o',(hs.2 b (Nat.ne_of_lt (Nat.lt_of_lt_of_le (Heap.lt_size e) I.ok.above))).trans e1⟩
  ·by_cases hj:j=i
   ·subst hj;rw[hi] at e1;cases e1;rw[List.getElem?_set_self hiσ] at e2;cases e2;exact⟨u,r, .inl ⟨hk,by simp⟩⟩
   ·rw[List.getElem?_set_ne (Ne.symm hj)] at e2;obtain⟨u',r',q⟩:=hl j y v' e1 e2 e3;refine⟨u',r',?_⟩;rcases q with⟨k,e⟩|⟨k,c,e,z⟩
    ·refine .inl ⟨k,?_⟩
     have:y≠x:=fun e=>hj (zfP hN e1 (e ▸ hi));simp [this,e]
    ·exact .inr ⟨k,c,e,z.sameBut hs (cne y c e)⟩
  ·obtain⟨w',z⟩:=I.cell y c e;exact⟨w',z.sameBut hs (cne y c e)⟩
  ·obtain⟨e,n,ne,nf,d⟩:=I.pin p hp;exact⟨(hs.2 p.1 ne).trans e,n,ne,nf,d⟩
 ·have hfn:X.fn x=true:=by
   rcases hf with z|z
   ·exact z
   ·rw[z] at hk;cases hk
  obtain⟨c,hc⟩:=I.ok.has x (.inl hk);obtain⟨w',z⟩:=I.cell x c hc;refine wpAny_storeName_cell I.ok.kind hk hc z (fun h' hc' hs=> ?_);obtain⟨oc,hoc,hocd⟩:=id z;refine h {s with heap:=h'} ⟨I.ok,I.os,I.bare,⟨fun b o e n hb hx=> ?_,fun b o e n hb hx=> ?_,I.base.free,fun b o e hx=> ?_,I.base.tups,I.base.frzs,I.base.tbls⟩,⟨m,hn.sameBut hs (Ne.symm (cne x c hc)),fun j y v' e1 e2 e3=> ?_⟩,fun y c' e=> ?_,I.free,I.freeC,fun p hp=> ?_,tracked ⟨oc,hoc,I.freeC x c hc⟩ hs,by simpa using I.len⟩ ⟨c,hs, .inr hc⟩
  ·exact(hs.2 b (Nat.ne_of_lt (Nat.lt_of_lt_of_le (Heap.lt_size e) (I.ok.cab x c hfn hc)))).trans (I.base.keep b o e n hb hx)
  ·obtain⟨sl,e1⟩:=I.base.slot b o e n hb hx;exact⟨sl,(hs.2 b (Nat.ne_of_lt (Nat.lt_of_lt_of_le (Heap.lt_size e) (I.ok.cab x c hfn hc)))).trans e1⟩
  ·obtain⟨o',e1⟩:=I.base.there b o e hx;exact⟨o',(hs.2 b (Nat.ne_of_lt (Nat.lt_of_lt_of_le (Heap.lt_size e) (I.ok.cab x c hfn hc)))).trans e1⟩
  ·by_cases hj:j=i
   ·subst hj;rw[hi] at e1;cases e1;rw[List.getElem?_set_self hiσ] at e2;cases e2;exact⟨u,r, .inr ⟨.inl hk,c,hc,hc'⟩⟩
   ·rw[List.getElem?_set_ne (Ne.symm hj)] at e2;obtain⟨u',r',q⟩:=hl j y v' e1 e2 e3;refine⟨u',r',?_⟩;rcases q with q|⟨k,c',e,z'⟩
    ·exact .inl q
    ·refine .inr ⟨k,c',e,z'.sameBut hs ?_⟩;rintro rfl;exact hj (zfP hN e1 (I.ok.inj _ _ _ e hc ▸ hi))
  ·by_cases hcc:c'=c
   ·subst hcc;exact⟨_,hc'⟩
   ·obtain⟨w2,z2⟩:=I.cell y c' e;exact⟨w2,z2.sameBut hs hcc⟩
  ·obtain⟨e,n,ne,nf,d⟩:=I.pin p hp;refine⟨(hs.2 p.1 ?_).trans e,n,ne,nf,d⟩;intro q;rw[q,hoc] at e;have q':oc=p.2:=Option.some.inj e;exact d w' (by rw[←q'];exact hocd)
theorem zdx{M:Model}{A:Around}{E:Value→Shared→Prop}{i:Nat}{x:Str}{v:V}{u:Value}{Q:Unit→Shared→Prop}(I:Inv X pins σ H s)(hN:X.N.Nodup)(hi:X.N[i]? =some x)(hx:Loc X.env.scope x)(r:zaB v u)
  (h: ∀s',Inv X pins (σ.set i (some v)) H s'→Q () s') (hf:X.fn x=true∨X.env.scope.names.lookup x=some .local:=by first|exact .inl rfl|exact .inr rfl|assumption):wpAny M A (storeName X.env x u) Q E s:=
 zeT I hN hi hx r (fun s' I' _=>h s' I') hf
theorem Inv.call'{s':Shared}{ch:List Addr}(I:Inv X pins σ H s)(ho:s'.os=s.os)(u:Un (frs X.stack) ch H H' s.heap s'.heap)(hok:HOk X.prog X.w H' s'.heap)(hg:AllBare s'.gens)
  (hch: ∀b∈ch,(b∈X.ex∨X.s₀.heap.objs.size≤b)∧b≠X.env.locals∧(∀x c,X.env.cells.lookup x=some c→c≠b)∧ ∀p∈X.pn++pins,p.1≠b):Inv X pins σ H' s':=by
 obtain⟨h',g',d',t',o'⟩:=s';have e:o'=s.os:=ho;subst e;exact I.call (g':=g') (t':=t') (d':=d') u hok hg hch
end
abbrev XK:=Value→Option Addr→Hp→Prop
abbrev St:=List (Option V)
abbrev VK:=V→Hp→Prop
abbrev TE:=St→Hp→VK→Prop
abbrev TT:=St→Hp→(Bool→Hp→Prop)→Prop
abbrev TA:=St→Hp→(List V→Hp→Prop)→Prop
structure Ends where
 nx:St→Hp→Prop
 rt:VK
 bk:St→Hp→Prop:=fun _ _=>False
 ct:St→Hp→Prop:=fun _ _=>False
abbrev TS:=Ends→St→Hp→Prop
def EP(X:Cx)(pins:List (Addr×Obj))(σ:St)(Q:VK)(u:Value)(s':Shared):Prop:= ∃v H',Inv X pins σ H' s'∧zaB v u∧Q v H'
def TP(X:Cx)(pins:List (Addr×Obj))(σ:St)(Q:Bool→Hp→Prop)(b:Bool)(s':Shared):Prop:= ∃H',Inv X pins σ H' s'∧Q b H'
def AP(X:Cx)(pins:List (Addr×Obj))(σ:St)(Q:List V→Hp→Prop)(us:List Value)(s':Shared):Prop:= ∃vs H',Inv X pins σ H' s'∧zaP vs us∧Q vs H'
def SP(X:Cx)(pins:List (Addr×Obj))(D:Ends)(f:Flow)(s':Shared):Prop:=
 match f with
 | .next=> ∃σ' H',Inv X pins σ' H' s'∧D.nx σ' H'
 | .brk=> ∃σ' H',Inv X pins σ' H' s'∧D.bk σ' H'
 | .cont=> ∃σ' H',Inv X pins σ' H' s'∧D.ct σ' H'
 | .ret u=> ∃v σ' H',Inv X pins σ' H' s'∧zaB v u∧D.rt v H'
def PE(X:Cx)(e:Expr)(t:TE):Prop:=
 ∀(pins:List (Addr×Obj)) (s:Shared) (σ:St) (H:Hp) (Q:VK),Inv X pins σ H s→t σ H Q→wpAny (model X.prog X.w) X.A (eval e X.env) (EP X pins σ Q) X.xe s
def PT(X:Cx)(e:Expr)(t:TT):Prop:=
 ∀(pins:List (Addr×Obj)) (s:Shared) (σ:St) (H:Hp) (Q:Bool→Hp→Prop),Inv X pins σ H s→t σ H Q→wpAny (model X.prog X.w) X.A (isTrue e X.env (eval e X.env)) (TP X pins σ Q) X.xe s
def PW(X:Cx)(e:Expr)(t:TT):Prop:=
 ∀(whole:Sem Value) (pins:List (Addr×Obj)) (s:Shared) (σ:St) (H:Hp) (Q:Bool→Hp→Prop),Inv X pins σ H s→t σ H Q→wpAny (model X.prog X.w) X.A (isTrue e X.env whole) (TP X pins σ Q) X.xe s
theorem PW.pt{X:Cx}{e:Expr}{t:TT}(h:PW X e t):PT X e t:=h _
def PA(X:Cx)(es:List Expr)(t:TA):Prop:=
 ∀(pos:Pos) (pins:List (Addr×Obj)) (s:Shared) (σ:St) (H:Hp) (Q:List V→Hp→Prop),Inv X pins σ H s→t σ H Q→wpAny (model X.prog X.w) X.A (spliced (backTo pos (starEach es X.env))) (AP X pins σ Q) X.xe s
def PS(X:Cx)(st:Stmt)(t:TS):Prop:=
 ∀(pins:List (Addr×Obj)) (s:Shared) (σ:St) (H:Hp) (D:Ends),Inv X pins σ H s→t D σ H→wpAny (model X.prog X.w) X.A (exec st X.env) (SP X pins D) X.xe s
def PSs(X:Cx)(st:List Stmt)(t:TS):Prop:=
 ∀(pins:List (Addr×Obj)) (s:Shared) (σ:St) (H:Hp) (D:Ends),Inv X pins σ H s→t D σ H→wpAny (model X.prog X.w) X.A (execs st X.env) (SP X pins D) X.xe s
theorem thn{α:Type}{t:Sem α}{Q Q':α→Shared→Prop}{M:Model}{A:Around}{E:Value→Shared→Prop}{s:Shared}(h:wpAny M A t Q E s)(hQ: ∀a s,Q a s→Q' a s):wpAny M A t Q' E s:=wpAny_mono h hQ fun _ _ x=>x
end L2
namespace L2
open PySem PySem.Spec PyProof.Rows
section
variable {X:Cx}
def zbR(i:Nat):TE:=fun σ H Q=> ∃v,σ[i]? =some (some v)∧Q v H
def tC(v:V):TE:=fun _ H Q=>Q v H
theorem zjz{i:Nat}{x:Str}{pos:Pos}(hN:X.N[i]? =some x)(hv:Vis X.env.scope x)(hd:(x==("__debug__":Str))=false:=by decide)(hcd:(x==("__classdict__":Str))=false:=by decide):PE X (.Name x pos) (zbR i):=by
 intro pins s σ H Q I h;obtain⟨v,e,h⟩:=h;obtain⟨m,hn,hl⟩:=I.loc;obtain⟨u,r,l⟩:=hl i x v hN e hv;have fin:EP X pins σ Q u s:=⟨v,H,I,r,h⟩
 rcases l with⟨hk,hm⟩|⟨hk,c,hc,hcell⟩
 ·exact wpAny_Name (wpAny_loadName_local I.ok.kind hk hn hm fin) hd
 ·rcases hk with hk|hk
  ·exact wpAny_Name (wpAny_loadName_cell I.ok.kind hk hc hcell fin) hd
  ·exact wpAny_Name (wpAny_loadName_free I.ok.kind hk hc hcell fin hcd) hd
theorem zae{i j pos}:PE X (.Constant (.int i) j pos) (tC (.int i)):=fun _ _ _ H _ I h=>wpAny_Constant_int ⟨.int i,H,I.tok _,⟨_,rfl⟩,h⟩
theorem zcl{b j pos}:PE X (.Constant (.bool b) j pos) (tC (.bl b)):=fun _ _ _ H _ I h=>Constant_bool ⟨.bl b,H,I,rfl,h⟩
theorem zbP{x j pos}:PE X (.Constant (.str x) j pos) (tC (.str x)):=fun _ _ _ H _ I h=>Calls.Constant_str ⟨.str x,H,I.tok _,⟨_,rfl⟩,h⟩
def Gl(X:Cx)(x:Str):Prop:=X.env.kindOf x=some .globalImplicit
theorem zec{E:Value→Shared→Prop}{pins:List (Addr×Obj)}{s:Shared}{σ:St}{H:Hp}{x:Str}{u:Value}{pos:Pos}{Q:Value→Shared→Prop}(I:Inv X pins σ H s)(hg:Gl X x)(hm:X.mg x=some u)(h:Q u s)
  (hd:(x==("__debug__":Str))=false:=by decide):wpAny (model X.prog X.w) X.A (eval (.Name x pos) X.env) Q E s:=
 Calls.Name_function_global I.ok.kind hg (Calls.loadGlobal_global (by rw[I.ok.glob];exact I.mod.glob.keeps I.bk) hm h) hd
theorem zdM{E:Value→Shared→Prop}{pins:List (Addr×Obj)}{s:Shared}{σ:St}{H:Hp}{x:Str}{u:Value}{pos:Pos}{Q:Value→Shared→Prop}(I:Inv X pins σ H s)(hg:Gl X x)(hm:X.mg x=none)(hv:bootBuiltins x=some u)(h:Q u s)
  (hn:x≠"__name__":=by decide) (hd:(x==("__debug__":Str))=false:=by decide):wpAny (model X.prog X.w) X.A (eval (.Name x pos) X.env) Q E s:=by
 obtain⟨mb,h1,h2⟩:=I.mod.blt;exact Calls.Name_function_global I.ok.kind hg (Calls.loadGlobal_builtin (by rw[I.ok.glob];exact I.mod.glob.keeps I.bk) hm (by rw[I.ok.blt];exact h1.keeps I.bk) ((h2 x hn).trans hv) h) hd
theorem zbe{x:Str}{v:V}{u:Value}{pos:Pos}(hg:Gl X x)(hm:X.mg x=some u)(r:zaB v u)(hd:(x==("__debug__":Str))=false:=by decide):PE X (.Name x pos) (tC v):=
 fun _ _ _ H _ I h=>zec I hg hm ⟨v,H,I,r,h⟩ hd
theorem ziK{x:Str}{v:V}{u:Value}{pos:Pos}(hg:Gl X x)(hm:X.mg x=none)(hv:bootBuiltins x=some u)(r:zaB v u)(hn:x≠"__name__":=by decide)(hd:(x==("__debug__":Str))=false:=by decide):PE X (.Name x pos) (tC v):=
 fun _ _ _ H _ I h=>zdM I hg hm hv ⟨v,H,I,r,h⟩ hn hd
variable {a b:Expr} {ta tb:TE} {pos:Pos}
def PC(X:Cx)(op:CmpOp)(a b:Expr)(t:TE):Prop:=
 ∀(pins:List (Addr×Obj)) (s:Shared) (σ:St) (H:Hp) (Q:VK),Inv X pins σ H s→t σ H Q→
  wpAny (model X.prog X.w) X.A (eval a X.env) (fun v s₁=>wpAny (model X.prog X.w) X.A (eval b X.env) (fun u s₂=>wpAny (model X.prog X.w) X.A (compareOp op v u) (EP X pins σ Q) X.xe s₂) X.xe s₁) X.xe s
theorem zhM(b:Expr){op:CmpOp}(h:op≠ .In)(h2:op≠ .NotIn):behindInMarks op b=false:=by
 have e1:(op==CmpOp.In)=false:=by cases op<;>first|rfl|exact absurd rfl h
 have e2:(op==CmpOp.NotIn)=false:=by cases op<;>first|rfl|exact absurd rfl h2
 cases b<;>simp [behindInMarks,e1,e2]
def tB(t:TE):TT:=fun σ H Q=>t σ H fun x H1=> ∃c,x= .bl c∧Q c H1
theorem zjA{op:CmpOp}{t:TE}(h:PC X op a b t)(h1:behindInMarks op b=false:=by first|exact zhM _ (by decide) (by decide)|rfl):PT X (.Compare a [op] [b] pos) (tB t):=by
 intro pins s σ H Q I hw;refine wpAny_isTrue_Compare1 (thn (h pins s σ H _ I hw) fun v s1 h1=>thn h1 fun u s2 h2=>thn h2 fun c s3 ⟨x,H1,I1,r1,q1⟩=> ?_) h1;obtain⟨d,rfl,q⟩:=q1;cases r1;exact wpAny_truthy_bool ⟨H1,I1,q⟩
theorem zbC{e:Expr}{t:TE}(h:PE X e t)(he: ∀whole,isTrue e X.env whole=(do let v←whole;standAt e.pos;holding [v] (truthy v)):=by intro _;rfl):PT X e (tB t):=by
 intro pins s σ H Q I hw
 refine isTrue_plain (thn (h pins s σ H _ I hw) fun v s1 ⟨x,H1,I1,r1,q1⟩=> ?_) (he _)
 obtain⟨d,rfl,q⟩:=q1
 cases r1
 exact wpAny_truthy_bool ⟨H1,I1,q⟩
variable {tA tB':TT} {rest:List Expr}
def zbX(t u:TT):TT:=fun σ H Q=>t σ H fun c H1=>if c=true then u σ H1 Q else Q false H1
def tOr(t u:TT):TT:=fun σ H Q=>t σ H fun c H1=>if c=true then Q true H1 else u σ H1 Q
def zbS(t:TT):TT:=fun σ H Q=>t σ H fun c H1=>Q (!c) H1
theorem ziL(ha:PT X a tA):PW X (.BoolOp .And [a] pos) tA:=by
 intro wh pins s σ H Q I h;refine isTrue_and (thn (ha pins s σ H Q I h) fun c s1 e=> ?_);cases c with
 |true=>exact isTrue_and_nil e
 |false=>exact e
theorem zcq(ha:PT X a tA):PW X (.BoolOp .Or [a] pos) tA:=by
 intro wh pins s σ H Q I h;refine isTrue_or (thn (ha pins s σ H Q I h) fun c s1 e=> ?_);cases c with
 |false=>exact isTrue_or_nil e
 |true=>exact e
theorem zjB(ha:PT X a tA)(hb:PW X (.BoolOp .And (b::rest) pos) tB'):PW X (.BoolOp .And (a::b::rest) pos) (zbX tA tB'):=by
 intro wh pins s σ H Q I h;refine isTrue_and (thn (ha pins s σ H _ I h) fun c s1 ⟨H1,I1,q1⟩=> ?_);cases c with
 |true=>exact hb wh pins s1 σ H1 Q I1 q1
 |false=>exact⟨H1,I1,q1⟩
theorem zcu(ha:PT X a tA)(hb:PW X (.BoolOp .Or (b::rest) pos) tB'):PW X (.BoolOp .Or (a::b::rest) pos) (tOr tA tB'):=by
 intro wh pins s σ H Q I h;refine isTrue_or (thn (ha pins s σ H _ I h) fun c s1 ⟨H1,I1,q1⟩=> ?_);cases c with
 |true=>exact⟨H1,I1,q1⟩
 |false=>exact hb wh pins s1 σ H1 Q I1 q1
theorem zcf(ha:PT X a tA):PT X (.UnaryOp .Not a pos) (zbS tA):=by
 intro pins s σ H Q I h;exact isTrue_not (ha pins s σ H (fun c H1=>Q (!c) H1) I h)
def zbn(ta tb:TE):TE:=fun σ H Q=>ta σ H fun x H1=> ∃c,x= .bl c∧if c=true then tb σ H1 Q else Q (.bl false) H1
def zbY(ta tb:TE):TE:=fun σ H Q=>ta σ H fun x H1=> ∃c,x= .bl c∧if c=true then Q (.bl true) H1 else tb σ H1 Q
def zbo(ta:TE):TE:=fun σ H Q=>ta σ H fun x H1=> ∃c,x= .bl c∧Q (.bl (!c)) H1
theorem zbZ{op}{t:TE}(h:PE X a t):PE X (.BoolOp op [a] pos) t:=fun pins s σ H Q I hw=>BoolOp_one (h pins s σ H Q I hw)
theorem zcg(ha:PE X a ta)(hb:PE X (.BoolOp .And (b::rest) pos) tb):PE X (.BoolOp .And (a::b::rest) pos) (zbn ta tb):=by
 intro pins s σ H Q I h;refine BoolOp_and (thn (ha pins s σ H _ I h) fun v s1 ⟨x,H1,I1,r1,q1⟩=> ?_);obtain⟨c,rfl,q1⟩:=q1;cases r1;refine wpAny_truthy_bool ?_;cases c with
 |true=>exact hb pins s1 σ H1 Q I1 q1
 |false=>exact⟨.bl false,H1,I1,rfl,q1⟩
theorem zgK(ha:PE X a ta)(hb:PE X (.BoolOp .Or (b::rest) pos) tb):PE X (.BoolOp .Or (a::b::rest) pos) (zbY ta tb):=by
 intro pins s σ H Q I h;refine BoolOp_or (thn (ha pins s σ H _ I h) fun v s1 ⟨x,H1,I1,r1,q1⟩=> ?_);obtain⟨c,rfl,q1⟩:=q1;cases r1;refine wpAny_truthy_bool ?_;cases c with
 |false=>exact hb pins s1 σ H1 Q I1 q1
 |true=>exact⟨.bl true,H1,I1,rfl,q1⟩
theorem zge(ha:PE X a ta):PE X (.UnaryOp .Not a pos) (zbo ta):=by
 intro pins s σ H Q I h;refine UnaryOp_ (thn (ha pins s σ H _ I h) fun v s1 ⟨x,H1,I1,r1,q1⟩=> ?_);obtain⟨c,rfl,q1⟩:=q1;cases r1;exact not_of (wpAny_truthy_bool ⟨.bl (!c),H1,I1,rfl,q1⟩)
def tIf(t:TT)(ta tb:TE):TE:=fun σ H Q=>t σ H fun c H1=>if c=true then ta σ H1 Q else tb σ H1 Q
theorem zfQ{c:Expr}(hc:PT X c tA)(ha:PE X a ta)(hb:PE X b tb):PE X (.IfExp c a b pos) (tIf tA ta tb):=by
 intro pins s σ H Q I h;refine wpAny_IfExp (thn (hc pins s σ H _ I h) fun d s1 ⟨H1,I1,q1⟩=> ?_);cases d with
 |true=>exact ha pins s1 σ H1 Q I1 q1
 |false=>exact hb pins s1 σ H1 Q I1 q1
end
end L2
namespace L2
open PySem PySem.Spec PyProof.Rows
def SqL(K:Fg)(H:Hp)(a:Addr)(xs:List V):Prop:=
 Rd H a (.lst xs)∨
  ∃(o:Obj) (its:Array Value) (n:Nat),K.lookup a=some o∧o.cls= .type "list"∧o.dict=none∧o.data= .seq its n∧its.size≤sizeLine∧zaP xs its.toList
def SqT(K:Fg)(H:Hp)(a:Addr)(xs:List V):Prop:=
 Rd H a (.tup xs)∨
  ∃(o:Obj) (its:Array Value) (n:Nat),K.lookup a=some o∧o.cls= .type "tuple"∧o.data= .seq its n∧its.size≤sizeLine∧zaP xs its.toList
def zkW:Value→Option V
 | .none=>some .non
 | .bool b=>some (.bl b)
 | .int i _=>some (.int i)
 | .str x _=>some (.str x)
 | .bytes b _=>some (.byt b)
 | .float b _=>some (.flt b)
 | .ref a=>some (.ref a)
 | .type n=>some (.ty n)
 |_=>none
theorem zaB.abs{x:V}{u:Value}(r:zaB x u):zkW u=some x:=by
 cases x with
 |non=>cases r;rfl
 |bl _=>cases r;rfl
 |int _=>obtain⟨t,rfl⟩:=r;rfl
 |str _=>obtain⟨t,rfl⟩:=r;rfl
 |byt _=>obtain⟨t,rfl⟩:=r;rfl
 |flt _=>obtain⟨t,rfl⟩:=r;rfl
 |ref _=>cases r;rfl
 |ty _=>cases r;rfl
theorem zaB.inj{x y:V}{u:Value}(r:zaB x u)(q:zaB y u):x=y:=Option.some.inj (r.abs.symm.trans q.abs)
theorem zaP.inj: ∀{xs ys:List V} {us:List Value},zaP xs us→zaP ys us→xs=ys
 |_,_,_, .nil, .nil=>rfl
 |_,_,_, .cons r t, .cons r' t'=>by rw[r.inj r',zaP.inj t t']
section
variable {X:Cx} {pins:List (Addr×Obj)} {σ:St} {H:Hp} {s:Shared} {a:Addr} {xs ys:List V}
theorem SqL.of{K:Fg}(h:H a=some (.lst xs)):SqL K H a xs:= .inl (.inl h)
theorem SqT.of{K:Fg}(h:H a=some (.tup xs)):SqT K H a xs:= .inl (.inl h)
theorem Inv.list(I:Inv X pins σ H s)(h:SqL X.K H a xs): ∃its:List Value,zaP xs its∧PlainL s.heap a its.toArray∧xs.length≤sizeLine:=by
 rcases h with h|⟨o,its,n,hk,hc,hd,hs,hz,r⟩
 ·obtain⟨z,its,n,r,e⟩:=h.ok I.hok;exact⟨its,r,⟨_,n,e,rfl,rfl,rfl⟩,z⟩
 ·refine⟨its.toList,r,⟨o,n,I.kIn a o hk,hc,hd,by simpa using hs⟩,?_⟩;have e:=r.length;simp only[Array.length_toList] at e;omega
theorem Inv.tuple(I:Inv X pins σ H s)(h:SqT X.K H a xs): ∃its:List Value,zaP xs its∧IsTup s.heap a its.toArray∧xs.length≤sizeLine:=by
 rcases h with h|⟨o,its,n,hk,hc,hs,hz,r⟩
 ·obtain⟨z,its,r,p⟩:=h.ok I.hok;exact⟨its,r,p,z⟩
 ·refine⟨its.toList,r,⟨o,I.kIn a o hk,hc,n,by simpa using hs⟩,?_⟩;have e:=r.length;simp only[Array.length_toList] at e;omega
theorem Inv.list_inj(I:Inv X pins σ H s)(h:SqL X.K H a xs)(h':SqL X.K H a ys):xs=ys:=by
 obtain⟨its,r,⟨o,n,e,_,_,d⟩,_⟩:=I.list h;obtain⟨its',r',⟨o',n',e',_,_,d'⟩,_⟩:=I.list h';rw[e] at e';cases e';rw[d] at d';injection d' with d1 _
 have:its=its':=by simpa using congrArg Array.toList d1
 subst this;exact r.inj r'
theorem Inv.tuple_inj(I:Inv X pins σ H s)(h:SqT X.K H a xs)(h':SqT X.K H a ys):xs=ys:=by
 obtain⟨its,r,⟨o,e,_,n,d⟩,_⟩:=I.tuple h;obtain⟨its',r',⟨o',e',_,n',d'⟩,_⟩:=I.tuple h';rw[e] at e';cases e';rw[d] at d';injection d' with d1 _
 have:its=its':=by simpa using congrArg Array.toList d1
 subst this;exact r.inj r'
end
abbrev Cx.wish(X:Cx)(E:Value→Shared→Prop):Cx:={X with xe:=E}
abbrev Cx.nox(X:Cx):Cx:=X.wish fun _ _=>False
theorem Cx.Ok.wish{X:Cx}(ok:X.Ok)(E:Value→Shared→Prop):(X.wish E).Ok:=
 ⟨ok.mod,ok.kind,ok.glob,ok.blt,ok.above,ok.inj,ok.has,ok.cab,ok.hd,ok.frames,ok.stk,ok.exf,ok.bs,ok.bsz,ok.noex,ok.exfs,ok.funs,ok.frf⟩
theorem Cx.Ok.unwish{X:Cx}{E:Value→Shared→Prop}(ok:(X.wish E).Ok):X.Ok:=
 ⟨ok.mod,ok.kind,ok.glob,ok.blt,ok.above,ok.inj,ok.has,ok.cab,ok.hd,ok.frames,ok.stk,ok.exf,ok.bs,ok.bsz,ok.noex,ok.exfs,ok.funs,ok.frf⟩
section
variable {X:Cx} {pins:List (Addr×Obj)} {σ:St} {H:Hp} {s:Shared} {E:Value→Shared→Prop}
theorem Inv.wish(I:Inv X pins σ H s)(E:Value→Shared→Prop):Inv (X.wish E) pins σ H s:=⟨I.ok.wish E,I.os,I.bare,I.base,I.loc,I.cell,I.free,I.freeC,I.pin,I.hok,I.len⟩
theorem Inv.unwish(I:Inv (X.wish E) pins σ H s):Inv X pins σ H s:=⟨I.ok.unwish,I.os,I.bare,I.base,I.loc,I.cell,I.free,I.freeC,I.pin,I.hok,I.len⟩
theorem SP.unwish{D:Ends}{f:Flow}{s':Shared}(h:SP (X.wish E) pins D f s'):SP X pins D f s':=by
 cases f with
 |next=>obtain⟨σ',H',I,q⟩:=h;exact⟨σ',H',I.unwish,q⟩
 |brk=>obtain⟨σ',H',I,q⟩:=h;exact⟨σ',H',I.unwish,q⟩
 |cont=>obtain⟨σ',H',I,q⟩:=h;exact⟨σ',H',I.unwish,q⟩
 |ret u=>obtain⟨v,σ',H',I,r,q⟩:=h;exact⟨v,σ',H',I.unwish,r,q⟩
theorem PE.nox{e:Expr}{t:TE}(h:PE X.nox e t):PE X e t:=fun pins s σ H Q I hw=>
 wpAny_mono (h pins s σ H Q (I.wish _) hw) (fun _ _ ⟨v,H',I',r,q⟩=>⟨v,H',I'.unwish,r,q⟩) fun _ _ z=>False.elim z
theorem PT.nox{e:Expr}{t:TT}(h:PT X.nox e t):PT X e t:=fun pins s σ H Q I hw=>
 wpAny_mono (h pins s σ H Q (I.wish _) hw) (fun _ _ ⟨H',I',q⟩=>⟨H',I'.unwish,q⟩) fun _ _ z=>False.elim z
theorem PSs.nox{st:List Stmt}{t:TS}(h:PSs X.nox st t):PSs X st t:=fun pins s σ H D I hw=>
 wpAny_mono (h pins s σ H D (I.wish _) hw) (fun _ _ q=>q.unwish) fun _ _ z=>False.elim z
end
section
variable {X:Cx} {st:Stmt} {rest:List Stmt} {t u:TS} {e:Expr} {te:TE} {pos:Pos}
def zbp:TS:=fun D σ H=>D.nx σ H
def zbT(t u:TS):TS:=fun D σ H=>t {D with nx:=u D} σ H
theorem zaq:PSs X [] zbp:=fun _ _ σ H _ I h=>wpAny_execs_nil ⟨σ,H,I,h⟩
theorem zaf(h1:PS X st t)(h2:PSs X rest u):PSs X (st::rest) (zbT t u):=by
 intro pins s σ H D I h;refine wpAny_execs_cons (thn (h1 pins s σ H {D with nx:=u D} I h) fun f s1 q=> ?_);cases f with
 |next=>
  obtain⟨σ',H',I',q⟩:=q;exact h2 pins s1 σ' H' D I' q
 |ret v=>exact q
 |brk=>exact q
 |cont=>exact q
theorem zah(h1:PS X st t):PSs X [st] t:=by
 intro pins s σ H D I h;refine wpAny_execs_cons (thn (h1 pins s σ H D I h) fun f s1 q=> ?_);cases f with
 |next=>exact wpAny_execs_nil q
 |ret v=>exact q
 |brk=>exact q
 |cont=>exact q
theorem Inv.quiet{pins:List (Addr×Obj)}{σ:St}{H:Hp}{s:Shared}(I:Inv X pins σ H s):interactive X.env=false:=by simp [interactive,I.ok.kind]
def zbq(te:TE):TS:=fun D σ H=>te σ H fun _ H1=>D.nx σ H1
theorem zdy(he:PE X e te)(hs:swapsWith e none pos.line X.env=pure false:=by rfl):PS X (.Expr e pos) (zbq te):=by
 intro pins s σ H D I h;exact wpAny_Expr_any (thn (he pins s σ H _ I h) fun v s1 ⟨x,H1,I1,r1,q1⟩=>⟨σ,H1,I1,q1⟩) I.quiet hs
def zbU(te:TE):TS:=fun D σ H=>te σ H D.rt
theorem zam(he:PE X e te):PS X (.Return (some e) pos) (zbU te):=by
 intro pins s σ H D I h;exact wpAny_Return_some (thn (he pins s σ H _ I h) fun v s1 ⟨x,H1,I1,r1,q1⟩=>⟨x,σ,H1,I1,r1,q1⟩)
def zbv:TS:=fun D _ H=>D.rt .non H
def zbQ(c:TT)(t u:TS):TS:=fun D σ H=>c σ H fun b H1=>if b=true then t D σ H1 else u D σ H1
theorem zaU{c:Expr}{a b:List Stmt}{tc:TT}(hc:PT X c tc)(ha:PSs X a t)(hb:PSs X b u):PS X (.If c a b pos) (zbQ tc t u):=by
 intro pins s σ H D I h;refine wpAny_If (thn (hc pins s σ H _ I h) fun d s1 ⟨H1,I1,q1⟩=> ?_);cases d with
 |true=>exact ha pins s1 σ H1 D I1 q1
 |false=>exact hb pins s1 σ H1 D I1 q1
end
abbrev TG:=V→St→Hp→(St→Hp→Prop)→Prop
abbrev TGs:=List V→St→Hp→(St→Hp→Prop)→Prop
def PG(X:Cx)(target:Expr)(t:TG):Prop:=
 ∀(pins:List (Addr×Obj)) (s:Shared) (σ:St) (H:Hp) (v:V) (u:Value) (Q:St→Hp→Prop),Inv X pins σ H s→zaB v u→t v σ H Q→
  wpAny (model X.prog X.w) X.A (assign target X.env u) (fun _ s'=> ∃σ' H',Inv X pins σ' H' s'∧Q σ' H') X.xe s
def PGs(X:Cx)(ts:List Expr)(t:TGs):Prop:=
 ∀(pins:List (Addr×Obj)) (s:Shared) (σ:St) (H:Hp) (vs:List V) (us:List Value) (Q:St→Hp→Prop),Inv X pins σ H s→zaP vs us→t vs σ H Q→
  wpAny (model X.prog X.w) X.A (assignInOrder ((assignEach ts X.env).map (·.2)) us) (fun _ s'=> ∃σ' H',Inv X pins σ' H' s'∧Q σ' H') X.xe s
abbrev zjC:=V→V→V→Hp→(Hp→Prop)→Prop
def zku(X:Cx)(t:zjC):Prop:=
 ∀(pins:List (Addr×Obj)) (s:Shared) (σ:St) (H:Hp) (o i v:V) (ov iv u:Value) (Q:Hp→Prop),Inv X pins σ H s→zaB o ov→zaB i iv→zaB v u→t o i v H Q→
  wpAny (model X.prog X.w) X.A (setItem ov iv u) (fun _ s'=> ∃H',Inv X pins σ H' s'∧Q H') X.xe s
abbrev TIp:=V→V→Hp→VK→Prop
def PIp(X:Cx)(op:Operator)(t:TIp):Prop:=
 ∀(pins:List (Addr×Obj)) (s:Shared) (σ:St) (H:Hp) (x y:V) (v u:Value) (Q:VK),Inv X pins σ H s→zaB x v→zaB y u→t x y H Q→
  wpAny (model X.prog X.w) X.A (inplaceOp op v u) (EP X pins σ Q) X.xe s
section
variable {X:Cx} {pos:Pos}
def zbd(i:Nat):TG:=fun v σ H Q=>Q (σ.set i (some v)) H
theorem zao{i:Nat}{x:Str}(hN:X.N.Nodup)(hi:X.N[i]? =some x)(hx:Loc X.env.scope x)(hf:X.fn x=true∨X.env.scope.names.lookup x=some .local:=by first|exact .inl rfl|exact .inr rfl|assumption):PG X (.Name x pos) (zbd i):=by
 intro pins s σ H v u Q I r h;exact wpAny_assign_Name (zdx I hN hi hx r (fun s' I'=>⟨_,H,I',h⟩) hf)
def zbV:TGs:=fun vs σ H Q=>vs= []∧Q σ H
def zbh(t:TG)(u:TGs):TGs:=fun vs σ H Q=> ∃v r,vs=v::r∧t v σ H fun σ' H'=>u r σ' H' Q
theorem zbG:PGs X [] zbV:=by
 intro pins s σ H vs us Q I r h;obtain⟨e,h⟩:=h;subst e;cases r;exact assignInOrder_nil ⟨σ,H,I,h⟩
theorem zav{e:Expr}{es:List Expr}{t:TG}{u:TGs}(h1:PG X e t)(h2:PGs X es u)
  (hs:(assignEach (e::es) X.env).map (·.2)=assign e X.env::(assignEach es X.env).map (·.2):=by rfl):PGs X (e::es) (zbh t u):=by
 intro pins s σ H vs us Q I r h;obtain⟨v,vr,e1,h⟩:=h;subst e1;cases r with
 |cons r rr=>
  rw[hs];refine assignInOrder_cons (thn (h1 pins s σ H _ _ _ I r h) fun _ s1 ⟨σ1,H1,I1,q1⟩=> ?_);exact h2 pins s1 σ1 H1 _ _ Q I1 rr q1
def zkv(K:Fg)(n:Nat)(t:TGs):TG:=fun v σ H Q=> ∃a xs,v= .ref a∧SqT K H a xs∧xs.length=n∧t xs σ H Q
theorem zb9{es:List Expr}{k:Nat}{t:TGs}{n:Nat}(hc:X.calm=true)(h:PGs X es t)
  (hn:(assignEach es X.env).length=n:=by rfl) (hst:(assignEach es X.env).findIdx? (·.1)=none:=by rfl):PG X (.Tuple es k pos) (zkv X.K n t):=by
 intro pins s σ H v u Q I r hw;obtain⟨a,xs,e1,hq,hl,hw⟩:=hw;subst e1;cases r;obtain⟨its,rv,ht,hz⟩:=I.tuple hq;refine assign_Tuple_tuple (I.ok.hd hc) ht (by simp [hn,←hl,rv.length]) hst fun h' hx=> ?_;have I1:Inv X pins σ H {s with heap:=h'}:=I.kept (t':=s.toks) fun b o e=>hx b o (Nat.ne_of_lt (Heap.lt_size e)) e;exact h pins _ σ H xs _ Q I1 (by simpa using rv) hw
def zkw(to ti:TE)(t:zjC):TG:=fun v σ H Q=>to σ H fun o H1=>ti σ H1 fun i H2=>t o i v H2 fun H3=>Q σ H3
theorem zjD{o i:Expr}{to ti:TE}{t:zjC}(ho:PE X o to)(hi:PE X i ti)(hs:zku X t)
  (ha: ∀v,assign (.Subscript o i pos) X.env v=(do
   let ov←holding [v] (eval o X.env)
   let iv←holding [v,ov] (eval i X.env)
   standAt pos
   holding [v,ov,iv] (setItem ov iv v)
   release [v,ov,iv] []):=by intro _;rfl):PG X (.Subscript o i pos) (zkw to ti t):=by
 intro pins s σ H v u Q I r h;rw[ha];refine wpAny_bind (wpAny_holding (thn (ho pins s σ H _ I h) fun ov s1 ⟨x,H1,I1,r1,q1⟩=> ?_));refine wpAny_bind (wpAny_holding (thn (hi pins s1 σ H1 _ I1 q1) fun iv s2 ⟨y,H2,I2,r2,q2⟩=> ?_));refine wpAny_bind (wpAny_standAt (wpAny_bind (wpAny_holding (thn (hs pins s2 σ H2 x y v ov iv u _ I2 r1 r2 r q2) fun _ s3 ⟨H3,I3,q3⟩=> ?_))));exact wpAny_release ⟨σ,H3,I3,q3⟩
def zbL(te:TE)(g:TG):TS:=fun D σ H=>te σ H fun x H1=>g x σ H1 D.nx
theorem zcr{tg e:Expr}{te:TE}{g:TG}(he:PE X e te)(hg:PG X tg g)(hs:swapsWithSole [tg] e pos.line X.env=pure false:=by rfl)(hw:swappedStores [tg] e X.env=pure none:=by rfl)
  (h1:(assignEach [tg] X.env).map (·.2)= [assign tg X.env]:=by rfl):PS X (.Assign [tg] e pos) (zbL te g):=by
 intro pins s σ H D I h;refine wpAny_Assign_stores (thn (he pins s σ H _ I h) fun v s1 ⟨x,H1,I1,r1,q1⟩=> ?_) hs hw;rw[h1];exact thn (hg pins s1 σ H1 x v _ I1 r1 q1) fun _ s2 q=>q
theorem zaw{i:Nat}{x:Str}{e:Expr}{te:TE}{pos':Pos}(hN:X.N.Nodup)(hi:X.N[i]? =some x)(hx:Loc X.env.scope x)(he:PE X e te)(hs:swapsWith e (some (.Name x pos')) pos.line X.env=pure false:=by rfl)(hf:X.fn x=true∨X.env.scope.names.lookup x=some .local:=by first|exact .inl rfl|exact .inr rfl|assumption):
  PS X (.Assign [.Name x pos'] e pos) (zbL te (zbd i)):=by
 intro pins s σ H D I h;refine wpAny_Assign_Name (thn (he pins s σ H _ I h) fun v s1 ⟨y,H1,I1,r1,q1⟩=> ?_) hs;exact zdx I1 hN hi hx r1 (fun s2 I2=>⟨_,H1,I2,q1⟩) hf
def zb0(i:Nat)(te:TE)(ti:TIp):TS:=fun D σ H=> ∃x,σ[i]? =some (some x)∧te σ H fun y H1=>ti x y H1 fun z H2=>D.nx (σ.set i (some z)) H2
theorem zfk{i:Nat}{x:Str}{e:Expr}{te:TE}{op:Operator}{ti:TIp}{pos':Pos}(hN:X.N.Nodup)(hi:X.N[i]? =some x)(hx:Loc X.env.scope x)(he:PE X e te)(ho:PIp X op ti)(hf:X.fn x=true∨X.env.scope.names.lookup x=some .local:=by first|exact .inl rfl|exact .inr rfl|assumption):
  PS X (.AugAssign (.Name x pos') op e pos) (zb0 i te ti):=by
 intro pins s σ H D I h;obtain⟨v,e1,h⟩:=h;obtain⟨m,hn,hl⟩:=I.loc;have vis:Vis X.env.scope x:=by rcases hx with k|k;exact .inl k;exact .inr (.inl k)
 obtain⟨u,r,l⟩:=hl i x v hi e1 vis;refine wpAny_AugAssign_Name ?_;have go:wpAny (model X.prog X.w) X.A (eval e X.env) (fun w s₂=>wpAny (model X.prog X.w) X.A (inplaceOp op u w) (fun r s₃=>wpAny (model X.prog X.w) X.A (storeName X.env x r) (fun _=>SP X pins D .next) X.xe s₃) X.xe s₂) X.xe s:=by
  refine thn (he pins s σ H _ I h) fun w s1 ⟨y,H1,I1,r1,q1⟩=> ?_;refine thn (ho pins s1 σ H1 v y u w _ I1 r r1 q1) fun z s2 ⟨zv,H2,I2,r2,q2⟩=> ?_;exact zdx I2 hN hi hx r2 (fun s3 I3=>⟨_,H2,I3,q2⟩) hf
 rcases l with⟨hk,hm⟩|⟨hk,c,hc,hcell⟩
 ·exact wpAny_loadName_local I.ok.kind hk hn hm go
 ·rcases hk with hk|hk
  ·exact wpAny_loadName_cell I.ok.kind hk hc hcell go
  ·rcases hx with k|k
   ·have:X.env.scope.names.lookup x=some .free:=hk;rw[k] at this;cases this
   ·have:X.env.scope.names.lookup x=some .free:=hk;rw[k] at this;cases this
def ipI(f:Int→Int→Int):TIp:=fun x y H Q=> ∃i j,x= .int i∧y= .int j∧Q (.int (f i j)) H
theorem zhN:PIp X .Add (ipI fun i j=>i+j):=by
 intro pins s σ H x y v u Q I r1 r2 h;obtain⟨i,j,e1,e2,q⟩:=h;subst e1;subst e2;obtain⟨t,rfl⟩:=r1;obtain⟨t',rfl⟩:=r2;exact iadd_int ⟨.int _,H,I.tok _,⟨_,rfl⟩,q⟩
theorem zhO:PIp X .Sub (ipI fun i j=>i - j):=by
 intro pins s σ H x y v u Q I r1 r2 h;obtain⟨i,j,e1,e2,q⟩:=h;subst e1;subst e2;obtain⟨t,rfl⟩:=r1;obtain⟨t',rfl⟩:=r2;exact isub_int ⟨.int _,H,I.tok _,⟨_,rfl⟩,q⟩
end
section
variable {X:Cx} {pos:Pos}
def zjE(c:TT)(tb:TS):TS:=fun D σ H=> ∃W:Nat→St→Hp→Prop,(∃m,W m σ H)∧ ∀m σ H,W m σ H→
 c σ H fun b H1=>if b=true then∃N:St→Hp→Prop,(∀σ' H',N σ' H'→ ∃m',m'<m∧W m' σ' H')∧tb {D with nx:=N,ct:=N,bk:=D.nx} σ H1 else D.nx σ H1
theorem zhP{c:Expr}{body:List Stmt}{tc:TT}{tb:TS}(hp:PassesOwn (model X.prog X.w) X.A X.env X.xe)(hc:PT X c tc)(hb:PSs X body tb):PS X (.While c body [] pos) (zjE tc tb):=by
 intro pins s σ H D I h;obtain⟨W,⟨m0,w0⟩,turn⟩:=h;refine wpAny_While (codeAny_whileLoop (fun n s'=> ∃σ' H',Inv X pins σ' H' s'∧W n σ' H') ?_ m0 ⟨σ,H,I,w0⟩);rintro n s1 ⟨σ1,H1,I1,w1⟩;refine wpAny_passesOwn hp (thn (hc pins s1 σ1 H1 _ I1 (turn n σ1 H1 w1)) fun b s2 ⟨H2,I2,q2⟩=> ?_);cases b with
 |true=>
  obtain⟨N,hN,q2⟩:=q2;rw[if_pos rfl];refine wpAny_passesOwn hp (thn (hb pins s2 σ1 H2 _ I2 q2) fun f s3 q3=> ?_);cases f with
  |next=>
   obtain⟨σ3,H3,I3,n3⟩:=q3;obtain⟨m',hm,w3⟩:=hN σ3 H3 n3;exact⟨m',hm,σ3,H3,I3,w3⟩
  |cont=>
   obtain⟨σ3,H3,I3,n3⟩:=q3;obtain⟨m',hm,w3⟩:=hN σ3 H3 n3;exact⟨m',hm,σ3,H3,I3,w3⟩
  |brk=>exact q3
  |ret v=>exact q3
 |false=>
  rw[if_neg Bool.false_ne_true];exact wpAny_execs_nil ⟨σ1,H2,I2,q2⟩
end
structure It where
 go:Nat→Hp→Prop
 yld:Nat→Hp→V→Hp→Prop
 stop:Nat→Hp→Prop
def zdn(X:Cx)(pins:List (Addr×Obj))(H:Hp)(b:Addr):Prop:=
 H b=none∧b≠X.env.locals∧b∉X.fs∧(b∈X.ex∨X.s₀.heap.objs.size≤b)∧(∀x c,X.env.cells.lookup x=some c→c≠b)∧ ∀p∈X.pn++pins,p.1≠b
theorem Inv.fpOk{X:Cx}{pins:List (Addr×Obj)}{σ:St}{H H':Hp}{s:Shared}{b:Addr}(I:Inv X pins σ H s)(hb:s.heap.objs.size≤b)(hn:H' b=none):zdn X pins H' b:=by
 refine⟨hn,Nat.ne_of_gt (Nat.lt_of_lt_of_le I.lt hb),I.nofs hb, .inr (Nat.le_trans I.sz hb),fun x c e z=> ?_,fun p hp z=> ?_⟩
 ·obtain⟨v,q⟩:=I.cell x c e;exact absurd (Nat.lt_of_lt_of_le q.lt (by rw[z];exact hb)) (Nat.lt_irrefl _)
 ·exact absurd (Nat.lt_of_lt_of_le (Heap.lt_size (I.pin p hp).1) (by rw[z];exact hb)) (Nat.lt_irrefl _)
structure Turn (P:Program) (w:World) (K:Fg) (tg:Expr) (J:It) (fp:List Addr) (it:Addr) (tn:Nat→Heap→Prop):Prop where
 mem:it∈fp
 obj: ∀i h,tn i h→ ∀b∈fp,∃o,h.get? b=some o∧ ∀v,o.data≠ .cell v
 keep: ∀i h h',tn i h→(∀b∈fp,∀o,h.get? b=some o→h'.get? b=some o)→tn i h'
 item: ∀(X:Cx),X.prog=P→X.w=w→X.K=K→X.calm=true→ ∀(i:Nat) (pins:List (Addr×Obj)) (s:Shared) (σ:St) (H:Hp) (E:Value→Shared→Prop),Inv X pins σ H s→(∀b∈fp,zdn X pins H b)→tn i s.heap→J.go i H→
  wpAny (model P w) X.A (pyNext (.ref it)) (fun r s1=> ∃u,r=some u∧
   wpAny (model P w) X.A (letOwnedTupleGo tg (.ref it) u) (fun _ s2=> ∃x H',Inv X pins σ H' s2∧zaB x u∧J.yld i H x H'∧tn (i+1) s2.heap∧ ∀b∈fp,H' b=none) E s1) E s
 done: ∀(X:Cx),X.prog=P→X.w=w→X.K=K→X.calm=true→ ∀(i:Nat) (pins:List (Addr×Obj)) (s:Shared) (σ:St) (H:Hp) (E:Value→Shared→Prop),Inv X pins σ H s→(∀b∈fp,zdn X pins H b)→tn i s.heap→J.stop i H→
  wpAny (model P w) X.A (pyNext (.ref it)) (fun r s1=>r=none∧Inv X pins σ H s1) E s
 self: ∀(A:Around) (i:Nat) (s:Shared) (Q:Value→Shared→Prop) (E:Value→Shared→Prop),tn i s.heap→Q (.ref it) s→wpAny (model P w) A (pyIter (.ref it)) Q E s
abbrev TI:=St→Hp→(It→Hp→Prop)→Prop
def PIE(X:Cx)(pins:List (Addr×Obj))(σ:St)(tg:Expr)(R:It→Hp→Prop)(itv:Value)(s2:Shared):Prop:=
 ∃(it:Addr) (fp:List Addr) (tn:Nat→Heap→Prop) (J:It) (H':Hp),itv= .ref it∧Inv X pins σ H' s2∧Turn X.prog X.w X.K tg J fp it tn∧tn 0 s2.heap∧(∀b∈fp,zdn X pins H' b)∧R J H'
def PI(X:Cx)(tg iter:Expr)(wi:TI):Prop:=
 ∀(pins:List (Addr×Obj)) (s:Shared) (σ:St) (H:Hp) (R:It→Hp→Prop),Inv X pins σ H s→wi σ H R→
  wpAny (model X.prog X.w) X.A (eval iter X.env) (fun v s1=>wpAny (model X.prog X.w) X.A (pyIter v) (PIE X pins σ tg R) X.xe s1) X.xe s
theorem zhQ{M:Model}{A:Around}{E:Value→Shared→Prop}{s:Shared}{tg:Expr}{it:Addr}{u:Value}{o:Obj}{n:String}{vs:Array Value}{Q:Unit→Shared→Prop}(ho:s.heap.get? it=some o)(hc:o.cls= .type n)(hd:o.data= .fields vs)
  (hn: ["enumerate","zip","dict_itemiterator","dict_reverseitemiterator","odict_iterator","itertools.zip_longest","itertools.pairwise"].contains n=false) (hQ:Q () s):wpAny M A (letOwnedTupleGo tg (.ref it) u) Q E s:=by
 unfold letOwnedTupleGo;cases tg<;>first
  |exact wpAny_pure hQ
  |(cases u<;>first
    |exact wpAny_pure hQ
    |(refine wpAny_bind (wpAny_load ho ?_)
      rw[hc,hd];show wpAny M A (if (["enumerate","zip","dict_itemiterator","dict_reverseitemiterator","odict_iterator","itertools.zip_longest","itertools.pairwise"].contains n && vs[0]? ==some (rawInt _))=true then _ else _) Q E s;rw[if_neg (by intro h;rw[hn,Bool.false_and] at h;cases h)];exact wpAny_pure hQ))
def Itl(K:Fg)(a:Addr):It:=
 ⟨fun i H=> ∃xs x,SqL K H a xs∧xs[i]? =some x,fun i H x H'=>H'=H∧ ∀xs,SqL K H a xs→xs[i]? =some x,fun i H=> ∃xs,SqL K H a xs∧xs.length≤i⟩
def Itt(K:Fg)(a:Addr):It:=
 ⟨fun i H=> ∃xs x,SqT K H a xs∧xs[i]? =some x,fun i H x H'=>H'=H∧ ∀xs,SqT K H a xs→xs[i]? =some x,fun i H=> ∃xs,SqT K H a xs∧xs.length≤i⟩
def Itr(lo:Int)(n:Nat):It:=⟨fun i _=>i<n,fun i H x H'=>H'=H∧x= .int (lo+i),fun i _=>n≤i⟩
theorem zhe{P:Program}{w:World}{K:Fg}{tg:Expr}(a it:Addr):Turn P w K tg (Itl K a) [it] it (fun i h=>h.IsListIter it a i) where
 mem:=by simp
 obj:=fun i h st b hb=>by
  have e:b=it:=by simpa using hb
  subst e;obtain⟨o,e,c,d⟩:=st;exact⟨o,e,fun v z=>by rw[d] at z;cases z⟩
 keep:=fun i h h' st k=>st.at fun o e=>k it (by simp) o e
 item:=by
  intro X hP hw hK hc i pins s σ H E I hf st hg;subst hP hw hK;obtain⟨xs,x,hq,hx⟩:=hg;obtain⟨its,rv,p,hz⟩:=I.list hq;obtain⟨u,hu,ru⟩:=rv.get hx;obtain⟨f0,f1,f2,f3,f4,f5⟩:=hf it (by simp);refine wpAny_pyNext_list_item st p.isList (x:=u) (by simpa using hu) fun h' st' sb=> ?_;have I1:Inv X pins σ H {s with heap:=h'}:=I.turned (t':=s.toks) (fun b o hb e=>(sb.2 b hb).trans e) f0 f1 f3 f4 f5;obtain⟨o,e,c,d⟩:=id st';exact⟨u,rfl,zhQ (s:={s with heap:=h'}) e c d (by decide) ⟨x,H,I1,ru,⟨rfl,fun ys hy=>by rw[I.list_inj hy hq];exact hx⟩,st',fun b hb=>(hf b hb).1⟩⟩
 done:=by
  intro X hP hw hK hc i pins s σ H E I hf st hg;subst hP hw hK;obtain⟨xs,hq,hx⟩:=hg;obtain⟨its,rv,p,hz⟩:=I.list hq;obtain⟨f0,f1,f2,f3,f4,f5⟩:=hf it (by simp);have hl:=rv.length;exact wpAny_pyNext_list_end (I.ok.hd hc) st p.isList (by simp;omega) fun h' eb=>⟨rfl,I.turned (t':=s.toks) (fun b o hb e=>eb b o hb e) f0 f1 f3 f4 f5⟩
 self:=fun _ _ _ _ _ st h=>wpAny_pyIter_listiter st h
theorem zgf{P:Program}{w:World}{K:Fg}{tg:Expr}(it:Addr)(lo:Int)(n:Nat):Turn P w K tg (Itr lo n) [it] it (fun i h=>IsRangeIter h it (lo+(i:Nat)*1) ((n:Int) - (i:Nat)) 1) where
 mem:=by simp
 obj:=fun i h st b hb=>by
  have e:b=it:=by simpa using hb
  subst e;exact⟨_,st,fun v z=>by
   have z':Data.fields _=Data.cell v:=z;cases z'⟩
 keep:=fun i h h' st k=>k it (by simp) _ st
 item:=by
  intro X hP hw hK hc i pins s σ H E I hf st hg;subst hP hw hK;obtain⟨f0,f1,f2,f3,f4,f5⟩:=hf it (by simp);have W:=Walks.range (prog:=X.prog) (w:=X.w) (I.ok.hd hc) it lo 1 n;refine W.item i s _ _ hg st fun v h' tk hv st' kk=> ?_;obtain⟨t,rfl⟩:=hv;have I1:Inv X pins σ H {s with heap:=h',toks:=tk}:=I.turned (fun b o hb e=>kk b o (by simpa using hb) e) f0 f1 f3 f4 f5;refine⟨_,rfl,zhQ (s:={s with heap:=h',toks:=tk}) (n:="range_iterator") st' rfl rfl (by decide) ⟨.int (lo+i),H,I1,⟨t,?_⟩,⟨rfl,rfl⟩,st',fun b hb=>(hf b hb).1⟩⟩;rw[Int.mul_one]
 done:=by
  intro X hP hw hK hc i pins s σ H E I hf st hg;subst hP hw hK;obtain⟨f0,f1,f2,f3,f4,f5⟩:=hf it (by simp);exact wpAny_pyNext_range_end (I.ok.hd hc) st (by have:n≤i:=hg;omega) fun h' eb=>⟨rfl,I.turned (t':=s.toks) (fun b o hb e=>eb b o hb e) f0 f1 f3 f4 f5⟩
 self:=fun _ _ _ _ _ st h=>wpAny_pyIter_rangeiter st h
end L2
namespace L2
open PySem PySem.Spec PyProof.Rows
section
variable {X:Cx} {tg:Expr}
def zdY(K:Fg)(tl:TE):TI:=fun σ H R=>tl σ H fun x H1=> ∃a,x= .ref a∧(∃xs,SqL K H1 a xs)∧R (Itl K a) H1
def zjF(K:Fg)(tl:TE):TI:=fun σ H R=>tl σ H fun x H1=> ∃a,x= .ref a∧(∃xs,SqT K H1 a xs)∧R (Itt K a) H1
theorem zcv{l:Expr}{tl:TE}(hl:PE X l tl):PI X tg l (zdY X.K tl):=by
 intro pins s σ H R I h;refine thn (hl pins s σ H _ I h) fun v s1 ⟨x,H1,I1,r1,q1⟩=> ?_;obtain⟨a,e,⟨xs,hq⟩,q⟩:=q1;subst e;cases r1;obtain⟨its,rv,p,hz⟩:=I1.list hq;refine wpAny_pyIter_list p.isList ?_;refine⟨s1.heap.objs.size, [s1.heap.objs.size],_,_,H1,rfl,I1.kept (t':=s1.toks) fun b o e=>Heap.get?_push_of_some _ e,zhe a _,⟨_,Heap.get?_push_size _ rfl,rfl,rfl⟩,fun b hb=> ?_,q⟩;have e:b=s1.heap.objs.size:=by simpa using hb
 subst e;exact I1.fpOk (Nat.le_refl _) (I1.hok.fresh (Nat.le_refl _))
theorem zfR{pins:List (Addr×Obj)}{σ:St}{H:Hp}{s:Shared}{R:It→Hp→Prop}{E:Value→Shared→Prop}{lo hi:Int}{t u v:Tok}{tk:Nat}(I:Inv X pins σ H s)(h1: -(2 ^ 62)≤lo)(h2:lo<2 ^ 62)(h3: -(2 ^ 62)≤hi)(h4:hi<2 ^ 62)
  (q:R (Itr lo (hi - lo).toNat) H):wpAny (model X.prog X.w) X.A (pyIter (.ref s.heap.objs.size)) (PIE X pins σ tg R) E {s with heap:=s.heap.push {cls:= .type "range",data:= .fields #[.int lo t, .int hi u, .int 1 v]},toks:=tk}:=by
 refine wpAny_pyIter_range (IsRange.new ..) (small_one h1 h2 h3 h4) ?_;have I1:Inv X pins σ H {s with heap:=s.heap.push {cls:= .type "range",data:= .fields #[.int lo t, .int hi u, .int 1 v]},toks:=tk}:=I.kept fun b o e=>Heap.get?_push_of_some _ e;refine⟨(s.heap.push {cls:= .type "range",data:= .fields #[.int lo t, .int hi u, .int 1 v]}).objs.size, [(s.heap.push {cls:= .type "range",data:= .fields #[.int lo t, .int hi u, .int 1 v]}).objs.size],_,_,H,rfl,
  I1.kept (t':=tk) fun b o e=>Heap.get?_push_of_some _ e,zgf _ lo (hi - lo).toNat,?_,fun b hb=> ?_,q⟩
 ·have e1:lo+((0:Nat):Int)*1=lo:=by simp
  have e2:(((hi - lo).toNat:Nat):Int) - ((0:Nat):Int)=Builtin.Range.rangeSize lo hi 1:=by rw[rangeSize_one];split<;>omega
  show IsRangeIter _ _ (lo+((0:Nat):Int)*1) ((((hi - lo).toNat:Nat):Int) - ((0:Nat):Int)) 1;rw[e1,e2];exact Heap.get?_push_size _ rfl
 ·have e:b=(s.heap.push {cls:= .type "range",data:= .fields #[.int lo t, .int hi u, .int 1 v]}).objs.size:=by simpa using hb
  subst e;exact I1.fpOk (Nat.le_refl _) (I1.hok.fresh (Nat.le_refl _))
def zeU(ta:TA):TI:=fun σ H R=>ta σ H fun vs H1=> ∃j:Int,vs= [.int j]∧ -(2 ^ 62)≤j∧j<2 ^ 62∧R (Itr 0 j.toNat) H1
def zgL(ta:TA):TI:=fun σ H R=>ta σ H fun vs H1=> ∃i j:Int,vs= [.int i, .int j]∧(-(2 ^ 62)≤i∧i<2 ^ 62∧ -(2 ^ 62)≤j∧j<2 ^ 62)∧R (Itr i (j - i).toNat) H1
theorem zeV{a:Expr}{ta:TA}{p pos:Pos}(hg:Gl X "range")(hm:X.mg "range"=none)(ha:PA X [a] ta)(hs:starEach [a] X.env= [(false,eval a X.env)]:=by rfl):PI X tg (.Call (.Name "range" p) [a] [] pos) (zeU ta):=by
 intro pins s σ H R I h;refine Call_ (zdM I hg hm boot_range (PyProof.Rows.callWith_type1 (thn (ha pos pins s σ H _ I h) fun us s1 ⟨vs,H1,I1,r1,q1⟩=> ?_) hs rfl));obtain⟨j,e,q1,q2,q⟩:=q1;subst e;cases r1 with
 |cons r rr=>
  cases rr;obtain⟨t,rfl⟩:=r;exact call_range_1 (zfR I1 (by omega) (by omega) q1 q2 (by simpa using q))
theorem zhf{a b:Expr}{ta:TA}{p pos:Pos}(hg:Gl X "range")(hm:X.mg "range"=none)(ha:PA X [a,b] ta)(hs:starEach [a,b] X.env= [(false,eval a X.env),(false,eval b X.env)]:=by rfl)(hs2:starEach [b] X.env= [(false,eval b X.env)]:=by rfl):
  PI X tg (.Call (.Name "range" p) [a,b] [] pos) (zgL ta):=by
 intro pins s σ H R I h;refine Call_ (zdM I hg hm boot_range (PyProof.Rows.callWith_type1 (thn (ha pos pins s σ H _ I h) fun us s1 ⟨vs,H1,I1,r1,q1⟩=> ?_) (by rw[hs,hs2]) (by rw[hs2];rfl)));obtain⟨i,j,e,⟨q1,q2,q3,q4⟩,q⟩:=q1;subst e;cases r1 with
 |cons r rr=>
  cases rr with
  |cons r' rr=>
   cases rr;obtain⟨t,rfl⟩:=r;obtain⟨t',rfl⟩:=r';exact call_range_2 (zfR I1 q1 q2 q3 q4 q)
def zkx(wi:TI)(g:TG)(tb:TS):TS:=fun D σ H=>wi σ H fun J H1=> ∃W:Nat→Nat→St→Hp→Prop,(∃m,W 0 m σ H1)∧ ∀i m σ H,W i m σ H→
 (J.stop i H∧D.nx σ H)∨(J.go i H∧ ∃N:St→Hp→Prop,(∀σ' H',N σ' H'→ ∃m',m'<m∧W (i+1) m' σ' H')∧ ∀x H',J.yld i H x H'→g x σ H' fun σ2 H2=>tb {D with nx:=N,ct:=N,bk:=D.nx} σ2 H2)
def zdN(fp:List Addr)(h:Heap):List (Addr×Obj):=fp.filterMap fun b=>(h.get? b).map fun o=>(b,o)
theorem zch{fp:List Addr}{h:Heap}{b:Addr}{o:Obj}(hb:b∈fp)(e:h.get? b=some o):(b,o)∈zdN fp h:=List.mem_filterMap.mpr ⟨b,hb,by rw[e];rfl⟩
theorem zhg{fp:List Addr}{h:Heap}{p:Addr×Obj}(hp:p∈zdN fp h):p.1∈fp∧h.get? p.1=some p.2:=by
 obtain⟨b,hb,e⟩:=List.mem_filterMap.mp hp;cases q:h.get? b with
 |none=>rw[q] at e;cases e
 |some o=>
  rw[q] at e;have e':(b,o)=p:=Option.some.inj e;subst e';exact⟨hb,q⟩
theorem Inv.pinned{pins:List (Addr×Obj)}{σ:St}{H:Hp}{s:Shared}{fp:List Addr}(I:Inv X pins σ H s)(hf: ∀b∈fp,zdn X pins H b)(ho: ∀b∈fp,∃o,s.heap.get? b=some o∧ ∀v,o.data≠ .cell v):Inv X (pins++zdN fp s.heap) σ H s:=
 I.pins_of fun p hp=>(List.mem_append.mp hp).elim (fun z=>I.pin p (List.mem_append_right _ z)) fun z=>by
  obtain⟨hb,e⟩:=zhg z;obtain⟨f0,f1,f2,_⟩:=hf p.1 hb;obtain⟨o,e',d⟩:=ho p.1 hb;rw[e] at e';cases e';exact⟨e,f0,f1,f2,d⟩
theorem Inv.unpinned{pins pl:List (Addr×Obj)}{σ:St}{H:Hp}{s:Shared}(I:Inv X (pins++pl) σ H s):Inv X pins σ H s:=I.pins_of fun p hp=>I.pin p (List.mem_append_right _ (List.mem_append_left _ hp))
theorem zcK{iter:Expr}{body:List Stmt}{wi:TI}{g:TG}{tb:TS}{pos:Pos}(hp:PassesOwn (model X.prog X.w) X.A X.env X.xe)(hc:X.calm=true)(hi:PI X tg iter wi)(hg:PG X tg g)(hb:PSs X body tb)
  (hs: ∀x,foldedSetIterable iter X.env x=pure x:=by intro _;rfl):PS X (.For tg iter body [] pos) (zkx wi g tb):=by
 intro pins s σ H D I h;refine wpAny_For (thn (hi pins s σ H _ I h) fun v s1 h1=>thn h1 fun itv s2 h2=> ?_) hs;obtain⟨it,fp,tn,J,H2,e,I2,T,st2,f2,W,⟨m0,w0⟩,turn⟩:=h2;subst e;have stat: ∀{H':Hp},(∀b∈fp,H' b=none)→ ∀b∈fp,zdn X pins H' b:=fun hn b hb=>⟨hn b hb,(f2 b hb).2⟩
 refine codeAny_forLoop_any (fun n s'=> ∃i σ' H',Inv X pins σ' H' s'∧tn i s'.heap∧(∀b∈fp,H' b=none)∧W i n σ' H') ?_ m0 ⟨0,σ,H2,I2,st2,fun b hb=>(f2 b hb).1,w0⟩;rintro n s3 ⟨i,σ3,H3,I3,st3,fr3,w3⟩;rcases turn i n σ3 H3 w3 with⟨stop,qn⟩|⟨go,N,hN,step⟩
 ·refine wpAny_passesOwn hp (thn (T.done X rfl rfl rfl hc i pins s3 σ3 H3 X.xe I3 (stat fr3) st3 stop) fun r s4 ⟨hr,I4⟩=> ?_);subst hr;exact wpAny_execs_nil ⟨σ3,H3,I4,qn⟩
 ·refine wpAny_passesOwn hp (thn (T.item X rfl rfl rfl hc i pins s3 σ3 H3 X.xe I3 (stat fr3) st3 go) fun r s4 ⟨u,hr,h4⟩=> ?_);subst hr;refine wpAny_passesOwn hp (thn h4 fun _ s5 ⟨x,H5,I5,r5,y5,st5,fr5⟩=> ?_);have I5':=I5.pinned (stat fr5) (T.obj _ _ st5);refine wpAny_passesOwn hp (thn (hg _ s5 σ3 H5 x u _ I5' r5 (step x H5 y5)) fun _ s6 ⟨σ6,H6,I6,q6⟩=> ?_);refine wpAny_passesOwn hp (thn (hb _ s6 σ6 H6 _ I6 q6) fun f s7 q7=> ?_);have again: ∀{σ7:St} {H7:Hp},Inv X (pins++zdN fp s5.heap) σ7 H7 s7→N σ7 H7→ ∃m,m<n∧ ∃i σ' H',Inv X pins σ' H' s7∧tn i s7.heap∧(∀b∈fp,H' b=none)∧W i m σ' H':=fun {σ7 H7} I7 n7=>by
   obtain⟨m',hm,w7⟩:=hN σ7 H7 n7;refine⟨m',hm,i+1,σ7,H7,I7.unpinned,T.keep _ _ _ st5 fun b hb o e=>(I7.pin (b,o) (List.mem_append_right _ (List.mem_append_right _ (zch hb e)))).1,fun b hb=> ?_,w7⟩;obtain⟨o,e,d⟩:=T.obj _ _ st5 b hb;exact(I7.pin (b,o) (List.mem_append_right _ (List.mem_append_right _ (zch hb e)))).2.1
  cases f with
  |next=>obtain⟨σ7,H7,I7,n7⟩:=q7;exact again I7 n7
  |cont=>obtain⟨σ7,H7,I7,n7⟩:=q7;exact again I7 n7
  |brk=>obtain⟨σ7,H7,I7,q7⟩:=q7;exact⟨σ7,H7,I7.unpinned,q7⟩
  |ret v=>obtain⟨x7,σ7,H7,I7,r7,q7⟩:=q7;exact⟨x7,σ7,H7,I7.unpinned,r7,q7⟩
end
theorem zel{K:Fg}{a:Addr}{xs:List V}{g:TG}{tb:TS}{D:Ends}{σ:St}{H:Hp}(Pv:Nat→St→Hp→Prop)(h0:Pv 0 σ H)(hl: ∀i σ H,i≤xs.length→Pv i σ H→SqL K H a xs)
  (hs: ∀i x σ H,xs[i]? =some x→Pv i σ H→g x σ H fun σ2 H2=>tb {D with nx:=Pv (i+1),ct:=Pv (i+1),bk:=D.nx} σ2 H2) (hd: ∀σ H,Pv xs.length σ H→D.nx σ H):
  ∃W:Nat→Nat→St→Hp→Prop,(∃m,W 0 m σ H)∧ ∀i m σ H,W i m σ H→
   ((Itl K a).stop i H∧D.nx σ H)∨((Itl K a).go i H∧ ∃N:St→Hp→Prop,(∀σ' H',N σ' H'→ ∃m',m'<m∧W (i+1) m' σ' H')∧ ∀x H',(Itl K a).yld i H x H'→g x σ H' fun σ2 H2=>tb {D with nx:=N,ct:=N,bk:=D.nx} σ2 H2):=by
 refine⟨fun i m σ H=>m=xs.length - i∧i≤xs.length∧Pv i σ H,⟨xs.length,by simp,Nat.zero_le _,h0⟩,?_⟩;rintro i m σ H ⟨rfl,hi,p⟩;have q:=hl i σ H hi p;by_cases hlt:i<xs.length
 ·refine .inr ⟨⟨xs,xs[i],q,by simp [hlt]⟩,Pv (i+1),fun σ' H' p'=>⟨xs.length - (i+1),by omega,rfl,hlt,p'⟩,fun x H' y=> ?_⟩;obtain⟨e,y⟩:=y;subst e;exact hs i x σ _ (y xs q) p
 ·have e:i=xs.length:=by omega
  subst e;exact .inl ⟨⟨xs,q,Nat.le_refl _⟩,hd σ H p⟩
theorem zdO{lo:Int}{n:Nat}{g:TG}{tb:TS}{D:Ends}{σ:St}{H:Hp}(Pv:Nat→St→Hp→Prop)(h0:Pv 0 σ H)
  (hs: ∀i σ H,i<n→Pv i σ H→g (.int (lo+i)) σ H fun σ2 H2=>tb {D with nx:=Pv (i+1),ct:=Pv (i+1),bk:=D.nx} σ2 H2) (hd: ∀σ H,Pv n σ H→D.nx σ H):
  ∃W:Nat→Nat→St→Hp→Prop,(∃m,W 0 m σ H)∧ ∀i m σ H,W i m σ H→
   ((Itr lo n).stop i H∧D.nx σ H)∨((Itr lo n).go i H∧ ∃N:St→Hp→Prop,(∀σ' H',N σ' H'→ ∃m',m'<m∧W (i+1) m' σ' H')∧ ∀x H',(Itr lo n).yld i H x H'→g x σ H' fun σ2 H2=>tb {D with nx:=N,ct:=N,bk:=D.nx} σ2 H2):=by
 refine⟨fun i m σ H=>m=n - i∧i≤n∧Pv i σ H,⟨n,by simp,Nat.zero_le _,h0⟩,?_⟩;rintro i m σ H ⟨rfl,hi,p⟩;by_cases hlt:i<n
 ·refine .inr ⟨hlt,Pv (i+1),fun σ' H' p'=>⟨n - (i+1),by omega,rfl,hlt,p'⟩,fun x H' y=> ?_⟩;obtain⟨e,y⟩:=y;subst e y;exact hs i σ _ hlt p
 ·have e:i=n:=by omega
  subst e;exact .inl ⟨Nat.le_refl _,hd σ H p⟩
end L2
namespace L2
open PySem PySem.Spec PyProof.Rows
abbrev R2:=V→V→Hp→VK→Prop
def OpR(X:Cx)(f:Value→Value→Sem Value)(r:R2):Prop:=
 ∀(pins:List (Addr×Obj)) (s:Shared) (σ:St) (H:Hp) (x y:V) (v u:Value) (Q:VK),Inv X pins σ H s→zaB x v→zaB y u→r x y H Q→
  wpAny (model X.prog X.w) X.A (f v u) (EP X pins σ Q) X.xe s
def UnR(X:Cx)(f:Value→Sem Value)(r:V→Hp→VK→Prop):Prop:=
 ∀(pins:List (Addr×Obj)) (s:Shared) (σ:St) (H:Hp) (x:V) (v:Value) (Q:VK),Inv X pins σ H s→zaB x v→r x H Q→
  wpAny (model X.prog X.w) X.A (f v) (EP X pins σ Q) X.xe s
def zbI(X:Cx)(f:Value)(r:List V→Hp→VK→Prop):Prop:=
 ∀(pins:List (Addr×Obj)) (s:Shared) (σ:St) (H:Hp) (xs:List V) (us:List Value) (Q:VK),Inv X pins σ H s→zaP xs us→r xs H Q→
  wpAny (model X.prog X.w) X.A (call f us) (EP X pins σ Q) X.xe s
def tOp(r:R2)(ta tb:TE):TE:=fun σ H Q=>ta σ H fun x H1=>tb σ H1 fun y H2=>r x y H2 Q
def tUn(r:V→Hp→VK→Prop)(ta:TE):TE:=fun σ H Q=>ta σ H fun x H1=>r x H1 Q
def rI(C:Int→Int→Prop)(g:Int→Int→V):R2:=fun x y H Q=> ∃i j,x= .int i∧y= .int j∧C i j∧Q (g i j) H
def rI0(g:Int→Int→V):R2:=fun x y H Q=> ∃i j,x= .int i∧y= .int j∧Q (g i j) H
def rU(g:Int→V):V→Hp→VK→Prop:=fun x H Q=> ∃i,x= .int i∧Q (g i) H
section
variable {X:Cx} {a b c:Expr} {ta tb tc:TE} {pos:Pos}
theorem zjG(ha:PE X a ta)(hb:PE X b tb){pins:List (Addr×Obj)}{s:Shared}{σ:St}{H:Hp}{R:V→V→Hp→Prop}(I:Inv X pins σ H s)
  (h:ta σ H fun x H1=>tb σ H1 fun y H2=>R x y H2) {Q:Value→Shared→Prop} {f:Value→Value→Sem Value}
  (hf: ∀v u s2 x y H2,Inv X pins σ H2 s2→zaB x v→zaB y u→R x y H2→wpAny (model X.prog X.w) X.A (f v u) Q X.xe s2):
  wpAny (model X.prog X.w) X.A (eval a X.env) (fun v s₁=>wpAny (model X.prog X.w) X.A (eval b X.env) (fun u s₂=>wpAny (model X.prog X.w) X.A (f v u) Q X.xe s₂) X.xe s₁) X.xe s:=by
 refine thn (ha pins s σ H _ I h) fun v s1 ⟨x,H1,I1,r1,q1⟩=> ?_;refine thn (hb pins s1 σ H1 _ I1 q1) fun u s2 ⟨y,H2,I2,r2,q2⟩=> ?_;exact hf v u s2 x y H2 I2 r1 r2 q2
theorem zal{op:Operator}{r:R2}(ho:OpR X (binaryOp op) r)(ha:PE X a ta)(hb:PE X b tb):PE X (.BinOp a op b pos) (tOp r ta tb):=by
 intro pins s σ H Q I h;exact wpAny_BinOp (zjG ha hb I h fun v u s2 x y H2 I2 rx ry q=>ho pins s2 σ H2 x y v u Q I2 rx ry q)
theorem zky{op:UnaryOp}{r:V→Hp→VK→Prop}(ho:UnR X (unaryOp op) r)(ha:PE X a ta):PE X (.UnaryOp op a pos) (tUn r ta):=by
 intro pins s σ H Q I h;exact UnaryOp_ (thn (ha pins s σ H _ I h) fun v s1 ⟨x,H1,I1,r1,q1⟩=>ho pins s1 σ H1 x v Q I1 r1 q1)
theorem opI{f:Value→Value→Sem Value}{C:Int→Int→Prop}{g:Int→Int→Int}
  (rule: ∀(i j:Int) (t u:Tok) (s:Shared) (Q:Value→Shared→Prop) (E:Value→Shared→Prop),C i j→Q (.int (g i j) s.toks) {s with toks:=s.toks+1}→wpAny (model X.prog X.w) X.A (f (.int i t) (.int j u)) Q E s):
  OpR X f (rI C fun i j=> .int (g i j)):=by
 intro pins s σ H x y v u Q I rx ry h;obtain⟨i,j,rfl,rfl,hc,q⟩:=h;obtain⟨t,rfl⟩:=rx;obtain⟨t',rfl⟩:=ry;exact rule i j t t' s _ _ hc ⟨.int (g i j),H,I.tok _,⟨_,rfl⟩,q⟩
theorem zkz{f:Value→Value→Sem Value}{g:Int→Int→Int}
  (rule: ∀(i j:Int) (t u:Tok) (s:Shared) (Q:Value→Shared→Prop) (E:Value→Shared→Prop),Q (.int (g i j) s.toks) {s with toks:=s.toks+1}→wpAny (model X.prog X.w) X.A (f (.int i t) (.int j u)) Q E s):
  OpR X f (rI0 fun i j=> .int (g i j)):=by
 intro pins s σ H x y v u Q I rx ry h;obtain⟨i,j,rfl,rfl,q⟩:=h;obtain⟨t,rfl⟩:=rx;obtain⟨t',rfl⟩:=ry;exact rule i j t t' s _ _ ⟨.int (g i j),H,I.tok _,⟨_,rfl⟩,q⟩
theorem ziM{f:Value→Value→Sem Value}{g:Int→Int→Bool}
  (rule: ∀(i j:Int) (t u:Tok) (s:Shared) (Q:Value→Shared→Prop) (E:Value→Shared→Prop),Q (.bool (g i j)) s→wpAny (model X.prog X.w) X.A (f (.int i t) (.int j u)) Q E s):
  OpR X f (rI0 fun i j=> .bl (g i j)):=by
 intro pins s σ H x y v u Q I rx ry h;obtain⟨i,j,rfl,rfl,q⟩:=h;obtain⟨t,rfl⟩:=rx;obtain⟨t',rfl⟩:=ry;exact rule i j t t' s _ _ ⟨.bl (g i j),H,I,rfl,q⟩
def zbW(i j:Int):Prop:=0<j∧j<1073741824
def zkA(i j:Int):Prop:=0≤j∧j≤1000000∧i.natAbs<2 ^ 64
def ziN(i j:Int):Prop:=(-(2 ^ 64)<i∧i<2 ^ 64)∨(-(2 ^ 64)<j∧j<2 ^ 64)
theorem ziN.ok{i j:Int}(h:ziN i j):IntMulOk i j:=by
 rcases h with⟨h1,h2⟩|⟨h1,h2⟩
 ·exact .of_left (intBits_le_64 h1 h2)
 ·exact .of_right (intBits_le_64 h1 h2)
theorem zbf:OpR X (binaryOp .Add) (rI0 fun i j=> .int (i+j)):=zkz fun _ _ _ _ _ _ _ q=>add_int q
theorem zdo:OpR X (binaryOp .Sub) (rI0 fun i j=> .int (i - j)):=zkz fun _ _ _ _ _ _ _ q=>sub_int q
theorem zem:OpR X (binaryOp .Mult) (rI ziN fun i j=> .int (i*j)):=opI fun _ _ _ _ _ _ _ hc q=>mul_int q hc.ok
theorem zdc:OpR X (binaryOp .FloorDiv) (rI zbW fun i j=> .int (i / j)):=opI fun i j _ _ _ _ _ hc q=>by
 have h1:(0:Int)<j:=hc.1;have h2:j<1073741824:=hc.2;exact floordiv_int (by omega) (by rw[Int.fdiv_eq_ediv_of_nonneg i (by omega)];exact q) (.inl (PyProof.noPylong_small (by omega)))
theorem zcs:OpR X (binaryOp .Mod) (rI (fun _ j=>0<j) fun i j=> .int (i % j)):=opI fun i j _ _ _ _ _ hc q=>by
 have h1:(0:Int)<j:=hc;exact mod_int' (by omega) (by rw[Int.fmod_eq_emod_of_nonneg i (by omega)];exact q)
theorem zhR:OpR X (binaryOp .Pow) (rI zkA fun i j=> .int (i ^ j.toNat)):=opI fun _ _ _ _ _ _ _ hc q=>pow_int_small hc.1 hc.2.1 hc.2.2 q
theorem unI{f:Value→Sem Value}{g:Int→Int}
  (rule: ∀(i:Int) (t:Tok) (s:Shared) (Q:Value→Shared→Prop) (E:Value→Shared→Prop),Q (.int (g i) s.toks) {s with toks:=s.toks+1}→wpAny (model X.prog X.w) X.A (f (.int i t)) Q E s):
  UnR X f (rU fun i=> .int (g i)):=by
 intro pins s σ H x v Q I rx h;obtain⟨i,rfl,q⟩:=h;obtain⟨t,rfl⟩:=rx;exact rule i t s _ _ ⟨.int (g i),H,I.tok _,⟨_,rfl⟩,q⟩
theorem zjH:UnR X (unaryOp .USub) (rU fun i=> .int (-i)):=unI fun _ _ _ _ _ q=>neg_int q
end
def zgg:V→V→Bool
 | .non, .non=>true| .non, .int _=>true| .int _, .non=>true| .non, .bl _=>true| .bl _, .non=>true| .non, .str _=>true| .str _, .non=>true
 | .int _, .int _=>true| .bl _, .bl _=>true| .str _, .str _=>true| .byt _, .byt _=>true
 | .int _, .str _=>true| .str _, .int _=>true| .bl _, .str _=>true| .str _, .bl _=>true
 |_,_=>false
def rEq:R2:=fun x y H Q=>zgg x y=true∧Q (.bl (decide (x=y))) H
def rNe:R2:=fun x y H Q=>zgg x y=true∧Q (.bl (!decide (x=y))) H
theorem zgM{i j:Int}:decide (V.int i=V.int j)=(i==j):=by
 rw[Bool.eq_iff_iff];simp
theorem zhS{i j:Bool}:decide (V.bl i=V.bl j)=(i==j):=by
 rw[Bool.eq_iff_iff];simp
theorem zgN{i j:Str}:decide (V.str i=V.str j)=(i==j):=by
 rw[Bool.eq_iff_iff];simp
theorem zgO{i j:Array UInt8}:decide (V.byt i=V.byt j)=(i.toList==j.toList):=by
 rw[Bool.eq_iff_iff];cases i;cases j;simp
section
variable {X:Cx} {a b c:Expr} {ta tb tc:TE} {pos:Pos}
theorem zaY{pins:List (Addr×Obj)}{σ:St}{H:Hp}{s:Shared}{Q:VK}{k k':Bool}(I:Inv X pins σ H s)(q:Q (.bl k) H)(e:k=k'):EP X pins σ Q (.bool k') s:=by
 subst e;exact⟨.bl k,H,I,rfl,q⟩
theorem zca:OpR X (compareOp .Eq) rEq:=by
 intro pins s σ H x y v u Q I rx ry h;obtain⟨hs,q⟩:=h;cases x with
 |non=>
  cases rx;cases y with
  |non=>cases ry;exact PySem.EqNone.eq_none_none (zaY I q (by simp))
  |bl j=>cases ry;exact PySem.EqNone.eq_none_bool (zaY I q (by simp))
  |int j=>obtain⟨t',rfl⟩:=ry;exact PySem.EqNone.eq_none_int (zaY I q (by simp))
  |str j=>obtain⟨t',rfl⟩:=ry;exact PySem.EqNone.eq_none_str (zaY I q (by simp))
  |_=>exact absurd (show false=true from hs) Bool.false_ne_true
 |bl i=>
  cases rx;cases y with
  |non=>cases ry;exact PySem.EqNone.eq_bool_none (zaY I q (by simp))
  |bl j=>cases ry;exact eq_bool (zaY I q zhS)
  |str j=>obtain⟨t',rfl⟩:=ry;exact PySem.EqMixed.eq_bool_str (zaY I q (by simp))
  |_=>exact absurd (show false=true from hs) Bool.false_ne_true
 |int i=>
  obtain⟨t,rfl⟩:=rx;cases y with
  |non=>cases ry;exact PySem.EqNone.eq_int_none (zaY I q (by simp))
  |int j=>obtain⟨t',rfl⟩:=ry;exact eq_int (zaY I q zgM)
  |str j=>obtain⟨t',rfl⟩:=ry;exact PySem.EqMixed.eq_int_str (zaY I q (by simp))
  |_=>exact absurd (show false=true from hs) Bool.false_ne_true
 |str i=>
  obtain⟨t,rfl⟩:=rx;cases y with
  |non=>cases ry;exact PySem.EqNone.eq_str_none (zaY I q (by simp))
  |bl j=>cases ry;exact PySem.EqMixed.eq_str_bool (zaY I q (by simp))
  |int j=>obtain⟨t',rfl⟩:=ry;exact PySem.EqMixed.eq_str_int (zaY I q (by simp))
  |str j=>obtain⟨t',rfl⟩:=ry;exact eq_str (zaY I q zgN)
  |_=>exact absurd (show false=true from hs) Bool.false_ne_true
 |byt i=>
  obtain⟨t,rfl⟩:=rx;cases y with
  |byt j=>obtain⟨t',rfl⟩:=ry;exact PySem.W.eq_bytes (zaY I q zgO)
  |_=>exact absurd (show false=true from hs) Bool.false_ne_true
 |_=>cases y<;>exact absurd (show false=true from hs) Bool.false_ne_true
theorem zcZ:OpR X (compareOp .NotEq) rNe:=by
 intro pins s σ H x y v u Q I rx ry h;obtain⟨hs,q⟩:=h;cases x with
 |non=>
  cases rx;cases y with
  |non=>cases ry;exact PySem.EqNone.ne_none_none (zaY I q (by simp))
  |bl j=>cases ry;exact PySem.EqNone.ne_none_bool (zaY I q (by simp))
  |int j=>obtain⟨t',rfl⟩:=ry;exact PySem.EqNone.ne_none_int (zaY I q (by simp))
  |str j=>obtain⟨t',rfl⟩:=ry;exact PySem.EqNone.ne_none_str (zaY I q (by simp))
  |_=>exact absurd (show false=true from hs) Bool.false_ne_true
 |bl i=>
  cases rx;cases y with
  |non=>cases ry;exact PySem.EqNone.ne_bool_none (zaY I q (by simp))
  |bl j=>cases ry;exact ne_bool (zaY I q (congrArg not zhS))
  |str j=>obtain⟨t',rfl⟩:=ry;exact PySem.EqMixed.ne_bool_str (zaY I q (by simp))
  |_=>exact absurd (show false=true from hs) Bool.false_ne_true
 |int i=>
  obtain⟨t,rfl⟩:=rx;cases y with
  |non=>cases ry;exact PySem.EqNone.ne_int_none (zaY I q (by simp))
  |int j=>obtain⟨t',rfl⟩:=ry;exact ne_int (zaY I q (congrArg not zgM))
  |str j=>obtain⟨t',rfl⟩:=ry;exact PySem.EqMixed.ne_int_str (zaY I q (by simp))
  |_=>exact absurd (show false=true from hs) Bool.false_ne_true
 |str i=>
  obtain⟨t,rfl⟩:=rx;cases y with
  |non=>cases ry;exact PySem.EqNone.ne_str_none (zaY I q (by simp))
  |bl j=>cases ry;exact PySem.EqMixed.ne_str_bool (zaY I q (by simp))
  |int j=>obtain⟨t',rfl⟩:=ry;exact PySem.EqMixed.ne_str_int (zaY I q (by simp))
  |str j=>obtain⟨t',rfl⟩:=ry;exact ne_str (zaY I q (congrArg not zgN))
  |_=>exact absurd (show false=true from hs) Bool.false_ne_true
 |byt i=>
  obtain⟨t,rfl⟩:=rx;cases y with
  |byt j=>obtain⟨t',rfl⟩:=ry;exact PySem.W.ne_bytes (zaY I q (congrArg not zgO))
  |_=>exact absurd (show false=true from hs) Bool.false_ne_true
 |_=>cases y<;>exact absurd (show false=true from hs) Bool.false_ne_true
theorem zdl:OpR X (compareOp .Lt) (rI0 fun i j=> .bl (decide (i<j))):=ziM fun _ _ _ _ _ _ _ q=>lt_int q
theorem zhT:OpR X (compareOp .LtE) (rI0 fun i j=> .bl (decide (i≤j))):=ziM fun _ _ _ _ _ _ _ q=>le_int q
theorem zc0:OpR X (compareOp .Gt) (rI0 fun i j=> .bl (decide (j<i))):=ziM fun _ _ _ _ _ _ _ q=>gt_int q
theorem zkB:OpR X (compareOp .GtE) (rI0 fun i j=> .bl (decide (j≤i))):=ziM fun _ _ _ _ _ _ _ q=>ge_int q
theorem zfl:OpR X (compareOp .NotIn) (fun x y H Q=> ∃i j,x= .str i∧y= .str j∧Q (.bl (!(!(Builtin.Str.occurrences j i 0 j.length 1).isEmpty))) H):=by
 intro pins s σ H x y v u Q I rx ry h;obtain⟨i,j,rfl,rfl,q⟩:=h;obtain⟨t,rfl⟩:=rx;obtain⟨t',rfl⟩:=ry;exact notIn_str (zaY I q rfl)
theorem OpR.or{f:Value→Value→Sem Value}{r r':R2}(h:OpR X f r)(h':OpR X f r'):OpR X f (fun x y H Q=>r x y H Q∨r' x y H Q):=by
 intro pins s σ H x y v u Q I rx ry q;rcases q with q|q
 ·exact h pins s σ H x y v u Q I rx ry q
 ·exact h' pins s σ H x y v u Q I rx ry q
theorem zar(b:Expr){op:CmpOp}(h:op≠ .In:=by decide)(h2:op≠ .NotIn:=by decide):behindInMarks op b=false:=by
 have e1:(op==CmpOp.In)=false:=by cases op<;>first|rfl|exact absurd rfl h
 have e2:(op==CmpOp.NotIn)=false:=by cases op<;>first|rfl|exact absurd rfl h2
 cases b<;>simp [behindInMarks,e1,e2]
theorem zbA{op:CmpOp}{r:R2}(ho:OpR X (compareOp op) r)(ha:PE X a ta)(hb:PE X b tb)(hm:behindInMarks op b=false):PE X (.Compare a [op] [b] pos) (tOp r ta tb):=by
 intro pins s σ H Q I h;exact wpAny_Compare1 (zjG ha hb I h fun v u s2 x y H2 I2 rx ry q=>ho pins s2 σ H2 x y v u Q I2 rx ry q) hm
def zbj(t:TE):TT:=fun σ H Q=>t σ H fun x H'=> ∃k,x= .bl k∧Q k H'
theorem zas{op:CmpOp}{r:R2}(ho:OpR X (compareOp op) r)(ha:PE X a ta)(hb:PE X b tb)(hm:behindInMarks op b=false):PT X (.Compare a [op] [b] pos) (zbj (tOp r ta tb)):=by
 intro pins s σ H Q I h;refine wpAny_isTrue_Compare1 (thn (ha pins s σ H _ I h) fun v s1 ⟨x,H1,I1,r1,q1⟩=>thn (hb pins s1 σ H1 _ I1 q1) fun u s2 ⟨y,H2,I2,r2,q2⟩=>
  thn (ho pins s2 σ H2 x y v u _ I2 r1 r2 q2) fun c s3 ⟨z,H3,I3,r3,k,e,q3⟩=> ?_) hm
 subst e;cases r3;exact wpAny_truthy_bool ⟨H3,I3,q3⟩
def za2(r r':R2)(ta tb tc:TE):TE:=fun σ H Q=>ta σ H fun x H1=>tb σ H1 fun y H2=>r x y H2 fun z H3=> ∃k,z= .bl k∧
 (if k=true then tc σ H3 fun w' H4=>r' y w' H4 Q else Q (.bl false) H3)
theorem zdP:(sizeLine:Nat)<2 ^ 63:=by rw[sizeLine_eq];decide
theorem zgh:OpR X (binaryOp .Add) (fun x y H Q=> ∃i j,x= .str i∧y= .str j∧i.length+j.length≤sizeLine∧Q (.str (i++j)) H):=by
 intro pins s σ H x y v u Q I rx ry h;obtain⟨i,j,rfl,rfl,hz,q⟩:=h;obtain⟨t,rfl⟩:=rx;obtain⟨t',rfl⟩:=ry;exact add_str (fun t' tk=>⟨.str (i++j),H,I.tok _,⟨_,rfl⟩,q⟩) hz
theorem zcL{x:V}{us:List Value}(r:zaP [x] us): ∃u,us= [u]∧zaB x u:=by
 cases r with
 |cons r1 r2=>cases r2;exact⟨_,rfl,r1⟩
theorem zgP{x y:V}{us:List Value}(r:zaP [x,y] us): ∃u w',us= [u,w']∧zaB x u∧zaB y w':=by
 cases r with
 |cons r1 r2=>
  cases r2 with
  |cons r3 r4=>cases r4;exact⟨_,_,rfl,r1,r3⟩
theorem zhU:zbI X (.builtin "abs") (fun xs H Q=> ∃i,xs= [.int i]∧Q (.int (if i<0 then -i else i)) H):=by
 intro pins s σ H xs us Q I r h;obtain⟨i,rfl,q⟩:=h;obtain⟨u,rfl,t,rfl⟩:=zcL r;exact call_abs_int fun u tk=>⟨.int (if i<0 then -i else i),H,I.tok _,⟨_,rfl⟩,q⟩
theorem zeW(hc:X.calm=true):zbI X (.builtin "min") (fun xs H Q=> ∃i j,xs= [.int i, .int j]∧Q (.int (if j<i then j else i)) H):=by
 intro pins s σ H xs us Q I r h;obtain⟨i,j,rfl,q⟩:=h;obtain⟨u,w',rfl,⟨t,rfl⟩,⟨t',rfl⟩⟩:=zgP r;refine min_two_ints (I.ok.hd hc) fun h' tk k=>⟨_,H,I.kept k,?_,q⟩
 by_cases hj:j<i
 ·rw[if_pos hj,if_pos hj];exact⟨_,rfl⟩
 ·rw[if_neg hj,if_neg hj];exact⟨_,rfl⟩
theorem zhh:zbI X (.type "int") (fun xs H Q=>(∃i,xs= [.int i]∧Q (.int i) H)∨ ∃k,xs= [.bl k]∧Q (.int (if k then 1 else 0)) H):=by
 intro pins s σ H xs us Q I r h;rcases h with⟨i,rfl,q⟩|⟨k,rfl,q⟩
 ·obtain⟨u,rfl,t,rfl⟩:=zcL r;exact call_int_int ⟨.int i,H,I,⟨_,rfl⟩,q⟩
 ·obtain⟨u,rfl,r1⟩:=zcL r;cases r1;exact call_int_bool ⟨.int (if k then 1 else 0),H,I.tok _,⟨_,rfl⟩,q⟩
theorem zfm:zbI X (.type "str") (fun xs H Q=> ∃i,xs= [.int i]∧i.natAbs.log2<1920∧Q (.str (toString i)) H):=by
 intro pins s σ H xs us Q I r h;obtain⟨i,rfl,hz,q⟩:=h;obtain⟨u,rfl,t,rfl⟩:=zcL r;exact PySem.P.str_of_int hz ⟨.str _,H,I.tok _,⟨_,rfl⟩,q⟩
theorem zdZ:zbI X (.builtin "divmod") (fun xs H Q=> ∃i j,xs= [.int i, .int j]∧zbW i j∧ ∀p,H p=none→Q (.ref p) (upd H p (.tup [.int (i / j), .int (i % j)]))):=by
 intro pins s σ H xs us Q I r h;obtain⟨i,j,rfl,⟨h1,h2⟩,q⟩:=h;obtain⟨u,w',rfl,⟨t,rfl⟩,⟨t',rfl⟩⟩:=zgP r;refine divmod_int (by omega) ?_ (.inl (PyProof.noPylong_small (by omega)));rw[Int.fdiv_eq_ediv_of_nonneg i (by omega),Int.fmod_eq_emod_of_nonneg i (by omega)];have hn:H s.heap.objs.size=none:=I.hok.fresh (Nat.le_refl _);refine⟨.ref s.heap.objs.size,_,?_,rfl,q _ hn⟩;refine I.laid (fun b o e=>Heap.get?_push_of_some _ e) (Nat.le_refl _) ⟨by simp only[List.length_cons,List.length_nil];rw[sizeLine_eq];decide, [.int (i / j) s.toks, .int (i % j) (s.toks+1)], .cons ⟨_,rfl⟩ (.cons ⟨_,rfl⟩ .nil),?_⟩;exact⟨_,Heap.get?_push_size s.heap rfl,rfl,0,rfl⟩
end
end L2
namespace L2
open PySem PySem.Spec PyProof.Rows
structure ObjM (h:Heap) (x dx C:Addr) (mA:Str→Option Value):Prop where
 obj:h.get? x=some (PySem.W.instObj C dx)
 ns:h.Ns1 dx mA
 ne:dx≠x
theorem zhi{h:Heap}{dx:Addr}{mA:Str→Option Value}(n:h.Ns1 dx mA): ∃od,h.get? dx=some od∧ ∀name,PySem.W.lookIn name od=some (mA name):=by
 obtain⟨o,es,ep,ho,hd,hk,_,hm⟩:=n;refine⟨o,ho,fun name=> ?_⟩;have e:=hm name;unfold nsFind findBy at e;rw[←Array.find?_toList] at e;unfold PySem.W.lookIn;rw[hd];dsimp only;split
 ·rename_i y q;rw[q] at e;exact congrArg some e
 ·rename_i q;rw[q] at e;have a:es.toList.any (·.refKey)=false:=by
   rw[List.any_eq_false];intro y hy;obtain⟨z,t,hkey⟩:=hk y (Array.mem_toList_iff.mp hy);simp [DictEntry.refKey,hkey]
  have a': ¬es.toList.any (·.refKey)=true:=by rw[a];exact Bool.false_ne_true
  rw[if_neg a'];exact congrArg some e
theorem ObjM.look{h:Heap}{x dx C:Addr}{mA:Str→Option Value}(I:ObjM h x dx C mA): ∃od,PySem.W.InstAt h x (PySem.W.instObj C dx) C (some od)∧ ∀name,PySem.W.lookIn name od=some (mA name):=
 let ⟨od,ho,hl⟩:=zhi I.ns
 ⟨od,⟨I.obj,rfl,rfl,ho⟩,hl⟩
section
variable {prog:Program} {w:World} {A:Around} {E:Value→Shared→Prop} {s:Shared} {K:Fg} {x dx C f:Addr} {mA:Str→Option Value} {name:Str} {v:Value}
end
theorem zek.none_of{o:Option Value}(r:zek none o):o=none:=by
 cases o with
 |none=>rfl
 |some u=>exact(show False from r).elim
section
variable {P:Program} {w:World} {H H':Hp} {h h':Heap} {a C dx:Addr} {fs fs':List (Str×V)}
theorem ziO(hok:HOk P w H h)(e:H a=some (.ins C dx fs)): ∃mA,ObjM h a dx C mA∧(∀f,zek (fs.lookup f) (mA f))∧PySem.Within mA (fs.map (·.1))∧fs.length≤1000∧H dx=some (.own a):=by
 obtain⟨d,z,ne,ob,mA,n,r,q⟩:=(show zbm P w H h a (.ins C dx fs) from hok a _ e)
 exact⟨mA,⟨ob,n,ne⟩,r,q,z,d⟩
end
structure Cls (K:Fg) (C:Addr):Prop where
 pg:PySem.W.plainGet K C Str.empty=true
 hd:PySem.W.hasDictIn K C=true
 po:PySem.W.plainOver K C=true
 sa:PySem.W.findIn K (.ref C) "__setattr__"=some (some (.builtin "object.__setattr__"))
theorem Cls.get{K:Fg}{C:Addr}(c:Cls K C)(f:Str):PySem.W.plainGet K C f=true:=c.pg
structure Con (K:Fg) (C:Addr) (f:Str) (v:V) (u:Value):Prop where
 at_:PySem.W.findIn K (.ref C) f=some (some u)
 rel:zaB v u
 get:PySem.W.specialIn K u "__get__"=some none
 cp:PySem.W.copiedNames.contains f=false
structure Meth (K:Fg) (C:Addr) (m:Str) (f:Addr):Prop where
 at_:PySem.W.findIn K (.ref C) m=some (some (.ref f))
 fn:PySem.W.isFn K (.ref f)=true
 kp:PySem.W.keepIn K (.ref f)=true
section
variable {X:Cx} {pins:List (Addr×Obj)} {σ:St} {H:Hp} {s:Shared} {a C dx:Addr} {fs:List (Str×V)} {f:Str} {v:V} {A:Around} {E:Value→Shared→Prop}
end
section
variable {X:Cx} {o e value:Expr} {f:Str} {pos pos' tpos:Pos} {ta tv:TE}
end
section
variable {X:Cx} {pins:List (Addr×Obj)} {σ:St} {H:Hp} {s:Shared} {A:Around} {E:Value→Shared→Prop} {Q:Value→Shared→Prop} {c:Value} {b:Bool}
inductive TyOf (K:Fg) (H:Hp):V→Value→Prop where
 |non:TyOf K H .non (.type "NoneType")
 |bl (x:Bool):TyOf K H (.bl x) (.type "bool")
 |int (i:Int):TyOf K H (.int i) (.type "int")
 |str (x:Str):TyOf K H (.str x) (.type "str")
 |flt (x:UInt64):TyOf K H (.flt x) (.type "float")
 |lst {a:Addr} {xs:List V} (e:H a=some (.lst xs)):TyOf K H (.ref a) (.type "list")
 |frz {a:Addr} {o:Obj} {xs:List V} (e:H a=some (.frz o (.lst xs))):TyOf K H (.ref a) (.type "list")
 |tup {a:Addr} {xs:List V} (e:H a=some (.tup xs)):TyOf K H (.ref a) (.type "tuple")
 |dK {a:Addr} {kvs:List (Key×V)} (e:H a=some (.dK kvs)):TyOf K H (.ref a) (.type "dict")
 |dT {a:Addr} {kvs:List (List Key×V)} (e:H a=some (.dT kvs)):TyOf K H (.ref a) (.type "dict")
 |ins {a C dx:Addr} {fs:List (Str×V)} (e:H a=some (.ins C dx fs)) (cl:Cls K C) (ha:PySem.W.findIn K (.ref C) "__class__"=some (some (.builtin "object.__class__")))
   (hn:PySem.W.specialIn K (.builtin "object.__class__") "__get__"=some (some (.builtin "getset_descriptor.__get__"))) (htk:PySem.W.takesIn K (.builtin "object.__class__")=some true)
   (hm:PySem.W.mroIn K C (.type "object")=some true):TyOf K H (.ref a) (.ref C)
theorem zhj{x:V}{u t:Value}(I:Inv X pins σ H s)(rx:zaB x u)(ty:TyOf X.K H x t)(e:PySem.W.kitOne X.K t c=some b)(h: ∀tk,Q (.bool b) {s with toks:=tk}):
  wpAny (model X.prog X.w) A (call (.builtin "isinstance") [u,c]) Q E s:=by
 cases ty with
 |non=>cases (show u=Value.none from rx);exact PySem.W.kia_one PySem.W.kitx_none I.kIn True.intro e (fun z=>nomatch z) h
 |bl y=>cases (show u=Value.bool y from rx);exact PySem.W.kia_one PySem.W.kitx_bool I.kIn True.intro e (fun z=>nomatch z) h
 |int i=>obtain⟨t,q⟩:=(show∃t,u=Value.int i t from rx);cases q;exact PySem.W.kia_one PySem.W.kitx_int I.kIn True.intro e (fun z=>nomatch z) h
 |str y=>obtain⟨t,q⟩:=(show∃t,u=Value.str y t from rx);cases q;exact PySem.W.kia_one PySem.W.kitx_str I.kIn True.intro e (fun z=>nomatch z) h
 |flt y=>obtain⟨t,q⟩:=(show∃t,u=Value.float y t from rx);cases q;exact PySem.W.kia_one PySem.W.kitx_float I.kIn True.intro e (fun z=>nomatch z) h
 | @lst a xs ea=>
  cases (show u=Value.ref a from rx);obtain⟨_,_,n,_,h1⟩:=(show zbm X.prog X.w H s.heap a (.lst xs) from I.hok a _ ea)
  exact PySem.W.kia_one PySem.W.kitx_list I.kIn ⟨_,h1,rfl⟩ e (fun z=>nomatch z) h
 | @frz a ob xs ea=>
  cases (show u=Value.ref a from rx);obtain⟨_,_,_,n,_,h1⟩:=(show zbm X.prog X.w H s.heap a (.frz ob (.lst xs)) from I.hok a _ ea)
  exact PySem.W.kia_one PySem.W.kitx_list I.kIn ⟨_,h1,rfl⟩ e (fun z=>nomatch z) h
 | @tup a xs ea=>
  cases (show u=Value.ref a from rx);obtain⟨_,_,_,p⟩:=(show zbm X.prog X.w H s.heap a (.tup xs) from I.hok a _ ea)
  obtain⟨o,h1,h2,_⟩:=p;exact PySem.W.kia_one PySem.W.kitx_tuple I.kIn ⟨o,h1,h2⟩ e (fun z=>nomatch z) h
 | @dK a kvs ea=>
  cases (show u=Value.ref a from rx);obtain⟨_,_,vs,_,p⟩:=(show zbm X.prog X.w H s.heap a (.dK kvs) from I.hok a _ ea)
  obtain⟨o,es,ep,h1,h2,_⟩:=p;exact PySem.W.kia_one PySem.W.kitx_dict I.kIn ⟨o,h1,h2.1⟩ e (fun z=>nomatch z) h
 | @dT a kvs ea=>
  cases (show u=Value.ref a from rx);obtain⟨_,_,xs,_,o,es,ep,h1,h2,_⟩:=(show zbm X.prog X.w H s.heap a (.dT kvs) from I.hok a _ ea)
  exact PySem.W.kia_one PySem.W.kitx_dict I.kIn ⟨o,h1,h2.1⟩ e (fun z=>nomatch z) h
 | @ins a C dx fs ea cl ha hn htk hm=>
  cases (show u=Value.ref a from rx);obtain⟨mA,O,_⟩:=ziO I.hok ea;obtain⟨od,J,_⟩:=O.look;exact PySem.W.kia_one (PySem.W.kitx_own (cl.get _) cl.hd ha hn htk hm) I.kIn J e (fun z=>nomatch z) h
end
end L2
namespace L2
open PySem PySem.Spec PyProof.Rows
structure Room (k:Nat) (A:Around):Prop where
 hd:A.handled=none
 dp:A.depth+3*k+5<recursionLimit
 un:A.units+16*k+200<cLine
theorem Room.mono{j k:Nat}{A:Around}(r:Room k A)(h:j≤k):Room j A:=⟨r.hd,by have:=r.dp;omega,by have:=r.un;omega⟩
theorem Room.deeper{k:Nat}{A:Around}(r:Room (k+1) A)(env:Env):Room k (A.deeper env):=
 ⟨r.hd,by have:=r.dp;show A.depth+1+3*k+5<_;omega,by have:=r.un;show A.units+3+16*k+200<_;omega⟩
theorem Room.in1{k:Nat}{A:Around}(r:Room (k+1) A):Room k A.in1:=
 ⟨r.hd,by have:=r.dp;show A.depth+3*k+5<_;omega,by have:=r.un;show A.units+1+16*k+200<_;omega⟩
theorem zgi{A:Around}{C:Addr}{us:List Value}{kw:List (Str×Value)}:(A.under (.builtin "type.__call__" ⟨.ref C::us,kw⟩)).depth=A.depth+1:=by
 first|rfl|simp [Around.under,Code.weight,Code.isCreation,Code.isGuard,Code.isCaller,Code.frames,Code.isFrame,guardIds]
theorem zgj{A:Around}{C:Addr}{us:List Value}{kw:List (Str×Value)}:(A.under (.builtin "type.__call__" ⟨.ref C::us,kw⟩)).units=A.units+1:=by
 first|rfl|simp [Around.under,Code.cUnits,Code.frames,Code.isFrame]
theorem Room.make{k:Nat}{A:Around}(r:Room (k+1) A)(C:Addr)(us:List Value)(kw:List (Str×Value)):Room k (A.under (.builtin "type.__call__" ⟨.ref C::us,kw⟩)):=
 ⟨r.hd,by have:=r.dp;rw[zgi];omega,by have:=r.un;rw[zgj];omega⟩
theorem Room.depth{k:Nat}{A:Around}(r:Room k A):A.depth<recursionLimit:=by have:=r.dp;omega
theorem Room.units{k:Nat}{A:Around}(r:Room k A):A.units+64<cLine:=by have:=r.un;omega
def zb1:TA:=fun _ H Q=>Q [] H
def zbk(ta:TE)(tr:TA):TA:=fun σ H Q=>ta σ H fun x H1=>tr σ H1 fun xs H2=>Q (x::xs) H2
section
variable {X:Cx} {e:Expr} {es:List Expr} {te:TE} {t:TA} {pos:Pos}
theorem zad:PA X [] zb1:=fun _ _ _ _ H Q I h=>Calls.spliced_nil ⟨[],H,I, .nil,h⟩
theorem zaa(ha:PE X e te)(hr:PA X es t)(hs:starEach (e::es) X.env=(false,eval e X.env)::starEach es X.env:=by rfl):PA X (e::es) (zbk te t):=by
 intro pos pins s σ H Q I h;rw[hs];show wpAny _ _ (spliced ((false,eval e X.env)::backTo pos (starEach es X.env))) _ _ s;refine Calls.spliced_cons (thn (ha pins s σ H _ I h) fun u s1 ⟨x,H1,I1,r1,q1⟩=> ?_);exact thn (hr pos pins s1 σ H1 _ I1 q1) fun us s2 ⟨xs,H2,I2,r2,q2⟩=>⟨x::xs,H2,I2, .cons r1 r2,q2⟩
def zb2(t:TA):TE:=fun σ H Q=>t σ H fun xs H1=>xs.length≤sizeLine∧ ∀p,H1 p=none→Q (.ref p) (upd H1 p (.tup xs))
def zb3(t:TA):TE:=fun σ H Q=>t σ H fun xs H1=>xs.length≤sizeLine∧ ∀p,H1 p=none→Q (.ref p) (upd H1 p (.lst xs))
theorem zjI{x1}(h:PA X es t):PE X (.Tuple es x1 pos) (zb2 t):=by
 intro pins s σ H Q I hq;refine wpAny_Tuple_spliced (thn (h pos pins s σ H _ I hq) fun us s1 ⟨xs,H1,I1,r,z,q⟩=>⟨by rw[←r.length];exact z,?_⟩);have hf:H1 s1.heap.objs.size=none:=I1.hok.fresh (Nat.le_refl _);refine⟨.ref s1.heap.objs.size,upd H1 s1.heap.objs.size (.tup xs),I1.laid (t':=s1.toks) (fun b u e=>Heap.get?_push_of_some _ e) (Nat.le_refl _) ?_,rfl,q _ hf⟩;exact⟨z,us,r,⟨_,Heap.get?_push_size _ rfl,rfl,_,rfl⟩⟩
theorem zjJ(h:PA X es t):PE X (.List es pos) (zb3 t):=by
 intro pins s σ H Q I hq;refine wpAny_List_spliced (thn (h pos pins s σ H _ I hq) fun us s1 ⟨xs,H1,I1,r,z,q⟩=>⟨by rw[←r.length];exact z,?_⟩);have hf:H1 s1.heap.objs.size=none:=I1.hok.fresh (Nat.le_refl _);refine⟨.ref s1.heap.objs.size,upd H1 s1.heap.objs.size (.lst xs),I1.laid (t':=s1.toks) (fun b u e=>Heap.get?_push_of_some _ e) (Nat.le_refl _) ?_,rfl,q _ hf⟩;exact⟨z,us,0,r,Heap.get?_push_size _ rfl⟩
end
abbrev Sp:=List V→Hp→VK→XK→Prop
abbrev CXT:=List Env→Hp→Shared→XK→Value→Shared→Prop
structure Env0 (P:Program) (w:World) (K:Fg) (mg:Str→Option Value) (base:Heap) (A:Around) (outer:List Env) (s:Shared) (H:Hp):Prop where
 frames:A.frames=some outer
 mod:Mod K mg base
 bs: ∀b o,base.get? b=some o→s.heap.get? b=some o∧H b=none
 bsz:base.objs.size≤s.heap.objs.size
 funs:s.heap.FunFrames base outer
 frf: ∀b∈frs outer,H b=none
 hok:HOk P w H s.heap
 bare:AllBare s.gens
def CE(outer:List Env)(P:Program)(w:World)(H:Hp)(s:Shared)(Q:VK)(u:Value)(s':Shared):Prop:=
 ∃v H',s'.os=s.os∧AllBare s'.gens∧Un (frs outer) [] H H' s.heap s'.heap∧HOk P w H' s'.heap∧zaB v u∧Q v H'
def CR(CX:CXT)(outer:List Env)(P:Program)(w:World)(H:Hp)(s:Shared)(Q:VK)(E:XK)(r:Result)(s':Shared):Prop:=
 match r with
 | .ok (.ret u)=>CE outer P w H s Q u s'
 | .ok _=>False
 | .error e=>CX outer H s E e s'
structure FnOk (P:Program) (w:World) (K:Fg) (mg:Str→Option Value) (base:Heap) (CX:CXT) (k:Nat) (f:Addr) (fd:FuncData) (ps:List Str) (sp:Sp):Prop where
 len: ∀vs H Q E,sp vs H Q E→vs.length=ps.length
 run: ∀(A:Around) (outer:List Env) (s:Shared) (H:Hp) (args:Args) (us:List Value) (vs:List V) (Q:VK) (E:XK),Room k A→Env0 P w K mg base A outer s H→BindsTo s fd args (ps.zip us)→zaP vs us→sp vs H Q E→
  codeAny (model P w) A (.call (.ref f) args) (CR CX outer P w H s Q E) s
theorem FnOk.mono{P:Program}{w:World}{K:Fg}{mg:Str→Option Value}{base:Heap}{CX:CXT}{j k:Nat}{f:Addr}{fd:FuncData}{ps:List Str}{sp:Sp}(F:FnOk P w K mg base CX j f fd ps sp)(h:j≤k):
  FnOk P w K mg base CX k f fd ps sp:=⟨F.len,fun A outer s H args us vs Q E hr=>F.run A outer s H args us vs Q E (hr.mono h)⟩
theorem FnOk.imp{P:Program}{w:World}{K:Fg}{mg:Str→Option Value}{base:Heap}{CX:CXT}{k:Nat}{f:Addr}{fd:FuncData}{ps:List Str}{sp sp':Sp}(F:FnOk P w K mg base CX k f fd ps sp)
  (h: ∀vs H Q E,sp' vs H Q E→sp vs H Q E):FnOk P w K mg base CX k f fd ps sp':=
 ⟨fun vs H Q E q=>F.len vs H Q E (h _ _ _ _ q),fun A outer s H args us vs Q E hr he hb hv hs=>F.run A outer s H args us vs Q E hr he hb hv (h _ _ _ _ hs)⟩
theorem Env0.make{P:Program}{w:World}{K:Fg}{mg:Str→Option Value}{base:Heap}{A:Around}{outer:List Env}{s:Shared}{H:Hp}(e:Env0 P w K mg base A outer s H)(C:Addr)(us:List Value)(kw:List (Str×Value)):
  Env0 P w K mg base (A.under (.builtin "type.__call__" ⟨.ref C::us,kw⟩)) outer s H:=⟨by first|exact e.frames|(simpa [Around.under,Code.envs,Code.isFrame,pushEnvs] using e.frames),e.mod,e.bs,e.bsz,e.funs,e.frf,e.hok,e.bare⟩
theorem Env0.in1{P:Program}{w:World}{K:Fg}{mg:Str→Option Value}{base:Heap}{A:Around}{outer:List Env}{s:Shared}{H:Hp}(e:Env0 P w K mg base A outer s H):
  Env0 P w K mg base A.in1 outer s H:=⟨e.frames,e.mod,e.bs,e.bsz,e.funs,e.frf,e.hok,e.bare⟩
section
variable {X:Cx} {pins:List (Addr×Obj)} {σ:St} {H:Hp} {s s':Shared}
theorem Inv.env0(I:Inv X pins σ H s):Env0 X.prog X.w X.K X.mg X.base X.A X.stack s H:=
 ⟨I.ok.frames,I.ok.mod,I.bs,Nat.le_trans I.ok.bsz I.sz,I.stack,I.stkFree,I.hok,I.bare⟩
theorem Inv.after{Q:VK}{u:Value}(I:Inv X pins σ H s)(h:CE X.stack X.prog X.w H s Q u s'):EP X pins σ Q u s':=by
 obtain⟨v,H',os,bare,un,hok,r,q⟩:=h;obtain⟨hh,g,d,t,os'⟩:=s';obtain rfl:os'=s.os:=os;exact⟨v,H',I.call (h':=hh) (g':=g) (d':=d) (t':=t) (ch:= []) un hok bare (fun b z=>absurd z (by simp)),r,q⟩
end
def zaA(K:Fg)(fd:FuncData)(ps:List Str)(ds:List Value):Prop:=
 ∀(s:Shared) (us:List Value),K.In s.heap→(us++ds).length=ps.length→BindsTo s fd ⟨us, []⟩ (ps.zip (us++ds))
theorem zaA.all{K:Fg}{fd:FuncData}{ps:List Str}(h: ∀us:List Value,us.length=ps.length→bindArgs fd ⟨us, []⟩=pure (ps.zip us)):zaA K fd ps []:=fun s us _ hl=>by
 rw[List.append_nil] at hl ⊢;exact .of_eq (h us hl)
section
variable {X:Cx} {CX:CXT} {k:Nat} {f C:Addr} {fd:FuncData} {ps:List Str} {sp:Sp} {dvs:List V} {ds:List Value} {E:XK} {x m:Str} {p pos apos:Pos} {e o:Expr} {es:List Expr} {ta:TE} {t:TA}
structure Mk (K:Fg) (C f:Addr):Prop where
 makes:PySem.W.makesIn K C=true
 init:PySem.W.findIn K (.ref C) "__init__"=some (some (.ref f))
 fn:PySem.W.isFn K (.ref f)=true
 kp:PySem.W.keepIn K (.ref C)=true
end
def PK(X:Cx)(kws:List Keyword)(t:TA):Prop:=
 ∀(pos:Pos) (pins:List (Addr×Obj)) (s:Shared) (σ:St) (H:Hp) (Q:List V→Hp→Prop),Inv X pins σ H s→t σ H Q→wpAny (model X.prog X.w) X.A (evalAll ((backToKw pos (keywordEach kws X.env)).map (·.2))) (AP X pins σ Q) X.xe s
section
variable {X:Cx} {CX:CXT} {k:Nat} {f C:Addr} {fd:FuncData} {ps ks:List Str} {sp:Sp} {E:XK} {x m:Str} {p pos apos kpos:Pos} {e o:Expr} {es:List Expr} {kws:List Keyword} {te ta:TE} {t tk:TA} {nm:Option Str}
structure KBinds (K:Fg) (fd:FuncData) (ps ks:List Str) (g:List Value→List Value→List Value) (gV:List V→List V→List V):Prop where
 to: ∀(s:Shared) (us ws:List Value),K.In s.heap→(g us ws).length=ps.length→BindsTo s fd ⟨us,ks.zip ws⟩ (ps.zip (g us ws))
 rel: ∀{vs:List V} {us:List Value} {zs:List V} {ws:List Value},zaP vs us→zaP zs ws→zaP (gV vs zs) (g us ws)
variable {g:List Value→List Value→List Value} {gV:List V→List V→List V}
end
structure FnScope (N P:List Str) (sc:Scope):Prop where
 kind:sc.kind= .function
 co:sc.isCoroutine=false
 gen:sc.isGenerator=false
 nd:N.Nodup
 pre:N.take P.length=P
 par: ∀x∈P,sc.names.lookup x=some .local∨sc.names.lookup x=some .cell
 nofree: ∀y∈sc.names,y.2≠ .free
theorem zeX{kindOf:Str→Option NameKind}{x:Str}: ∀{binds:List (Str×Value)} {m:Str→Option Value},(∀v,(x,v)∉binds)→bindL kindOf binds m x=m x
 | [],_,_=>rfl
 |(n,v)::r,m,h=>by
  unfold bindL;rw[zeX fun w hw=>h w (List.mem_cons_of_mem _ hw)];split
  ·have:x≠n:=by rintro rfl;exact h v List.mem_cons_self
   simp [this]
  ·rfl
theorem zeY{kindOf:Str→Option NameKind}{x:Str}: ∀{binds:List (Str×Value)} {m:Str→Option Value},(∀v,(x,v)∉binds)→bindC kindOf binds m x=m x
 | [],_,_=>rfl
 |(n,v)::r,m,h=>by
  unfold bindC;rw[zeY fun w hw=>h w (List.mem_cons_of_mem _ hw)];split
  ·rfl
  ·have:x≠n:=by rintro rfl;exact h v List.mem_cons_self
   simp [this]
theorem zeZ{kindOf:Str→Option NameKind}{x:Str}{v:Value}: ∀{P:List Str} {vs:List Value} {i:Nat} {m:Str→Option Value},P.Nodup→P[i]? =some x→vs[i]? =some v→kindOf x=some .local→
  bindL kindOf (P.zip vs) m x=some v
 | [],_,_,_,_,h,_,_=>by simp at h
 |_::_, [],_,_,_,_,h,_=>by simp at h
 |p::P,w::vs,0,m,nd,h1,h2,hk=>by
  simp at h1 h2;subst h1;subst h2;show bindL kindOf ((p,w)::P.zip vs) m p=_;unfold bindL;rw[zeX fun v hv=>(List.nodup_cons.mp nd).1 (List.of_mem_zip hv).1,if_pos hk];simp
 |p::P,w::vs,i+1,m,nd,h1,h2,hk=>by
  show bindL kindOf ((p,w)::P.zip vs) m x=_;unfold bindL;exact zeZ (i:=i) (List.nodup_cons.mp nd).2 (by simpa using h1) (by simpa using h2) hk
theorem ze0{kindOf:Str→Option NameKind}{x:Str}{v:Value}: ∀{P:List Str} {vs:List Value} {i:Nat} {m:Str→Option Value},P.Nodup→P[i]? =some x→vs[i]? =some v→kindOf x≠some .local→
  bindC kindOf (P.zip vs) m x=some v
 | [],_,_,_,_,h,_,_=>by simp at h
 |_::_, [],_,_,_,_,h,_=>by simp at h
 |p::P,w::vs,0,m,nd,h1,h2,hk=>by
  simp at h1 h2;subst h1;subst h2;show bindC kindOf ((p,w)::P.zip vs) m p=_;unfold bindC;rw[zeY fun v hv=>(List.nodup_cons.mp nd).1 (List.of_mem_zip hv).1,if_neg hk];simp
 |p::P,w::vs,i+1,m,nd,h1,h2,hk=>by
  show bindC kindOf ((p,w)::P.zip vs) m x=_;unfold bindC;exact ze0 (i:=i) (List.nodup_cons.mp nd).2 (by simpa using h1) (by simpa using h2) hk
def start(N:List Str)(vs:List V):St:=vs.map some++List.replicate (N.length - vs.length) none
def zcM(CX:CXT)(P:Program)(w:World)(K:Fg)(mg:Str→Option Value)(base:Heap)(N:List Str)(qual:Str)(scope:Scope)(f:Addr)(cd:Value)(A:Around)(outer:List Env)(s:Shared)(H:Hp)(E:XK):Cx where
 prog:=P
 w:=w
 K:=K
 mg:=mg
 base:=base
 A:=A.deeper (envOfC qual scope s.heap.objs.size f cd)
 N:=N
 s₀:=s
 H₀:=H
 env:=envOfC qual scope s.heap.objs.size f cd
 outer:=outer
 stack:=envOfC qual scope s.heap.objs.size f cd::outer
 ex:= []
 calm:=true
 fn:=fun _=>true
 pn:= []
 xe:=fun e s'=>wpAny (model P w) (A.deeper (envOfC qual scope s.heap.objs.size f cd)) (leaving (envOfC qual scope s.heap.objs.size f cd) e) (fun _ s''=>CX outer H s E e s'') (fun e' s''=>CX outer H s E e' s'') s'
theorem zfS{sc:Scope}{n:Nat}{x:Str}(h:sc.names.lookup x=some .cell): ∃c,(cellsFrom n sc.names []).lookup x=some c:=by
 have q:=PySem.W.cellsFrom_some sc.names n [] (.inl h);exact Option.isSome_iff_exists.mp q
theorem ze1{CX:CXT}{P:Program}{w:World}{K:Fg}{mg:Str→Option Value}{base:Heap}{N ps:List Str}{qual:Str}{scope:Scope}{f:Addr}{cd:Value}{A:Around}{outer:List Env}{s s1:Shared}{H:Hp}{E:XK}{us:List Value}{vs:List V}
  (S:FnScope N ps scope) (hd:A.handled=none) (e0:Env0 P w K mg base A outer s H) (hl:vs.length=ps.length) (r:zaP vs us)
  (x:InCallC s s.heap.objs.size (bindL (envOfC qual scope s.heap.objs.size f cd).kindOf (ps.zip us) fun _=>none) (cellsFrom (s.heap.objs.size+1) scope.names []) (bindC (envOfC qual scope s.heap.objs.size f cd).kindOf (ps.zip us) fun _=>none) s1):
  Inv (zcM CX P w K mg base N qual scope f cd A outer s H E) [] (start N vs) H s1:=by
 have hpl:ps.length≤N.length:=by have:=congrArg List.length S.pre;rw[List.length_take] at this;omega
 obtain⟨h1,tk,rfl,hk⟩:=x.done;have noA: ∀b:Addr,b∉(zcM CX P w K mg base N qual scope f cd A outer s H E).ex:=fun b z=>absurd (show b∈([]:List Addr) from z) (by simp);refine⟨⟨e0.mod,S.kind,rfl,rfl,Nat.le_refl _,fun y z c h1 h2=> ?_,fun y hy=> ?_,fun y c _ h=> ?_,fun _=>hd,Around.frames_deeper e0.frames, .inr ⟨rfl,rfl⟩,fun b z=>absurd z (noA b),e0.bs,e0.bsz,fun b _ _=>noA b,fun b z=>absurd z (noA b),e0.funs,e0.frf⟩,
  rfl,e0.bare,Un.kept hk,⟨_,x.toInCall.ns,fun i y v h1 h2 h3=> ?_⟩,fun y c h=>⟨_,x.cell y c h⟩,e0.hok.fresh (Nat.le_refl _),fun y c h=> ?_,fun p hp=>absurd (show p∈([]:List (Addr×Obj)) from hp) (by simp),e0.hok.kept hk,?_⟩
 ·exact name_of_addr x.apart (PySem.mem_of_lookup h1) (PySem.mem_of_lookup h2)
 ·have hy:scope.names.lookup y=some .cell∨scope.names.lookup y=some .free:=hy;rcases hy with hy|hy
  ·exact zfS hy
  ·exact absurd rfl (S.nofree _ (PySem.mem_of_lookup hy))
 ·exact Nat.le_of_lt (x.above y c (PySem.mem_of_lookup h))
 ·have hi:i<vs.length:=by
   unfold start at h2;by_cases hi:i<vs.length
   ·exact hi
   ·rw[List.getElem?_append_right (by simpa using hi)] at h2;rw[List.getElem?_replicate] at h2;split at h2<;>cases h2
  have ha:vs[i]? =some v:=by
   unfold start at h2;rw[List.getElem?_append_left (by simpa using hi),List.getElem?_map] at h2;cases e:vs[i]? with
   |none=>rw[e] at h2;cases h2
   |some a=>rw[e] at h2;cases h2;rfl
  obtain⟨u,hu,rv⟩:=r.get ha;have hp:ps[i]? =some y:=by
   rw[←S.pre,List.getElem?_take_of_lt (by omega)];exact h1
  have ndP:ps.Nodup:=by rw[←S.pre];exact S.nd.sublist (List.take_sublist _ _)
  refine⟨u,rv,?_⟩;rcases S.par y (List.mem_of_getElem? hp) with k|k
  ·exact .inl ⟨k,zeZ ndP hp hu k⟩
  ·obtain⟨c,e⟩:=zfS (n:=s.heap.objs.size+1) k;refine .inr ⟨.inl k,c,e,?_⟩;have q:=x.cell y c e;rw[ze0 ndP hp hu (by show scope.names.lookup y≠_;rw[k];decide)] at q;exact q
 ·exact e0.hok.fresh (Nat.le_of_lt (x.above y c (PySem.mem_of_lookup h)))
 ·unfold start;show _=N.length;rw[List.length_append,List.length_map,List.length_replicate];omega
theorem zhV{CX:CXT}{P:Program}{w:World}{K:Fg}{mg:Str→Option Value}{base:Heap}{k:Nat}{f:Addr}{name qual:Str}{params:Arguments}{body:List Stmt}{scope:Scope}{dV kV doc pm cdv ct oc:Value}{an od:Option Addr}
  {osl:Array (Option Value)} {N ps:List Str} {sp:Sp} (lk:K.lookup f=some ⟨oc,od, .func (PySem.W.fnOf name qual params body scope dV kV doc pm an cdv ct),osl⟩) (hcd:PySem.W.codeIn K cdv qual=true) (S:FnScope N ps scope)
  (len: ∀vs H Q E,sp vs H Q E→vs.length=ps.length)
  (hbody: ∀(A:Around) (outer:List Env) (s:Shared) (H:Hp) (vs:List V) (Q:VK) (E:XK),Room k (A.deeper (envOfC qual scope s.heap.objs.size f cdv))→sp vs H Q E→
   ∃t,PSs (zcM CX P w K mg base N qual scope f cdv A outer s H E) body t∧t {nx:=fun _ H'=>Q .non H',rt:=Q} (start N vs) H):
  FnOk P w K mg base CX (k+1) f (PySem.W.fnOf name qual params body scope dV kV doc pm an cdv ct) ps sp:=by
 refine⟨len,fun A outer s H args us vs Q E hr e0 hb r hsp=> ?_⟩;have hl:=len _ _ _ _ hsp;have KX:K.In s.heap:=e0.mod.kin.keeps fun b o e=>(e0.bs b o e).1;have lim:s.heap.NoLimit:=e0.mod.nolimit.keeps fun b o e=>(e0.bs b o e).1;have hkind: ∀y∈ps.zip us,scope.names.lookup y.1=some .local∨(scope.names.lookup y.1=some .cell∧((cellsFrom (s.heap.objs.size+1) scope.names []).lookup y.1).isSome=true):=fun⟨n,v⟩ hy=>by
  rcases S.par n (List.of_mem_zip hy).1 with q|q
  ·exact .inl q
  ·exact .inr ⟨q,PySem.W.cellsFrom_some _ _ _ (.inl q)⟩
 refine codeAny_call_function hr.depth (KX _ _ lk) rfl S.co S.gen rfl (PySem.W.codeRec_of KX hcd) (hb _ _ _ _ ?_);refine wpAny_newFunctionEnv_cells S.kind hkind fun env he s1 x=> ?_;subst he;refine⟨lim.keeps x.toInCall.keep,codeAny_func ?_⟩;obtain⟨t,ht,hq⟩:=hbody A outer s H vs Q E (hr.deeper _) hsp;have I:Inv (zcM CX P w K mg base N qual scope f cdv A outer s H E) [] (start N vs) H s1:=ze1 S hr.hd e0 hl r x;refine wpAny_mono (ht [] s1 (start N vs) H _ I hq) (fun fl s' hs=> ?_) fun e s' hs=>hs;have fin: ∀{σ':St} {H':Hp} {v:V} {u:Value},Inv (zcM CX P w K mg base N qual scope f cdv A outer s H E) [] σ' H' s'→zaB v u→Q v H'→CE outer P w H s Q u s':=
  fun {σ' H' v u} J rv q=>⟨v,H',J.os,J.bare,J.base,J.hok,rv,q⟩
 cases fl with
 |ret u=>
  obtain⟨v,σ',H',J,rv,q⟩:=hs;exact fin J rv q
 |next=>
  obtain⟨σ',H',J,q⟩:=hs;exact fin (v:=V.non) (u:=Value.none) J rfl q
 |brk=>
  obtain⟨_,_,_,q⟩:=hs;exact False.elim q
 |cont=>
  obtain⟨_,_,_,q⟩:=hs;exact False.elim q
end L2
namespace L2
open PySem PySem.Spec PyProof.Rows
section
variable {X:Cx} {x:Str} {p pos:Pos} {e:Expr} {es:List Expr} {t:TA} {id T:String} {r:List V→Hp→VK→Prop}
def tCB(r:List V→Hp→VK→Prop)(t:TA):TE:=fun σ H Q=>t σ H fun vs H1=>r vs H1 Q
theorem zan(hc:zbI X (.builtin id) r)(hg:Gl X x)(hm:X.mg x=none)(hv:bootBuiltins x=some (.builtin id))(ha:PA X (e::es) t)(hn:x≠"__name__":=by decide)(hdb:(x==("__debug__":Str))=false:=by decide)
  (he:starEach (e::es) X.env=(false,eval e X.env)::starEach es X.env:=by rfl) (hpl:(backTo pos (starEach es X.env)).any (·.1)=false:=by rfl):PE X (.Call (.Name x p) (e::es) [] pos) (tCB r t):=by
 intro pins s σ H Q I h;refine wpAny_Call_Name_kw (zdM I hg hm hv ?_ hn hdb);exact PyProof.Rows.callWith_builtin1 (thn (ha pos pins s σ H _ I h) fun us s1 ⟨vs,H1,I1,r1,q1⟩=>hc pins s1 σ H1 vs us Q I1 r1 q1) he hpl
theorem zbb(hc:zbI X (.type T) r)(hg:Gl X x)(hm:X.mg x=none)(hv:bootBuiltins x=some (.type T))(ha:PA X (e::es) t)(hn:x≠"__name__":=by decide)(hdb:(x==("__debug__":Str))=false:=by decide)
  (he:starEach (e::es) X.env=(false,eval e X.env)::starEach es X.env:=by rfl) (hpl:(backTo pos (starEach es X.env)).any (·.1)=false:=by rfl):PE X (.Call (.Name x p) (e::es) [] pos) (tCB r t):=by
 intro pins s σ H Q I h;refine wpAny_Call_Name_kw (zdM I hg hm hv ?_ hn hdb);exact PyProof.Rows.callWith_type1 (thn (ha pos pins s σ H _ I h) fun us s1 ⟨vs,H1,I1,r1,q1⟩=>hc pins s1 σ H1 vs us Q I1 r1 q1) he hpl
end
end L2
namespace HT
open PySem PyProof.Rows
section
open PySem.SeqAt
open PySem.AutoSeq1 (wpAny_loadPart')
open PySem.MeetsSeq PySem.MeetsSeq2 PySem.MeetsSeq3
end
section
variable {prog:Program} {w:World} {A:Around} {E:Value→Shared→Prop} {s:Shared}
def sIx(n d:Nat):Option Int→Nat
 |none=>d
 |some v=>if v<0 then (v+(n:Int)).toNat else min v.toNat n
theorem sIx_none(n d:Nat):sIx n d none=d:=rfl
theorem sIx_nat(n d k:Nat):sIx n d (some (k:Int))=min k n:=by
 show (if (k:Int)<0 then ((k:Int)+(n:Int)).toNat else min (k:Int).toNat n)=min k n;rw[if_neg (by omega),Int.toNat_natCast]
theorem sIx_le(n d:Nat)(hd:d≤n)(o:Option Int):sIx n d o≤n:=by
 cases o with
 |none=>exact hd
 |some v=>
  show (if v<0 then (v+(n:Int)).toNat else min v.toNat n)≤n;by_cases hv:v<0
  ·rw[if_pos hv];omega
  ·rw[if_neg hv];exact Nat.min_le_right _ _
end
end HT
namespace L2
open PySem PySem.Spec PyProof.Rows
abbrev TO:=St→Hp→(Option Int→Hp→Prop)→Prop
def PO(X:Cx)(e:Option Expr)(t:TO):Prop:=
 ∀(pins:List (Addr×Obj)) (s:Shared) (σ:St) (H:Hp) (Q:Option Int→Hp→Prop),Inv X pins σ H s→t σ H Q→
  wpAny (model X.prog X.w) X.A (evalPart e X.env) (fun u s'=> ∃o H',Inv X pins σ H' s'∧IsPart u o∧Q o H') X.xe s
def zaC:TO:=fun _ H Q=>Q none H
def zbr(t:TE):TO:=fun σ H Q=>t σ H fun x H1=> ∃i,x= .int i∧Q (some i) H1
section
variable {X:Cx} {e:Expr} {te:TE} {lo hi:Option Expr} {tl th:TO} {pos p2:Pos}
theorem zcQ:PO X none zaC:=by
 intro pins s σ H Q I h;rw[evalPart_none];exact wpAny_pure ⟨none,H,I, .none,h⟩
theorem zcw(h:PE X e te):PO X (some e) (zbr te):=by
 intro pins s σ H Q I hw;rw[evalPart_some];refine thn (h pins s σ H _ I hw) fun u s1 ⟨x,H1,I1,r1,q1⟩=> ?_;obtain⟨i,rfl,q⟩:=q1;obtain⟨t,rfl⟩:=r1;exact⟨some i,H1,I1, .int i t,q⟩
def SlR(X:Cx)(r:V→Option Int→Option Int→Hp→VK→Prop):Prop:=
 ∀(pins:List (Addr×Obj)) (s:Shared) (σ:St) (H:Hp) (x:V) (v vl vu:Value) (lo hi:Option Int) (sl:Addr) (Q:VK),Inv X pins σ H s→zaB x v→s.heap.IsSliceOf sl vl vu .none→IsPart vl lo→IsPart vu hi→r x lo hi H Q→
  ∃T id,typeLookup (.type T) "__getitem__"=pure (some (.builtin id))∧s.TypeIs v T∧wpAny (model X.prog X.w) X.A (getItem v (.ref sl)) (EP X pins σ Q) X.xe s
theorem SlR.or{r r':V→Option Int→Option Int→Hp→VK→Prop}(h:SlR X r)(h':SlR X r'):SlR X (fun x lo hi H Q=>r x lo hi H Q∨r' x lo hi H Q):=by
 intro pins s σ H x v vl vu lo hi sl Q I rx hs pl pu q;rcases q with q|q
 ·exact h pins s σ H x v vl vu lo hi sl Q I rx hs pl pu q
 ·exact h' pins s σ H x v vl vu lo hi sl Q I rx hs pl pu q
def tSl(r:V→Option Int→Option Int→Hp→VK→Prop)(te:TE)(tl th:TO):TE:=fun σ H Q=>te σ H fun x H1=>tl σ H1 fun l H2=>th σ H2 fun u H3=>r x l u H3 Q
theorem zcm{r:V→Option Int→Option Int→Hp→VK→Prop}(hr:SlR X r)(he:PE X e te)(hl:PO X lo tl)(hu:PO X hi th):PE X (.Subscript e (.Slice lo hi none p2) pos) (tSl r te tl th):=by
 intro pins s σ H Q I h;refine Subscript_ (thn (he pins s σ H _ I h) fun v s1 ⟨x,H1,I1,r1,q1⟩=> ?_);refine wpAny_Slice (thn (hl pins s1 σ H1 _ I1 q1) fun vl s2 ⟨l,H2,I2,pl,q2⟩=>thn (hu pins s2 σ H2 _ I2 q2) fun vu s3 ⟨u,H3,I3,pu,q3⟩=> ?_);rw[evalPart_none];refine wpAny_pure ?_;have I4:Inv X pins σ H3 {s3 with heap:=s3.heap.push {cls:= .type "slice",data:= .fields #[vl,vu, .none]} }:=I3.kept (t':=s3.toks) fun b ob q=>Heap.get?_push_of_some _ q;obtain⟨T,id,hT,ht,hg⟩:=hr pins {s3 with heap:=s3.heap.push {cls:= .type "slice",data:= .fields #[vl,vu, .none]} } σ H3 x v vl vu l u s3.heap.objs.size Q I4 r1 (Heap.IsSliceOf.new ..) pl pu q3;show wpAny (model X.prog X.w) X.A (subscriptTail e (.Slice lo hi none p2) v (.ref s3.heap.objs.size)) (EP X pins σ Q) X.xe {s3 with heap:=s3.heap.push {cls:= .type "slice",data:= .fields #[vl,vu, .none]} };exact tail_any (ops:= [.ref s3.heap.objs.size,v]) ht hT hg (by with_unfolding_all rfl)
def zgk(xs:List V)(lo hi:Option Int):List V:=(xs.drop (HT.sIx xs.length 0 lo)).take (HT.sIx xs.length xs.length hi - HT.sIx xs.length 0 lo)
theorem zfT(xs:List V)(lo hi:Option Int):(zgk xs lo hi).length≤xs.length:=by
 unfold zgk;rw[List.length_take,List.length_drop];omega
end
end L2
namespace L2
open PySem PySem.Spec PyProof.Rows
def ixN(n:Nat)(i:Int):Option Nat:=if 0≤i then (if i<n then some i.toNat else none) else if -(n:Int)≤i then some (i+n).toNat else none
def atI{α:Type}(xs:List α)(i:Int):Option α:=(ixN xs.length i).bind fun j=>xs[j]?
theorem zgQ{n:Nat}{i:Int}{j:Nat}(h:ixN n i=some j):seqIndex? i n=some j∧j<n∧ -(n:Int)≤i∧i<n:=by
 unfold ixN at h;by_cases h0:0≤i
 ·rw[if_pos h0] at h;by_cases h1:i<n
  ·rw[if_pos h1] at h;have e:i.toNat=j:=Option.some.inj h;exact⟨by rw[seqIndex_of h0 h1,e],by omega,by omega,h1⟩
  ·rw[if_neg h1] at h;cases h
 ·rw[if_neg h0] at h;by_cases h1: -(n:Int)≤i
  ·rw[if_pos h1] at h;have e:(i+n).toNat=j:=Option.some.inj h;exact⟨by rw[seqIndex_neg (by omega) h1,e],by omega,h1,by omega⟩
  ·rw[if_neg h1] at h;cases h
theorem zfn{α:Type}{xs:List α}{i:Int}{v:α}(h:atI xs i=some v): ∃j,seqIndex? i xs.length=some j∧xs[j]? =some v∧j<xs.length∧ -(xs.length:Int)≤i∧i<xs.length:=by
 unfold atI at h;cases e:ixN xs.length i with
 |none=>rw[e] at h;cases h
 |some j=>
  rw[e] at h;obtain⟨h1,h2,h3,h4⟩:=zgQ e;exact⟨j,h1,h,h2,h3,h4⟩
theorem zaV{α:Type}{xs:List α}{j:Nat}{v:α}(h:xs[j]? =some v):atI xs (j:Int)=some v:=by
 have hj:j<xs.length:=(List.getElem?_eq_some_iff.mp h).1;have e:ixN xs.length (j:Int)=some j:=by
  unfold ixN;rw[if_pos (by omega),if_pos (by omega)];simp
 unfold atI;rw[e];exact h
def ziP(b:Expr):Prop:= ∀o i,subscripted b false o i=operate [o,i] (getItem o i)
def IxR(X:Cx)(r:R2):Prop:=
 ∀(value slice:Expr) (pins:List (Addr×Obj)) (s:Shared) (σ:St) (H:Hp) (x y:V) (v u:Value) (Q:VK),Inv X pins σ H s→zaB x v→zaB y u→r x y H Q→
  subscripted slice false v u=operate [v,u] (getItem v u)→wpAny (model X.prog X.w) X.A (subscriptTail value slice v u) (EP X pins σ Q) X.xe s
def MtR(X:Cx)(id:String)(r:V→List V→Hp→VK→Prop):Prop:=
 ∀(pins:List (Addr×Obj)) (s:Shared) (σ:St) (H:Hp) (x:V) (xs:List V) (v:Value) (us:List Value) (Q:VK),Inv X pins σ H s→zaB x v→zaP xs us→r x xs H Q→
  wpAny (model X.prog X.w) X.A (call (.builtin id) (v::us)) (EP X pins σ Q) X.xe s
section
variable {X:Cx} {a b:Expr} {ta tb:TE} {pos:Pos}
theorem IxR.or{r r':R2}(h:IxR X r)(h':IxR X r'):IxR X (fun x y H Q=>r x y H Q∨r' x y H Q):=by
 intro value slice pins s σ H x y v u Q I rx ry q hs;rcases q with q|q
 ·exact h value slice pins s σ H x y v u Q I rx ry q hs
 ·exact h' value slice pins s σ H x y v u Q I rx ry q hs
theorem MtR.or{id:String}{r r':V→List V→Hp→VK→Prop}(h:MtR X id r)(h':MtR X id r'):MtR X id (fun x xs H Q=>r x xs H Q∨r' x xs H Q):=by
 intro pins s σ H x xs v us Q I rx rs q;rcases q with q|q
 ·exact h pins s σ H x xs v us Q I rx rs q
 ·exact h' pins s σ H x xs v us Q I rx rs q
theorem za9{r:R2}(hr:IxR X r)(ha:PE X a ta)(hb:PE X b tb)(hs:ziP b):PE X (.Subscript a b pos) (tOp r ta tb):=by
 intro pins s σ H Q I h;exact Subscript_ (zjG ha hb I h fun v u s2 x y H2 I2 rx ry q=>hr a b pins s2 σ H2 x y v u Q I2 rx ry q (hs _ _))
def zkC(K:Fg):R2:=fun x y H Q=> ∃p xs i v,x= .ref p∧y= .int i∧SqL K H p xs∧atI xs i=some v∧Q v H
def zkD(K:Fg):R2:=fun x y H Q=> ∃p xs i v,x= .ref p∧y= .int i∧SqT K H p xs∧atI xs i=some v∧Q v H
def zkX:R2:=fun x y H Q=> ∃z i c,x= .str z∧y= .int i∧z.length≤sizeLine∧atI z.cps.toList i=some c∧Q (.str ⟨#[c]⟩) H
theorem zaR:IxR X (zkC X.K):=by
 intro value slice pins s σ H x y v u Q I rx ry h hs;obtain⟨p,xs,i,z,rfl,rfl,hq,he,q⟩:=h;cases rx;obtain⟨t,rfl⟩:=ry;obtain⟨its,r,pl,hz⟩:=I.list hq;obtain⟨j,h1,h2,h3,h4,h5⟩:=zfn he;obtain⟨w,ew,rw'⟩:=r.get h2;have hl:=r.length;have hn:=zdP;have fin:EP X pins σ Q w s:=⟨z,H,I,rw',q⟩
 by_cases h0:0≤i
 ·have hj:i.toNat=j:=by
   rw[seqIndex_of h0 h5] at h1;exact Option.some.inj h1
  exact item_listR pl.isList h0 (by omega) (by rw[hj];simpa using ew) fin hs
 ·have hj:(i+(its.toArray.size:Int)).toNat=j:=by
   rw[seqIndex_neg (by omega) h4] at h1;rw[List.size_toArray,←hl];exact Option.some.inj h1
  exact subscriptTail_builtinR (x:=w) pl.isList.typeIs slot_list_getitem.lookup
   (wpAny_getItem_list_neg (Q:=fun r s'=>r=w∧EP X pins σ Q r s') pl.isList (by omega) (by rw[List.size_toArray]<;>omega) (by omega) (by rw[hj];simpa using ew) ⟨rfl,fin⟩) hs
theorem zc2:IxR X (zkD X.K):=by
 intro value slice pins s σ H x y v u Q I rx ry h hs;obtain⟨p,xs,i,z,rfl,rfl,hq,he,q⟩:=h;cases rx;obtain⟨t,rfl⟩:=ry;obtain⟨its,r,pl,hz⟩:=I.tuple hq;obtain⟨j,h1,h2,h3,h4,h5⟩:=zfn he;obtain⟨w,ew,rw'⟩:=r.get h2;have hl:=r.length;have hn:=zdP;have fin:EP X pins σ Q w s:=⟨z,H,I,rw',q⟩
 exact subscriptTail_builtinR (x:=w) pl.typeIs slot_tuple_getitem.lookup
  (getItem_tuple (j:=j) (Q:=fun r s'=>r=w∧EP X pins σ Q r s') pl (by omega) (by omega) (by rw[List.size_toArray,←hl];exact h1) (by simpa using ew) ⟨rfl,fin⟩) hs
theorem zjK:IxR X zkX:=by
 intro value slice pins s σ H x y v u Q I rx ry h hs;obtain⟨z,i,c,rfl,rfl,hz,he,q⟩:=h;obtain⟨t,rfl⟩:=rx;obtain⟨t',rfl⟩:=ry;obtain⟨j,h1,h2,h3,h4,h5⟩:=zfn he;have hl:z.cps.toList.length=z.length:=by simp [Str.length]
 rw[hl] at h1 h4 h5;have hn:=zdP;exact tail_any (typeIs_str s z t) slot_str_getitem.lookup (getItem_str (c:=c) (by
  have e1:decide (i< -(2 ^ 63:Int))=false:=decide_eq_false (by omega);have e2:decide (i≥2 ^ 63)=false:=decide_eq_false (by omega);rw[e1,e2,Bool.or_false]) (by rw[h1];simpa using h2) ⟨.str ⟨#[c]⟩,H,I.tok _,⟨_,rfl⟩,q⟩) hs
theorem zgl(its:List Value)(n j:Nat)(u:Value):Obj.mapSeq (·.setIfInBounds j u) {cls:= .type "list",data:= .seq its.toArray n}={cls:= .type "list",data:= .seq (its.set j u).toArray n}:=by
 simp [Obj.mapSeq]
theorem Inv.lst{pins:List (Addr×Obj)}{σ:St}{H:Hp}{s:Shared}{p:Addr}{xs:List V}(I:Inv X pins σ H s)(h:H p=some (.lst xs)):
  ∃(its:List Value) (n:Nat),zaP xs its∧s.heap.get? p=some {cls:= .type "list",data:= .seq its.toArray n}∧xs.length≤sizeLine:=by
 obtain⟨z,its,n,r,e⟩:=I.hok p _ h;exact⟨its,n,r,e,z⟩
theorem Inv.lstUpd{pins:List (Addr×Obj)}{σ:St}{H:Hp}{s:Shared}{p:Addr}{xs ys:List V}{its its':List Value}{n n':Nat}{f:Obj→Obj}(I:Inv X pins σ H s)(h:H p=some (.lst xs))
  (ho:s.heap.get? p=some {cls:= .type "list",data:= .seq its.toArray n}) (hf:f {cls:= .type "list",data:= .seq its.toArray n}={cls:= .type "list",data:= .seq its'.toArray n'}) (r:zaP ys its') (hz:ys.length≤sizeLine) (t:Nat):
  Inv X pins σ (upd H p (.lst ys)) {s with heap:=s.heap.update p f,toks:=t}:=by
 have e:(s.heap.update p f).get? p=some {cls:= .type "list",data:= .seq its'.toArray n'}:=by
  rw[Heap.get?_update_self f ho (by rw[hf]<;>rfl),hf]
 refine I.write (x:=p) (e:=p) (by rw[h];trivial) (.inl rfl) (fun b u hb q=>(Heap.get?_update_other _ _ (Ne.symm hb)).trans q) ⟨_,e⟩ ?_;exact⟨hz,its',n',r,e⟩
def zjl:V→V→V→Hp→(Hp→Prop)→Prop:=fun o i v H Q=> ∃p xs k j,o= .ref p∧i= .int k∧H p=some (.lst xs)∧ixN xs.length k=some j∧Q (upd H p (.lst (xs.set j v)))
theorem zhW:zku X zjl:=by
 intro pins s σ H o i v ov iv u Q I ro ri rv h;obtain⟨p,xs,k,j,rfl,rfl,hp,hj,q⟩:=h;cases ro;obtain⟨t,rfl⟩:=ri;obtain⟨its,n,r,ho,hz⟩:=I.lst hp;obtain⟨h1,h2,h3,h4⟩:=zgQ hj;have hl:=r.length;have hn:=zdP;have I':Inv X pins σ (upd H p (.lst (xs.set j v))) {s with heap:=s.heap.update p (Obj.mapSeq (·.setIfInBounds j u))}:=
  I.lstUpd hp ho (zgl its n j u) (r.set rv j) (by rw[List.length_set];exact hz) s.toks
 by_cases h0:0≤k
 ·have hk:k.toNat=j:=by
   rw[seqIndex_of h0 h4] at h1;exact Option.some.inj h1
  exact PySem.W.ki_setAt ho h0 (by omega) (by rw[List.size_toArray,←hl];exact h4) (by rw[hk];exact⟨_,I',q⟩)
 ·have hk:(k+(its.toArray.size:Int)).toNat=j:=by
   rw[seqIndex_neg (by omega) h3] at h1;rw[List.size_toArray,←hl];exact Option.some.inj h1
  exact PySem.W.ki_setBack ho (by omega) (by rw[List.size_toArray,←hl];exact h3) (by omega) (by rw[hk];exact⟨_,I',q⟩)
theorem zfo(lo hi:Option Int)(n:Nat):(sliceBounds lo hi none n).1=((HT.sIx n 0 lo:Nat):Int)∧(sliceBounds lo hi none n).2.1=((HT.sIx n n hi:Nat):Int)∧(sliceBounds lo hi none n).2.2=1:=by
 refine⟨?_,?_,rfl⟩
 ·cases lo with
  |none=>simp [sliceBounds,HT.sIx]
  |some i=>
   simp only[sliceBounds,HT.sIx,Option.getD_none,show (1:Int)>0 by decide,if_true];by_cases h:i<0
   ·simp only[h,if_true]<;>omega
   ·simp only[h,if_false]<;>omega
 ·cases hi with
  |none=>simp [sliceBounds,HT.sIx]
  |some i=>
   simp only[sliceBounds,HT.sIx,Option.getD_none,show (1:Int)>0 by decide,if_true];by_cases h:i<0
   ·simp only[h,if_true]<;>omega
   ·simp only[h,if_false]<;>omega
theorem zeP(its:List Value)(lo hi:Option Int):slicePick its.toArray lo hi none=((its.drop (HT.sIx its.length 0 lo)).take (HT.sIx its.length its.length hi - HT.sIx its.length 0 lo)).toArray:=by
 obtain⟨h1,h2,h3⟩:=zfo lo hi its.toArray.size;unfold slicePick;rw[h1,h2,h3];simp only[sliceRange_one,pick_run,List.size_toArray]<;>rfl
def zkY(K:Fg):V→Option Int→Option Int→Hp→VK→Prop:=fun x lo hi H Q=> ∃a xs,x= .ref a∧SqL K H a xs∧ ∀p,H p=none→Q (.ref p) (upd H p (.lst (zgk xs lo hi)))
theorem ziQ:SlR X (zkY X.K):=by
 intro pins s σ H x v vl vu lo hi sl Q I rx hs pl pu h;obtain⟨a,xs,rfl,hx,q⟩:=h;cases rx;obtain⟨its,r,ht,hz⟩:=I.list hx;have hlen:=r.length;refine⟨"list",_,slot_list_getitem.lookup,ht.isList.typeIs,?_⟩;refine wpAny_getItem_list_slice ht.isList hs pl pu .none (by simp) ?_ (by rw[List.size_toArray]<;>omega);rw[zeP,←hlen];refine⟨.ref s.heap.objs.size,_,I.laid (t':=s.toks) (o:= .lst (zgk xs lo hi)) (fun b ob q=>Heap.get?_push_of_some _ q) (Nat.le_refl _) ?_,rfl,q _ (I.hok.fresh (Nat.le_refl _))⟩;exact⟨Nat.le_trans (zfT xs lo hi) hz,_,0,(r.drop (HT.sIx xs.length 0 lo)).take (HT.sIx xs.length xs.length hi - HT.sIx xs.length 0 lo),Heap.get?_push_size _ rfl⟩
def zdz:V→Bool
 | .non=>true
 | .bl _=>true
 | .int _=>true
 | .str _=>true
 |_=>false
def eqV:V→V→Bool
 | .non, .non=>true
 | .bl a, .bl b=>a==b
 | .bl a, .int b=>(if a then 1 else 0)==b
 | .int a, .bl b=>a==(if b then 1 else 0)
 | .int a, .int b=>a==b
 | .str a, .str b=>a==b
 |_,_=>false
theorem zjL{A:Around}{s:Shared}{y x:V}{u v:Value}(ry:zaB y u)(rx:zaB x v)(fy:zdz y=true)(fx:zdz x=true):SeqAt.EqAt A s u v (eqV y x):=by
 cases y with
 |non=>
  cases ry;cases x with
  |non=>cases rx;exact SeqAt.EqAt.same _
  |bl b=>cases rx;exact SeqAt.EqAt.none_bool b
  |int b=>obtain⟨t,rfl⟩:=rx;exact SeqAt.EqAt.none_int b t
  |str b=>obtain⟨t,rfl⟩:=rx;exact SeqAt.EqAt.none_str b t
  |_=>exact absurd (show false=true from fx) Bool.false_ne_true
 |bl a=>
  cases ry;cases x with
  |non=>cases rx;exact SeqAt.EqAt.bool_none a
  |bl b=>cases rx;exact SeqAt.EqAt.bool_bool a b
  |int b=>obtain⟨t,rfl⟩:=rx;exact SeqAt.EqAt.bool_int a b t
  |str b=>obtain⟨t,rfl⟩:=rx;exact SeqAt.EqAt.bool_str a b t
  |_=>exact absurd (show false=true from fx) Bool.false_ne_true
 |int a=>
  obtain⟨t',rfl⟩:=ry;cases x with
  |non=>cases rx;exact SeqAt.EqAt.int_none a t'
  |bl b=>cases rx;exact SeqAt.EqAt.int_bool a t' b
  |int b=>obtain⟨t,rfl⟩:=rx;exact SeqAt.EqAt.int_int a t' b t
  |str b=>obtain⟨t,rfl⟩:=rx;exact SeqAt.EqAt.int_str a t' b t
  |_=>exact absurd (show false=true from fx) Bool.false_ne_true
 |str a=>
  obtain⟨t',rfl⟩:=ry;cases x with
  |non=>cases rx;exact SeqAt.EqAt.str_none a t'
  |bl b=>cases rx;exact SeqAt.EqAt.str_bool a t' b
  |int b=>obtain⟨t,rfl⟩:=rx;exact SeqAt.EqAt.str_int a t' b t
  |str b=>obtain⟨t,rfl⟩:=rx;exact SeqAt.EqAt.str_str a t' b t
  |_=>exact absurd (show false=true from fx) Bool.false_ne_true
 |_=>exact absurd (show false=true from fy) Bool.false_ne_true
def eqU(x:V)(u:Value):Bool:=match u with
 | .none=>eqV .non x
 | .bool b=>eqV (.bl b) x
 | .int i _=>eqV (.int i) x
 | .str z _=>eqV (.str z) x
 |_=>false
theorem zhX{x y:V}{u:Value}(r:zaB y u)(f:zdz y=true):eqU x u=eqV y x:=by
 cases y with
 |non=>cases r;rfl
 |bl b=>cases r;rfl
 |int i=>obtain⟨t,rfl⟩:=r;rfl
 |str z=>obtain⟨t,rfl⟩:=r;rfl
 |_=>exact absurd (show false=true from f) Bool.false_ne_true
theorem zfp{x:V}: ∀{xs:List V} {us:List Value},zaP xs us→xs.all zdz=true→us.any (eqU x)=xs.any fun y=>eqV y x
 |_,_, .nil,_=>rfl
 |y::xs,u::us, .cons r t,f=>by
  rw[List.all_cons,Bool.and_eq_true] at f;rw[List.any_cons,List.any_cons,zhX r f.1,zfp t f.2]
theorem zen{A:Around}{s:Shared}{x:V}{v:Value}(rx:zaB x v)(fx:zdz x=true): ∀{xs:List V} {us:List Value},zaP xs us→xs.all zdz=true→ ∀u∈us,SeqAt.EqAt A s u v (eqU x u)
 |_,_, .nil,_=>fun u hu=>by cases hu
 |y::xs,u::us, .cons r t,f=>fun u' hu=>by
  rw[List.all_cons,Bool.and_eq_true] at f;rcases List.mem_cons.mp hu with rfl|hu
  ·rw[zhX r f.1];exact zjL r rx f.1 fx
  ·exact zen rx fx t f.2 u' hu
def inV(x:V)(xs:List V):Bool:=xs.any fun y=>eqV y x
def rIn(K:Fg)(neg:Bool):R2:=fun x y H Q=> ∃p xs,y= .ref p∧(SqL K H p xs∨SqT K H p xs)∧zdz x=true∧xs.all zdz=true∧Q (.bl (if neg then !inV x xs else inV x xs)) H
theorem ze2:OpR X (compareOp .In) (rIn X.K false):=by
 intro pins s σ H x y v u Q I rx ry h;obtain⟨p,xs,rfl,hq,fx,fs,q⟩:=h;cases ry;rcases hq with hq|hq
 ·obtain⟨its,r,pl,hz⟩:=I.list hq;refine SeqAt.in_listAt (eqU x) pl.isList (fun w hw=>zen rx fx r fs w (by simpa using hw)) ⟨.bl _,H,I,rfl,?_⟩;rw[show its.toArray.any (eqU x)=its.any (eqU x) by simp,zfp r fs];exact q
 ·obtain⟨its,r,pl,hz⟩:=I.tuple hq;refine SeqAt.in_tupleAt (eqU x) pl (fun w hw=>zen rx fx r fs w (by simpa using hw)) ⟨.bl _,H,I,rfl,?_⟩;rw[show its.toArray.any (eqU x)=its.any (eqU x) by simp,zfp r fs];exact q
theorem zaS:zbI X (.builtin "len") (fun xs H Q=> ∃p ys,xs= [.ref p]∧(SqL X.K H p ys∨SqT X.K H p ys)∧Q (.int ys.length) H):=by
 intro pins s σ H xs us Q I r h;obtain⟨p,ys,rfl,hq,q⟩:=h;obtain⟨u,rfl,rx⟩:=zcL r;cases rx;have hn:=zdP;rcases hq with hq|hq
 ·obtain⟨its,r',pl,hz⟩:=I.list hq;have hlen:=r'.length;exact Calls.call_len_list pl.isList (by simp only[List.size_toArray]<;>omega) ⟨.int ys.length,H,I.tok _,⟨s.toks+1,by rw[List.size_toArray,hlen]⟩,q⟩
 ·obtain⟨its,r',pl,hz⟩:=I.tuple hq;have hlen:=r'.length;exact len_tuple pl (by simp only[List.size_toArray]<;>omega) ⟨.int ys.length,H,I.tok _,⟨s.toks+1,by rw[List.size_toArray,hlen]⟩,q⟩
theorem zfq:zbI X (.builtin "len") (fun xs H Q=> ∃z,xs= [.str z]∧z.length≤sizeLine∧Q (.int z.length) H):=by
 intro pins s σ H xs us Q I r h;obtain⟨z,rfl,hz,q⟩:=h;obtain⟨u,rfl,t,rfl⟩:=zcL r;have hn:=zdP;exact len_str (by omega) ⟨.int z.length,H,I.tok _,⟨_,rfl⟩,q⟩
theorem zbI.or{f:Value}{r r':List V→Hp→VK→Prop}(h:zbI X f r)(h':zbI X f r'):zbI X f (fun xs H Q=>r xs H Q∨r' xs H Q):=by
 intro pins s σ H xs us Q I rs q;rcases q with q|q
 ·exact h pins s σ H xs us Q I rs q
 ·exact h' pins s σ H xs us Q I rs q
def tyV(K:Fg)(T:String)(x:V)(H:Hp):Prop:=match x with
 | .str _=>T="str"
 | .int _=>T="int"
 | .ref p=>(T="list"∧ ∃xs,SqL K H p xs)∨(T="tuple"∧ ∃o,K.lookup p=some o∧o.cls= .type "tuple"∧o.dict=none)∨
   (T="dict"∧((∃kvs,H p=some (.dK kvs))∨ ∃kvs,H p=some (.dT kvs)))∨(T="set"∧ ∃S n,H p=some (.set S n))
 |_=>False
theorem zgm{pins:List (Addr×Obj)}{σ:St}{H:Hp}{s:Shared}{T:String}{x:V}{v:Value}(I:Inv X pins σ H s)(r:zaB x v)(ty:tyV X.K T x H):
  s.TypeIs v T∧ ∀a,v= .ref a→ ∃ob,s.heap.get? a=some ob∧ob.dict=none:=by
 cases x with
 |str z=>
  obtain⟨t,rfl⟩:=r;cases (show T="str" from ty);exact⟨typeIs_str s z t,fun _ e=>nomatch e⟩
 |int i=>
  obtain⟨t,rfl⟩:=r;cases (show T="int" from ty);exact⟨typeIs_int s i t,fun _ e=>nomatch e⟩
 |ref p=>
  cases r;rcases ty with⟨rfl,xs,hq⟩|⟨rfl,o,hk,hc,hd⟩|⟨rfl,hk⟩|⟨rfl,S,n,hk⟩
  ·obtain⟨its,_,pl,_⟩:=I.list hq;refine⟨pl.isList.typeIs,fun a e=> ?_⟩;cases e;obtain⟨o,n,e,c,hd,_⟩:=pl;exact⟨o,e,hd⟩
  ·refine⟨⟨o,I.kIn p o hk,hc⟩,fun a e=> ?_⟩;cases e;exact⟨o,I.kIn _ o hk,hd⟩
  ·have z: ∃o,s.heap.get? p=some o∧o.ExactDict:=by
    rcases hk with⟨kvs,hk⟩|⟨kvs,hk⟩
    ·obtain⟨_,_,_,_,o,_,_,e,ex,_⟩:=I.hok p _ hk;exact⟨o,e,ex⟩
    ·obtain⟨_,_,_,_,o,_,_,e,ex,_⟩:=I.hok p _ hk;exact⟨o,e,ex⟩
   obtain⟨o,e,ex⟩:=z;refine⟨⟨o,e,ex.1⟩,fun a e2=> ?_⟩;cases e2;exact⟨o,e,ex.2.1⟩
  ·obtain⟨o,_,_,_,e,ex,_⟩:=I.hok p _ hk;refine⟨⟨o,e,ex.1⟩,fun a e2=> ?_⟩;cases e2;exact⟨o,e,ex.2.1⟩
 |_=>exact False.elim ty
def zkE(K:Fg)(T:String)(r:V→List V→Hp→VK→Prop)(to:TE):TE:=fun σ H Q=>to σ H fun x H1=>tyV K T x H1∧r x [] H1 Q
def tBM(K:Fg)(T:String)(r:V→List V→Hp→VK→Prop)(to:TE)(t:TA):TE:=fun σ H Q=>to σ H fun x H1=>tyV K T x H1∧t σ H1 fun xs H2=>r x xs H2 Q
variable {o e:Expr} {es:List Expr} {to:TE} {t:TA} {name:Str} {apos cpos:Pos} {T id:String} {r:V→List V→Hp→VK→Prop}
theorem zjM(pa:PlainAttrs T)(slot:Slot T name id)(hty:typeOf (.builtin id)=pure (.type "method_descriptor"))(hm:MtR X id r)(ho:PE X o to)
  (hbase:attributeBase o name X.env (eval o X.env)=eval o X.env:=by rfl) (hline:(apos.endLine==cpos.line)=true:=by rfl):PE X (.Call (.Attribute o name apos) [] [] cpos) (zkE X.K T r to):=by
 intro pins s σ H Q I h;refine wpAny_Call_method0_late hbase hline (thn (ho pins s σ H _ I h) fun v s1 ⟨x,H1,I1,r1,ty,q1⟩=> ?_);obtain⟨h1,h2⟩:=zgm I1 r1 ty;exact⟨T,id,pa,slot,hty,h1,h2,Calls.callWith_builtin rfl (PySem.evalArgs_none (hm pins s1 σ H1 x [] v [] Q I1 r1 .nil q1))⟩
theorem zcC(pa:PlainAttrs T)(slot:Slot T name id)(hty:typeOf (.builtin id)=pure (.type "method_descriptor"))(hm:MtR X id r)(ho:PE X o to)(ha:PA X (e::es) t)
  (hbase:attributeBase o name X.env (eval o X.env)=eval o X.env:=by rfl)
  (hfew:((backTo cpos (starEach (e::es) X.env)).all (fun x=> !x.1) && (backToKw cpos (keywordEach [] X.env)).all (fun x=>x.1.isSome)
   && decide ((e::es).length+([]:List Keyword).length+(if ([]:List Keyword).isEmpty then 0 else 1)<30))=true:=by rfl)
  (hline:(apos.endLine==cpos.line)=true:=by rfl) (hs:starEach (e::es) X.env=(false,eval e X.env)::starEach es X.env:=by rfl) (hplain:(backTo cpos (starEach es X.env)).any (·.1)=false:=by rfl):
  PE X (.Call (.Attribute o name apos) (e::es) [] cpos) (tBM X.K T r to t):=by
 intro pins s σ H Q I h;refine wpAny_Call_method_late hbase hfew hline rfl (thn (ho pins s σ H _ I h) fun v s1 ⟨x,H1,I1,r1,ty,q1⟩=> ?_);obtain⟨h1,h2⟩:=zgm I1 r1 ty;refine⟨T,id,pa,slot,hty,h1,h2,?_⟩;have hA:=ha cpos pins s1 σ H1 _ I1 q1;rw[hs] at hA ⊢;refine Calls.callWith_builtin (by show (false||(backTo cpos (starEach es X.env)).any (·.1))=false;rw[hplain]<;>rfl) (Calls.evalArgs_plain ?_);exact thn hA fun us s2 ⟨vs,H2,I2,r2,q2⟩=>hm pins s2 σ H2 x vs v us Q I2 r1 r2 q2
end
end L2
namespace L2
open PySem PySem.Spec PyProof.Rows
def MtM(X:Cx)(id:String)(r:V→List V→Hp→VK→Prop):Prop:=
 ∀(pins:List (Addr×Obj)) (s:Shared) (σ:St) (H:Hp) (x:V) (xs:List V) (v:Value) (us:List Value) (Q:VK),Inv X pins σ H s→zaB x v→zaP xs us→r x xs H Q→
  wpAny (model X.prog X.w) X.A (call (.builtin id) (v::us)) (EP X pins σ Q) X.xe s
theorem zaP.one: ∀{x:V} {us:List Value},zaP [x] us→ ∃u,us= [u]∧zaB x u
 |_,_, .cons r .nil=>⟨_,rfl,r⟩
section
variable {X:Cx} {pins:List (Addr×Obj)} {σ:St} {H:Hp} {s:Shared} {l b:Addr} {xs ys zs:List V}
theorem Inv.lset{its its':List Value}{n:Nat}{f:Array Value→Array Value}{t':Nat}(I:Inv X pins σ H s)(hH:H l=some (.lst xs))
  (e:s.heap.get? l=some {cls:= .type "list",data:= .seq its.toArray n}) (hf:f its.toArray=its'.toArray) (hv:zaP ys its') (hz:ys.length≤sizeLine):
  Inv X pins σ (upd H l (.lst ys)) {s with heap:=s.heap.update l (Obj.mapSeq f),toks:=t'}:=by
 have q:=PySem.IsL.update e f;rw[hf] at q;refine I.write (x:=l) (e:=l) (by rw[hH];exact trivial) (.inl rfl) (fun b' u hb hu=>(Heap.get?_update_other s.heap (Obj.mapSeq f) (Ne.symm hb)).trans hu) ⟨_,q⟩ ?_;exact⟨hz,its',_,hv,q⟩
theorem Inv.lnew{its:List Value}{t':Nat}(I:Inv X pins σ H s)(hv:zaP ys its)(hz:ys.length≤sizeLine):
  Inv X pins σ (upd H s.heap.objs.size (.lst ys)) {s with heap:=s.heap.push {cls:= .type "list",data:= .seq its.toArray},toks:=t'}:=
 I.laid (fun _ _ q=>Heap.get?_push_of_some _ q) (Nat.le_refl _) ⟨hz,its,0,hv,Heap.get?_push_size _ rfl⟩
theorem Inv.fresh(I:Inv X pins σ H s):H s.heap.objs.size=none:=I.hok.fresh (Nat.le_refl _)
theorem Inv.lstM(I:Inv X pins σ H s)(hH:H l=some (.lst xs)):xs.length≤sizeLine∧ ∃(its:List Value) (n:Nat),zaP xs its∧xs.length=its.length∧s.heap.get? l=some {cls:= .type "list",data:= .seq its.toArray n}:=by
 obtain⟨z,its,n,r,e⟩:=I.hok l _ hH;exact⟨z,its,n,r,r.length,e⟩
theorem zfU{n:Nat}(h:n≤sizeLine):Builtin.List.listTooLong n=false:=by
 unfold Builtin.List.listTooLong;exact decide_eq_false (by omega)
end
section
variable {X:Cx}
def zgR:V→List V→Hp→VK→Prop:=fun x vs H Q=> ∃l xs y,x= .ref l∧vs= [y]∧H l=some (.lst xs)∧xs.length<sizeLine∧Q .non (upd H l (.lst (xs++ [y])))
theorem zcN:MtM X "list.append" zgR:=by
 intro pins s σ H x vs v us Q I rx rv h;obtain⟨l,xs,y,rfl,rfl,hH,hz,q⟩:=h;cases rx;obtain⟨u,rfl,ru⟩:=rv.one;obtain⟨z,its,n,r,hl,e⟩:=I.lstM hH;refine call_meets F.slot_list_append ⟨_,e,rfl⟩ F.entry_list_append (F.args_list_append_2 _ _) (PySem.list_append l its.toArray n u (by rw[List.size_toArray];omega)) ⟨e,?_⟩;refine⟨.non,_,I.lset (its':=its++ [u]) hH e (by simp) (r.append (.cons ru .nil)) ?_,rfl,q⟩;rw[List.length_append,List.length_singleton];omega
def zkZ:R2:=fun x y H Q=> ∃l b xs zs,x= .ref l∧y= .ref b∧H l=some (.lst xs)∧H b=some (.lst zs)∧xs.length+zs.length≤sizeLine∧ ∀p,H p=none→Q (.ref p) (upd H p (.lst (xs++zs)))
theorem zjN:OpR X (binaryOp .Add) zkZ:=by
 intro pins s σ H x y v u Q I rx ry h;obtain⟨l,b,xs,zs,rfl,rfl,hH,hB,hz,q⟩:=h;cases rx;cases ry;obtain⟨z,its,n,r,hl,e⟩:=I.lstM hH;obtain⟨z2,its2,n2,r2,hl2,e2⟩:=I.lstM hB;refine PySem.P.add_list e e2 ?_ (by rw[List.size_toArray,List.size_toArray];omega);have ea:its.toArray++its2.toArray=(its++its2).toArray:=by simp
 rw[ea];exact⟨.ref _,_,I.lnew (t':=s.toks) (r.append r2) (by rw[List.length_append];omega),rfl,q _ I.fresh⟩
end
section
variable {prog:Program} {w:World} {A:Around} {E:Value→Shared→Prop} {s:Shared}
theorem zgn{a c n:Nat}(hac:a≤c)(hc:c≤n):sliceBounds (some (a:Int)) (some (c:Int)) none n=((a:Int),(c:Int),1):=by
 simp only[sliceBounds,Option.getD_none];have h1: ¬((a:Int)<0):=by omega
 have h2: ¬((c:Int)<0):=by omega
 simp only[h1,h2,if_false,show (1:Int)>0 by decide,if_true];congr 1
 ·omega
 ·congr 1;omega
set_option maxRecDepth 100000 in
theorem ziH{l b sl:Addr}{items new:Array Value}{n n2:Nat}{vl vu:Value}{a c:Nat}{Q:Unit→Shared→Prop}
  (e:s.heap.get? l=some {cls:= .type "list",data:= .seq items n}) (e2:s.heap.get? b=some {cls:= .type "list",data:= .seq new n2}) (hne:l≠b)
  (hs:s.heap.IsSliceOf sl vl vu .none) (pl:IsPart vl (some (a:Int))) (pu:IsPart vu (some (c:Int))) (hac:a≤c) (hc:c≤items.size)
  (hsz:items.size+new.size≤sizeLine) (h:Q () {s with heap:=s.heap.update l (Obj.mapSeq fun xs=>xs.extract 0 a++new++xs.extract c xs.size)}):
  wpAny (model prog w) A (setItem (.ref l) (.ref sl) (.ref b)) Q E s:=by
 have hl:s.heap.IsList l items:=PySem.IsL.isList e;have hb:s.heap.IsList b new:=PySem.IsL.isList e2;obtain⟨os,hos,hcs,hds⟩:=id hs;have hTs:s.TypeIs (.ref sl) "slice":=⟨os,hos,hcs⟩
 have hstep: ¬((rawPart none==rawInt 0)=true):=Bool.false_ne_true;have hsame:Builtin.List.listSameRef (.ref l) (.ref b)=false:=by
  unfold Builtin.List.listSameRef;exact beq_eq_false_iff_ne.mpr hne
 have hmax:(max (a:Int) (c:Int)).toNat=c:=by omega
 have hz':((fun xs:Array Value=>xs.extract 0 a++new++xs.extract c xs.size) items).size≤sizeLine+1:=by
  simp only[Array.size_append,Array.size_extract];omega
 unfold setItem;try with_reducible refine wpAny_holding ?_
 first|refine wpAny_bind (wpAny_pure ?_)|skip
 refine wpAny_bind (wpAny_sequenceKey hl.typeIs (by decide) ?_);refine wpAny_bind (wpAny_callSpecial?_slot (name:=Str.ofString "__setitem__") hl.typeIs slot_list_setitem
  (wpAny_call_entry slot_list_setitem hl.typeIs entry_list_setitem ?_ (args_list_setitem _ _ _)))
 show wpAny _ _ (Builtin.List.listSubscript? (.ref sl)>>=_) _ _ s;refine wpAny_bind ?_;unfold Builtin.List.listSubscript?;refine wpAny_bind (wpAny_specialOf hTs slice_no_index ?_);simp only[Option.isNone_none,if_true];refine wpAny_pure ?_;show wpAny _ _ (typeOf (.ref sl)>>=_) _ _ s;refine wpAny_bind (wpAny_typeOf hTs ?_);first
  |rw[if_neg (by decide)]
  |refine PySem.W.KFB.if_not (by decide) ?_
 rw[listSliceParts_eq];refine wpAny_bind (wpAny_bind (wpAny_field hos hds (x:= .none) rfl (wpAny_bind (wpAny_listPart .none ?_))));rw[if_neg hstep];refine wpAny_bind (wpAny_field hos hds (x:=vl) rfl (wpAny_bind (wpAny_listPart pl ?_)));refine wpAny_bind (wpAny_field hos hds (x:=vu) rfl (wpAny_bind (wpAny_listPart pu (wpAny_pure ?_))));first
  |simp only[hsame,Bool.false_eq_true,if_false]
  |refine PySem.W.KFB.if_not hsame ?_
  |(dsimp only
    rw[if_neg (by rw[hsame];exact Bool.false_ne_true)])
 refine wpAny_bind (m:=Builtin.List.listAllItems (.ref b) "must assign iterable to extended slice") ?_;unfold Builtin.List.listAllItems;refine wpAny_bind (wpAny_typeOf hb.typeIs ?_);first
  |refine PySem.W.KFB.if_so (by decide) ?_
  |rw[if_pos (by decide)]
  |simp only[beq_self_eq_true,Bool.true_or,if_true]
 unfold Builtin.List.listItems;refine wpAny_bind (wpAny_seqItems e2 rfl (wpAny_pure ?_));refine wpAny_bind (wpAny_bind (wpAny_seqItems e rfl (wpAny_pure ?_)));refine wpAny_bind (wpAny_of_eq ((sliceIndices_raw (some (a:Int)) (some (c:Int)) none items.size (by simp)).trans (congrArg (pure:Int×Int×Int→Sem (Int×Int×Int)) (zgn hac hc))) ?_);show wpAny _ _ (if ((1:Int)==1)=true then _ else _) _ _ s;rw[if_pos (by decide)];refine wpAny_bind (wpAny_rule ?_);first
  |simp only[zfU hsz,Bool.false_eq_true,if_false]
  |refine PySem.W.KFB.if_not (zfU hsz) ?_
 first|refine wpAny_bind (wpAny_pure ?_)|skip
 show wpAny _ _ (updateSeq l (fun xs=>xs.extract 0 ((a:Int)).toNat++new++xs.extract (max (a:Int) (c:Int)).toNat xs.size)>>=_) _ _ s;rw[hmax,Int.toNat_natCast];refine wpAny_bind (wpAny_updateSeq (hz:=Nat.le_trans (Nat.le_add_right _ _) hsz) (_hz':=hz') e rfl ?_);refine wpAny_bind (wpAny_letGo ?_);first
  |exact wpAny_bind (wpAny_pure (wpAny_pure ⟨.none,rfl,wpAny_pure h⟩))
  |exact wpAny_pure ⟨.none,rfl,wpAny_pure h⟩
end
section
variable {X:Cx}
end
end L2
namespace Att
open PySem PySem.W PySem.Calls PyProof.Rows
theorem zea{P:Params}{h:Heap}: ∀(ns:List Int) (vs:List Value),WellAll P h vs (ns.map WData.int)→IntsAre vs ns:=by
 intro ns;induction ns with
 |nil=>
  intro vs w;rw[List.map_nil] at w;cases w;exact .nil
 |cons n ns ih=>
  intro vs w;rw[List.map_cons] at w;cases w with
  |cons a b=>
   cases a;exact .cons _ _ (ih _ b)
theorem zhk{l:OpenLaw}{n:Nat}(hn:l.most=some n){P:Params}{h:Heap}{args:List WData}{vals:List Value}
  (hpre:l.row.toRowW.claim.pre args=true) (hwl:WellAll P h vals args):
  ∃a vs ns,vals= [Value.ref a]∧args= [WData.list (ns.map WData.int)]∧h.get? a=some {cls:= .type "list",data:= .seq vs.toArray}∧IntsAre vs ns∧ns.length≤n:=by
 have hsh:WShape.hasAll [] args [.list .int]=true:=(pre_splitW hpre).1;have hc:l.pre.holds [] {args:=args}=true:=(pre_splitW hpre).2;obtain⟨d,r,rfl,h1,h2⟩:=hasAllW_cons hsh;obtain rfl:=hasAllW_nil h2;obtain⟨xs,rfl,h3⟩:=hasW_list h1;obtain⟨ns,rfl⟩:=items_int h3;have hlen:ns.length≤n:=by
  unfold OpenLaw.pre at hc;have h4:(WTm.not (.lt (.lit (.int (n:Int))) (.len (.arg 0)))).holds [] {args:= [.list (ns.map .int)]}=true:=by
   have h4:=(holds_andW hc).1;rw[hn] at h4;exact h4
  have h5:=condW_of h4 (w_not (w_lt w_lit (w_len_list (w_arg rfl))));rw[List.length_map] at h5;refine Nat.le_of_not_lt fun q=> ?_;have q':(n:Int)<((ns.length:Nat):Int):=by omega
  first
   |(rw[decide_eq_true q'] at h5;exact absurd h5 (by decide))
   |(simp at h5;omega)
 cases hwl with
 |cons w1 w2=>
  cases w2;cases w1 with
  |list ho hall=>exact⟨_,_,ns,rfl,rfl,ho,zea ns _ hall,hlen⟩
theorem zhl(l:OpenLaw)(args:List WData):l.row.toRowW.claim.post args (.bool true) args=true:=
 postW_of (r:=l.row.toRowW) (X:=(true==true))
  (show WShape.has [] (.bool true) .bool=true by first|rfl|decide|simp [WShape.has,WShape.arms,WShape.armsAll])
  (show (WTm.eq .res (.lit (.bool true))).value [] {args:=args,res:=some (.bool true),after:=args}=some (.bool (true==true)) from w_eq_bool (w_res rfl) w_lit) rfl
theorem attach_call{l:OpenLaw}{n:Nat}{q:Program}{loose:List Str}{XP:(Str→Option Value)→Heap→Prop}{YP:World→Heap→Prop}{d:DefRec}
  (hn:l.most=some n) (hdf:d.params.defaults= [])
  (call: ∀(w:World) (s₀ s₁:Shared) (mg mb:Str→Option Value) (fa:Addr) (o:Obj) (pm cd doc:Value) (a:Addr) (vs:List Value) (ns:List Int),
   Ground q loose [] XP w s₀ mg mb s₁.heap→YP w s₁.heap→
   s₁.heap.get? fa=some o→o.data= .func (docDef d.name d.params d.body d.scope pm cd doc)→s₁.heap.CodeRec cd d.name→mg d.name=some (.ref fa)→
   s₁.heap.get? a=some {cls:= .type "list",data:= .seq vs.toArray}→IntsAre vs ns→ns.length≤n→s₁.gens= #[]→
   codeAny (model l.prog w) callerA (.call (.ref fa) ⟨[.ref a], []⟩) (fun r s'=>r= .ok (.ret (.bool true))∧OldK s₁.heap s'.heap∧s'.os=s₁.os∧AllBare s'.gens) s₁):
  WalkO q loose XP YP l.row.toRowW d [] (fun f vs=>PySem.call f vs):=by
 intro w s₀ s₁ mg mb G Y fa o pm cd doc dV kV ho hd hcd hD hmg hg args vals as hpre hlay hrd hwl hlo;obtain rfl:dV= .none:=Dflts.none hD hdf;obtain rfl:kV= .none:=Dflts.noKw hD;obtain⟨a,vs,ns,rfl,rfl,hobj,hints,hlen⟩:=zhk hn hpre hwl;refine enter_call (codeAny_mono (call w s₀ s₁ mg mb fa o pm cd doc a vs ns G Y ho (fd_plain hd) hcd hmg hobj hints hlen hg) fun r s' hq=> ?_);obtain⟨rfl,h2,h3,h4⟩:=hq;exact⟨.inl ⟨.bool true, .bool true, [],rfl,fun _=>rfl, .bool true,zhl l _,fun _=>⟨List.Pairwise.nil,fun _ hm=>(nomatch hm)⟩⟩,h2,h3,h4⟩
section
variable {prog:Program} {w:World} {A:Around} {E:Value→Shared→Prop} {s:Shared} {K:Frag}
end
end Att
namespace L2
open PySem PySem.Spec PyProof.Rows
theorem ze3: ∀{vs:List Value} {ns:List Int},IntsAre vs ns→zaP (ns.map V.int) vs
 |_,_, .nil=> .nil
 |_,_, .cons n t h=> .cons ⟨t,rfl⟩ (ze3 h)
def zjO(H:Hp):Prop:= ∀b,H b=none∨ ∃o xs,H b=some (.frz o (.lst xs))
theorem zhY{P:Program}{w:World}{K:Fg}{mg mb:Str→Option Value}{CX:CXT}{k:Nat}{fa a:Addr}{fd:FuncData}{x:Str}{sp:Sp}{s₁:Shared}{vs:List Value}{ns:List Int}
  (KX:K.In s₁.heap) (hns:s₁.heap.Ns mainGlobals mg) (hb:s₁.heap.Ns builtinsNs mb) (hbb: ∀x:Str,x≠"__name__"→mb x=bootBuiltins x) (hlim:s₁.heap.NoLimit) (hg:s₁.gens= #[])
  (ha:s₁.heap.get? a=some {cls:= .type "list",data:= .seq vs.toArray}) (hi:IntsAre vs ns) (hl:ns.length≤sizeLine) (hr:Room k callerA)
  (F: ∀base:Heap,K.In base→base.Ns mainGlobals mg→FnOk P w K mg base CX k fa fd [x] sp) (hbind: ∀(s:Shared) (u:Value),BindsTo s fd ⟨[u], []⟩ [(x,u)])
  (hsp: ∀H:Hp,zjO H→SqL K H a (ns.map V.int)→sp [.ref a] H (fun v _=>v= .bl true) fun _ _ _=>False)
  (hCX: ∀H e s',CX [] H s₁ (fun _ _ _=>False) e s'→False):
  codeAny (model P w) callerA (.call (.ref fa) ⟨[.ref a], []⟩) (fun r s'=>r= .ok (.ret (.bool true))∧OldK s₁.heap s'.heap∧s'.os=s₁.os∧AllBare s'.gens) s₁:=by
 have rv:=ze3 hi;have lenV:=hi.length;have core: ∀H:Hp,zjO H→SqL K H a (ns.map V.int)→HOk P w H s₁.heap→(∀b,H b≠none→b=a)→(H a≠none→K.lookup a=none)→
   codeAny (model P w) callerA (.call (.ref fa) ⟨[.ref a], []⟩) (fun r s'=>r= .ok (.ret (.bool true))∧OldK s₁.heap s'.heap∧s'.os=s₁.os∧AllBare s'.gens) s₁:=by
  intro H hO hS hok hA hK;have base_of: ∀{b:Addr} {o:Obj},s₁.heap.get? b=some o→H b=none→(zfj s₁.heap H).get? b=some o:=fun e n=>zhL e n;have noA: ∀{b:Addr} {o:Obj} {es:Array DictEntry} {ep:Nat},s₁.heap.get? b=some o→o.data= .dict es ep→H b=none:=fun {b o es ep} e d=>by
   cases q:H b with
   |none=>rfl
   |some u=>
    have e':b=a:=hA b (by rw[q];simp);subst e';rw[ha] at e;cases e;have d':Data.seq vs.toArray _=Data.dict es ep:=d;cases d'
  have nsK: ∀{b:Addr} {m:Str→Option Value},s₁.heap.Ns b m→(zfj s₁.heap H).Ns b m:=fun {b m} ⟨o,es,ep,e,d,r⟩=>⟨o,es,ep,base_of e (noA e d),d,r⟩
  have hKb:K.In (zfj s₁.heap H):=fun b o e=>base_of (KX b o e) (by
   cases q:H b with
   |none=>rfl
   |some u=>
    have e':b=a:=hA b (by rw[q];simp);subst e';rw[hK (by rw[q];simp)] at e;cases e)
  have hM:Mod K mg (zfj s₁.heap H):=⟨hKb,nsK hns,⟨mb,nsK hb,hbb⟩,let ⟨mc,h1,h2⟩:=hlim;⟨mc,nsK h1,h2⟩⟩
  have e0:Env0 P w K mg (zfj s₁.heap H) callerA [] s₁ H:=⟨rfl,hM,fun b o e=>ziI e,Nat.le_of_eq (zhd _ _),trivial,fun b hb=>absurd (show b∈([]:List Addr) from hb) (by simp),hok, .of_eq hg⟩
  refine codeAny_mono ((F _ hKb (nsK hns)).run callerA [] s₁ H ⟨[.ref a], []⟩ [.ref a] [.ref a] _ _ hr e0 (hbind s₁ (.ref a)) (.cons rfl .nil) (hsp H hO hS)) fun r s' h=> ?_;cases r with
  |error e=>exact(hCX H e s' h).elim
  |ok fl=>
   cases fl with
   |next=>exact False.elim h
   |brk=>exact False.elim h
   |cont=>exact False.elim h
   |ret u=>
    obtain⟨v,H',os,bare,un,hok',r',q⟩:=h;have q':v= .bl true:=q;subst q';obtain rfl:u=Value.bool true:=r';refine⟨rfl,OldK.of_keep fun b o e=> ?_,os,bare⟩;cases q:H b with
    |none=>exact un.keep b o e q (by intro z;exact absurd (show b∈([]:List Addr) from z) (by simp)) (by simp)
    |some u=>
     rcases hO b with z|⟨ob,xs,z⟩
     ·rw[q] at z;cases z
     ·have z2:=un.frzs b ob _ z;obtain⟨e1,_⟩:=hok b _ z;obtain⟨e2,_⟩:=hok' b _ z2;rw[e] at e1;cases e1;exact e2
 cases hk:K.lookup a with
 |some o=>
  have e:=KX a o hk;rw[ha] at e;cases e;refine core (fun _=>none) (fun _=> .inl rfl) (.inr ⟨_,vs.toArray,_,hk,rfl,rfl,rfl,by rw[List.size_toArray,lenV];exact hl,by simpa using rv⟩) (fun b u z=>by have z':(none:Option HO)=some u:=z;cases z') (fun b z=>absurd rfl z) fun z=>absurd rfl z
 |none=>
  refine core (fun b=>if b=a then some (.frz {cls:= .type "list",data:= .seq vs.toArray} (.lst (ns.map V.int))) else none) (fun b=> ?_) (.inl (.inr ⟨{cls:= .type "list",data:= .seq vs.toArray},if_pos rfl⟩)) (fun b u z=> ?_) (fun b z=> ?_) fun _=>hk
  ·by_cases hb:b=a
   ·exact .inr ⟨_,_,if_pos hb⟩
   ·exact .inl (if_neg hb)
  ·by_cases hb:b=a
   ·have z':=(if_pos hb).symm.trans z;cases z';subst hb;exact⟨ha,by rw[List.length_map];exact hl,vs,_,rv,ha⟩
   ·have z':=(if_neg hb).symm.trans z;cases z'
  ·by_cases hb:b=a
   ·exact hb
   ·exact absurd (if_neg hb) z
end L2
namespace L2
open PySem PySem.Spec PyProof.Rows
abbrev KOf{K:Fg}{h:Heap}(_:K.In h):Fg:=K
theorem walk_of{l:PySem.W.OpenLaw}{n k:Nat}{q:Program}{loose:List Str}{XP:(Str→Option Value)→Heap→Prop}{YP:World→Heap→Prop}{d:DefRec}{K:Params→Fg}{CX:World→CXT}{sp:World→Sp}{x:Str}
  (hn:l.most=some n) (hn2:n≤sizeLine) (hdf:d.params.defaults= []) (hr:Room k callerA)
  (hY: ∀(w:World) (h:Heap),YP w h→(K w.params).In h)
  (F: ∀(w:World) (mg:Str→Option Value) (fa:Addr) (h:Heap),(K w.params).In h→h.Ns mainGlobals mg→mg d.name=some (.ref fa)→
   ∃fd:FuncData,(∀(s:Shared) (u:Value),BindsTo s fd ⟨[u], []⟩ [(x,u)])∧
    ∀base:Heap,(K w.params).In base→base.Ns mainGlobals mg→FnOk l.prog w (K w.params) mg base (CX w) k fa fd [x] (sp w))
  (hsp: ∀(w:World) (H:Hp) (a:Addr) (ns:List Int),ns.length≤n→zjO H→SqL (K w.params) H a (ns.map V.int)→sp w [.ref a] H (fun v _=>v= .bl true) fun _ _ _=>False)
  (hCX: ∀(w:World) (H:Hp) (s:Shared) (e:Value) (s':Shared),CX w [] H s (fun _ _ _=>False) e s'→False):
  PySem.W.WalkO q loose XP YP l.row.toRowW d [] (fun f vs=>PySem.call f vs):=by
 refine Att.attach_call hn hdf fun w s₀ s₁ mg mb fa o pm cd doc a vs ns G Y ho hd hcd hmg hobj hints hlen hg=> ?_;have KX:=hY w _ Y;obtain⟨fd,hb,hF⟩:=F w mg fa _ KX G.T.g hmg;exact zhY KX G.T.g G.T.b G.T.builtins G.T.nolimit hg hobj hints (Nat.le_trans hlen hn2) hr hF hb (fun H hO hS=>hsp w H a ns hlen hO hS) fun H e s'=>hCX w H s₁ e s'
end L2
namespace L2
open PySem PySem.Spec PyProof.Rows
def zcF(s:Stmt):Arguments:=match s with
 | .FunctionDef _ a _ _ _ _ _ _ _ _=>a
 |_=>{posonlyargs:= [],args:= [],vararg:=none,kwonlyargs:= [],kw_defaults:= [],kwarg:=none,defaults:= []}
def zbM(s:Stmt):List Stmt:=match s with
 | .FunctionDef _ _ b _ _ _ _ _ _ _=>b
 |_=> []
def zai(s:Stmt):Scope:=match s with
 | .FunctionDef _ _ _ _ _ _ sc _ _ _=>sc
 |_=>{kind:= .function,names:= [],isGenerator:=false,isCoroutine:=false}
abbrev CX0:CXT:=fun _ _ _ _ _ _=>False
structure Fun (K:Fg) (x qual:Str) (st:Stmt) (f:Addr) (fd:FuncData):Prop where
 ex: ∃(oc:Value) (od:Option Addr) (kV doc pm:Value) (an:Option Addr) (cdv ct:Value) (osl:Array (Option Value)),
  fd=PySem.W.fnOf x qual (zcF st) (zbM st) (zai st) .none kV doc pm an cdv ct∧K.lookup f=some ⟨oc,od, .func fd,osl⟩∧PySem.W.codeIn K cdv qual=true
 kp:PySem.W.keepIn K (.ref f)=true
section
variable {P:Program} {w:World} {K:Fg} {mg:Str→Option Value} {base:Heap}
theorem Fun.ok{x qual:Str}{st:Stmt}{f:Addr}{fd:FuncData}{N ps:List Str}{k:Nat}{sp:Sp}(F:Fun K x qual st f fd)(S:FnScope N ps (zai st))(len: ∀vs H Q E,sp vs H Q E→vs.length=ps.length)
  (hbody: ∀(cdv:Value) (A:Around) (outer:List Env) (s:Shared) (H:Hp) (vs:List V) (Q:VK) (E:XK),Room k (A.deeper (envOfC qual (zai st) s.heap.objs.size f cdv))→sp vs H Q E→
   ∃t,PSs (zcM CX0 P w K mg base N qual (zai st) f cdv A outer s H E).nox (zbM st) t∧t {nx:=fun _ H'=>Q .non H',rt:=Q} (start N vs) H):FnOk P w K mg base CX0 (k+1) f fd ps sp:=by
 obtain⟨oc,od,kV,doc,pm,an,cdv,ct,osl,rfl,lk,hcd⟩:=F.ex;refine zhV lk hcd S len fun A outer s H vs Q E hr hsp=> ?_;obtain⟨t,h,q⟩:=hbody cdv A outer s H vs Q E hr hsp;exact⟨t,h.nox,q⟩
theorem Fun.binds{x qual:Str}{st:Stmt}{f:Addr}{fd:FuncData}{ps:List Str}(F:Fun K x qual st f fd)
  (h: ∀(kV doc pm:Value) (an:Option Addr) (cdv ct:Value) (us:List Value),us.length=ps.length→bindArgs (PySem.W.fnOf x qual (zcF st) (zbM st) (zai st) .none kV doc pm an cdv ct) ⟨us, []⟩=pure (ps.zip us)):zaA K fd ps []:=by
 obtain⟨oc,od,kV,doc,pm,an,cdv,ct,osl,rfl,lk,hcd⟩:=F.ex;exact .all (h kV doc pm an cdv ct)
theorem zaj{x qual:Str}{st:Stmt}{f:Addr}{oc:Value}{od an:Option Addr}{osl:Array (Option Value)}{kV doc pm cdv ct:Value}(l:K.lookup f=some ⟨oc,od, .func (PySem.W.fnOf x qual (zcF st) (zbM st) (zai st) .none kV doc pm an cdv ct),osl⟩)
  (c:PySem.W.codeIn K cdv qual=true) (k:PySem.W.keepIn K (.ref f)=true):Fun K x qual st f (PySem.W.fnOf x qual (zcF st) (zbM st) (zai st) .none kV doc pm an cdv ct):=⟨⟨oc,od,kV,doc,pm,an,cdv,ct,osl,rfl,l,c⟩,k⟩
end
theorem zjm{A:Around}{k:Nat}(hr:Room k A):A.units+1<cLine:=Nat.lt_of_le_of_lt (Nat.add_le_add_left (by decide:1≤64) _) hr.units
theorem zhm{n:Nat}(h:n≤1000):n<sizeLine:=Nat.lt_of_le_of_lt h (by decide)
section
variable {X:Cx}
theorem pv(i:Nat){x:Str}{pos:Pos}(hN:X.N[i]? =some x:=by rfl)(hv:Vis X.env.scope x:=by first|exact Or.inl rfl|exact Or.inr (Or.inl rfl)|exact Or.inr (Or.inr rfl))(hd:(x==("__debug__":Str))=false:=by decide)
  (hcd:(x==("__classdict__":Str))=false:=by decide):PE X (.Name x pos) (zbR i):=zjz hN hv hd hcd
end
def zau(H H':Hp):Prop:= ∀b o,H b=some o→H' b=some o
theorem zau.refl(H:Hp):zau H H:=fun _ _ h=>h
theorem zau.trans{H H1 H2:Hp}(a:zau H H1)(b:zau H1 H2):zau H H2:=fun c o h=>b c o (a c o h)
theorem zau.free{H H':Hp}(e:zau H H'){l:Addr}(h:H' l=Option.none):H l=Option.none:=by
 cases q:H l with
 |none=>rfl
 |some o=>
  rw[e l o q] at h;cases h
theorem zau.seq{K:Fg}{H H':Hp}{a:Addr}{xs:List V}(e:zau H H')(h:SqL K H a xs):SqL K H' a xs:=by
 rcases h with(h|⟨o,h⟩)|h
 ·exact .inl (.inl (e _ _ h))
 ·exact .inl (.inr ⟨o,e _ _ h⟩)
 ·exact .inr h
end L2
set_option maxHeartbeats 4000000
namespace L2
open PySem PySem.Spec PyProof.Rows
theorem zbm.is{P:Program}{w:World}{H:Hp}{h:Heap}{a:Addr}{o:HO}(x:zbm P w H h a o): ∃ob,h.get? a=some ob:=by
 cases o with
 |lst xs=>obtain⟨_,_,_,_,e⟩:=x;exact⟨_,e⟩
 |tup xs=>obtain⟨_,_,_,ob,e,_⟩:=x;exact⟨_,e⟩
 |dK kvs=>obtain⟨_,_,_,_,o,_,_,e,_⟩:=x;exact⟨_,e⟩
 |dT kvs=>obtain⟨_,_,_,_,o,_,_,e,_⟩:=x;exact⟨_,e⟩
 |set S n=>obtain⟨o,_,_,_,e,_⟩:=x;exact⟨_,e⟩
 |ins C dx fs=>obtain⟨_,_,_,e,_⟩:=x;exact⟨_,e⟩
 |own y=>obtain⟨_,e⟩:=x;exact⟨_,e⟩
 |xd fs=>obtain⟨_,⟨_,_,_,e,_⟩,_⟩:=x;exact⟨_,e⟩
 |rng lo hi=>obtain⟨_,_,_,e⟩:=x;exact⟨_,e⟩
 |frz ob u=>obtain⟨e,_⟩:=x;exact⟨_,e⟩
 |tbl ps=>exact⟨_,(show h.get? a=some _ from x)⟩
 |met f y=>exact⟨_,(show h.get? a=some _ from x)⟩
 |ext φ=>obtain⟨_,⟨_,e⟩,_⟩:=x;exact⟨_,e⟩
structure Fly (P:Program) (w:World) (l:List Env) (H:Hp) (s:Shared) (ea:Addr) (cls:Value) (H':Hp) (s':Shared):Prop where
 os:s'.os=s.os
 bare:AllBare s'.gens
 un:Un (frs l) [] H H' s.heap s'.heap
 ex: ∃B a0,Heap.FlyingW B l ea cls a0 s'.heap∧HOk P w H' B∧(∀b o,s.heap.get? b=some o→H b=none→b∉frs l→B.get? b=some o)∧
  ∀b o,s.heap.get? b=some o→b∉frs l→ ∃o',B.get? b=some o'
structure Cx.Own (X:Cx):Prop where
 stk:X.stack=X.env::X.outer
 fr:X.env.frame=some X.env.locals
 ex:X.ex= []
section
variable {X:Cx} {pins:List (Addr×Obj)} {σ:St} {H H':Hp} {s s':Shared} {ea:Addr} {cls a0:Value} {B h1 h2 h':Heap} {M:Model} {E:Value→Shared→Prop} {Q:Unit→Shared→Prop}
theorem Inv.fly_out(W:X.Own)(I:Inv X pins σ H s)(u:Un (frs X.stack) [] H H' s.heap h1)(up:h1.UpToSlots s'.heap)(ff:h1.FunFrames B X.stack)(fl:Heap.FlyingW B X.outer ea cls a0 s'.heap)(hok:HOk X.prog X.w H' B)
  (kp: ∀b o,s.heap.get? b=some o→H b=none→b∉frs X.stack→B.get? b=some o) (th: ∀b o,s.heap.get? b=some o→b∉frs X.stack→ ∃o',B.get? b=some o') (os:s'.os=s.os) (bare:AllBare s'.gens):
  Fly X.prog X.w X.outer X.H₀ X.s₀ ea cls H' s':=by
 have nst: ∀b o,X.s₀.heap.get? b=some o→b∉frs X.outer→b∉frs X.stack:=fun b o e hb z=>by
  rcases List.mem_cons.mp (I.stkSub b z) with q|q
  ·exact absurd q (Nat.ne_of_lt (Nat.lt_of_lt_of_le (Heap.lt_size e) I.ok.above))
  ·exact hb q
 have nx: ∀b,b∉X.ex:=fun b=>by rw[W.ex];simp
 have nn: ∀b:Addr,b∉([]:List Addr):=fun b=>by simp
 have inS: ∀b,b∈frs X.outer→b∈frs X.stack:=fun b hb=>by
  rw[W.stk];obtain⟨env,he,hf⟩:=List.mem_filterMap.mp hb;exact List.mem_filterMap.mpr ⟨env,List.mem_cons_of_mem _ he,hf⟩
 have kpo: ∀b o,X.s₀.heap.get? b=some o→X.H₀ b=none→b∉frs X.outer→B.get? b=some o:=fun b o e n hb=>
  kp b o (I.base.keep b o e n hb (nx b)) (I.base.free b o e n (nx b)) (nst b o e hb)
 refine⟨os.trans I.os,bare,⟨fun b o e n hb _=>fl.1 b o (kpo b o e n hb),fun b o e n hb _=> ?_,fun b o e n _=> ?_,fun b o e _=> ?_,fun b xs e=>u.tups b xs (I.base.tups b xs e),fun b o xs e=>u.frzs b o xs (I.base.frzs b o xs e),fun b ps e=> ?_⟩,
  B,a0,fl,hok,kpo,fun b o e hb=> ?_⟩
 ·obtain⟨sl,e1⟩:=I.base.slot b o e n hb (nx b);obtain⟨sl2,e2⟩:=u.any e1 (I.base.free b o e n (nx b)) (nn b);obtain⟨_,o',ho',hnf⟩:=ff.mem (inS b hb);rw[e2] at ho';cases ho';obtain⟨sl3,e3⟩:=up b _ e2 hnf;exact⟨sl3,e3⟩
 ·obtain⟨o',e1⟩:=I.base.there b o e (nx b);exact u.free b o' e1 (I.base.free b o e n (nx b)) (nn b)
 ·obtain⟨o1,e1⟩:=I.base.there b o e (nx b);by_cases hb:b∈frs X.stack
  ·obtain⟨_,o',ho',hnf⟩:=ff.mem hb;obtain⟨sl3,e3⟩:=up b _ ho' hnf;exact⟨_,e3⟩
  ·obtain⟨o2,e2⟩:=th b o1 e1 hb;exact⟨o2,fl.1 b o2 e2⟩
 ·obtain⟨m1,e1⟩:=I.base.tbls b ps e;obtain⟨m2,e2⟩:=u.tbls b _ e1;exact⟨m1++m2,by rw[e2,Array.append_assoc]⟩
 ·obtain⟨o1,e1⟩:=I.base.there b o e (nx b);exact th b o1 e1 (nst b o e hb)
theorem zjP(W:X.Own)(I:Inv X pins σ H s)(F:Fly X.prog X.w X.stack H s ea cls H' s')
  (hQ: ∀h',Fly X.prog X.w X.outer X.H₀ X.s₀ ea cls H' {s' with heap:=h'}→Q () {s' with heap:=h'}):wpAny M X.A (leaving X.env (.ref ea)) Q E s':=by
 obtain⟨B,a0,fl,hok,kp,th⟩:=F.ex;have fl2:=fl;rw[W.stk] at fl2;refine wpAny_leaves_onW (by rw[I.ok.frames,W.stk]) W.fr fl2 fun h' fl' up=>hQ h' ?_;exact I.fly_out W F.un up fl.2.2.1 fl' hok kp th F.os F.bare
theorem Inv.hide(I:Inv X pins σ H s):HOk X.prog X.w H (PySem.W.hideAll s.heap (frs X.stack))∧
  s.heap.FunFrames (PySem.W.hideAll s.heap (frs X.stack)) X.stack:=by
 refine⟨fun a u e=>(I.hok a u e).stay (fun b v hc q=>PySem.W.hideAll_get _ q fun z=> ?_) (fun _ q=>q) fun _ _ q=>q,PySem.W.funFrames_hide I.stack fun env he a ha=>List.mem_filterMap.mpr ⟨env,he,ha⟩⟩;have n:=I.stkFree b z;rcases hc with rfl|hc
 ·rw[n] at e;cases e
 ·rw[n] at hc;cases hc
theorem ziR(W:X.Own)(I:Inv X pins σ H s){args:List Value}(hx:Heap.MadeExcOf s.heap h2 ea cls args)
  (hQ: ∀h',Fly X.prog X.w X.outer X.H₀ X.s₀ ea cls H {s with heap:=h'}→Q () {s with heap:=h'}):wpAny M X.A (leaving X.env (.ref ea)) Q E {s with heap:=h2}:=by
 obtain⟨hok,ff⟩:=I.hide;have ff2:=ff;rw[W.stk] at ff2;refine wpAny_leaves_madeW (s:={s with heap:=h2}) (base:=PySem.W.hideAll s.heap (frs X.stack)) (h:=s.heap) (by rw[I.ok.frames,W.stk]) W.fr (fun b o q=>PySem.W.of_hideAll _ q) (by rw[←W.stk];exact ff) hx fun h' t fl tup bt up=>hQ h' ?_;exact I.fly_out (s':={s with heap:=h'}) W (Un.kept hx.keeps) up (ff.of_keeps fun b o e _=>⟨o,hx.keeps b o e,rfl⟩) fl hok (fun b o e _ hb=>PySem.W.hideAll_get _ e hb) (fun b o e hb=>⟨o,PySem.W.hideAll_get _ e hb⟩) rfl I.bare
end
def CXE(P:Program)(w:World):CXT:=fun l H s E e s'=> ∃ea cls H',e= .ref ea∧Fly P w l H s ea cls H' s'∧E cls none H'
structure Lv (X:Cx) (Ek:St→XK):Prop where
 call: ∀pins σ ea cls H H' s s',Inv X pins σ H s→Fly X.prog X.w X.stack H s ea cls H' s'→Ek σ cls none H'→X.xe (.ref ea) s'
structure LvR (X:Cx) (Ek:St→XK):Prop extends Lv X Ek where
 new: ∀pins σ ea cls args H s h2,Inv X pins σ H s→Heap.MadeExcOf s.heap h2 ea cls args→Ek σ cls none H→X.xe (.ref ea) {s with heap:=h2}
theorem zfr{P:Program}{w:World}{K:Fg}{mg:Str→Option Value}{base:Heap}{N:List Str}{qual:Str}{scope:Scope}{f:Addr}{cd:Value}{A:Around}{outer:List Env}{s:Shared}{H:Hp}{E:XK}:
  LvR (zcM (CXE P w) P w K mg base N qual scope f cd A outer s H E) (fun _=>E):=by
 have W:(zcM (CXE P w) P w K mg base N qual scope f cd A outer s H E).Own:=⟨rfl,rfl,rfl⟩
 refine⟨⟨fun pins σ ea cls H1 H' s1 s' I F q=> ?_⟩,fun pins σ ea cls args H1 s1 h2 I hx q=> ?_⟩
 ·exact zjP W I F fun h' F=>⟨ea,cls,H',rfl,F,q⟩
 ·exact ziR W I hx fun h' F=>⟨ea,cls,H1,rfl,F,q⟩
section
variable {X:Cx} {Ek:St→XK} {k:Nat} {f C:Addr} {fd:FuncData} {ps:List Str} {sp:Sp} {dvs:List V} {ds:List Value} {x:Str} {p pos:Pos} {e:Expr} {es:List Expr} {t:TA}
theorem ziS{pins:List (Addr×Obj)}{σ:St}{H:Hp}{s:Shared}{Q:VK}{us:List Value}{vs:List V}(L:Lv X Ek)(F:FnOk X.prog X.w X.K X.mg X.base (CXE X.prog X.w) k f fd ps sp)(hr:Room k X.A)(hb:zaA X.K fd ps ds)(hd:zaP dvs ds)
  (I:Inv X pins σ H s) (r:zaP vs us) (h:sp (vs++dvs) H Q (Ek σ)):wpAny (model X.prog X.w) X.A (call (.ref f) us) (EP X pins σ Q) X.xe s:=by
 have r2:zaP (vs++dvs) (us++ds):=r.append hd;have hl:(us++ds).length=ps.length:=by rw[←r2.length];exact F.len _ _ _ _ h
 refine wpAny_call (codeAny_mono (F.run X.A X.stack s H ⟨us, []⟩ (us++ds) (vs++dvs) Q (Ek σ) hr I.env0 (hb s us I.kIn hl) r2 h) fun r s' hq=> ?_);cases r with
 |error e=>
  obtain⟨ea,cls,H',rfl,fl,q⟩:=hq;exact L.call pins σ ea cls H H' s s' I fl q
 |ok fl=>
  cases fl with
  |ret u=>exact I.after hq
  |next=>exact False.elim hq
  |brk=>exact False.elim hq
  |cont=>exact False.elim hq
def zaX(sp:Sp)(dvs:List V)(Ek:St→XK)(t:TA):TE:=fun σ H Q=>t σ H fun vs H1=>sp (vs++dvs) H1 Q (Ek σ)
theorem zag(L:Lv X Ek)(F:FnOk X.prog X.w X.K X.mg X.base (CXE X.prog X.w) k f fd ps sp)(hr:Room k X.A)(hg:Gl X x)(hm:X.mg x=some (.ref f))(hk:PySem.W.keepIn X.K (.ref f)=true)(hb:zaA X.K fd ps ds)(hd:zaP dvs ds)
  (ha:PA X (e::es) t) (hdb:(x==("__debug__":Str))=false:=by decide) (he:starEach (e::es) X.env=(false,eval e X.env)::starEach es X.env:=by rfl) (hpl:(backTo pos (starEach es X.env)).any (·.1)=false:=by rfl):
  PE X (.Call (.Name x p) (e::es) [] pos) (zaX sp dvs Ek t):=by
 intro pins s σ H Q I h;refine wpAny_Call_Name_kw (zec I hg hm ?_ hdb);refine PySem.W.callWith_K (h₀:=X.base) I.ok.mod.kin hk (thn (ha pos pins s σ H _ I h) fun us s1 ⟨vs,H1,I1,r,q⟩=>⟨I1.kIn,?_⟩) he hpl;exact ziS L F hr hb hd I1 r q
structure Exc (K:Fg) (C:Addr):Prop where
 ok: ∃bmB newId initId,ExcBaseFacts "ValueError" newId initId bmB∧PySem.W.excIn K C bmB newId=true
theorem ziT{K:Fg}{h:Heap}{C:Addr}{bmB:List Value}{newId:String}(X:K.In h)(q:PySem.W.excIn K C bmB newId=true):
  ∃bm N nm q bs hdct sn sub ab col dd k0 k1 k2 k3 k5 mN,h.get? C=some (excClassObj nm q C N bs bm hdct sn sub ab col dd k0 k1 k2 k3 k5 newId)∧h.Ns N mN∧mN "__init__"=none∧OwnTail h bmB bm:=by
 unfold PySem.W.excIn at q;split at q
 case h_2=>cases q
 case h_1 dd cd sl ho=>
  split at q
  case h_2=>cases q
  case h_1 C1 bm1 a0 a1 a2 a3 nw a5 hm hs=>
   simp only[Bool.and_eq_true,beq_iff_eq,Bool.not_eq_true'] at q;obtain⟨⟨⟨⟨⟨e1,e2⟩,e3⟩,e4⟩,e5⟩,e6⟩:=q;subst e1;subst e2;cases cd with
   |mk nm bs mro ns qn hd sn sub ab col del=>
    have m1:mro= .ref C1::bm1:=hm;have m2:del=false:=e3;subst m1;subst m2;have z:sl= #[a0,a1,a2,a3,some (.builtin nw),a5]:=Array.toList_inj.mp hs;subst z;exact⟨bm1,ns,nm,qn,bs,hd,sn,sub,ab,col,dd,a0,a1,a2,a3,a5,_,X _ _ ho,Heap.Ns.of_isNs (PySem.W.isNs_of_in X e5),PySem.W.nsMap_none_of_in X e5 e6,PySem.W.tail_of_in X e4⟩
def zaZ(C:Addr)(Ek:St→XK)(t:TA):TS:=fun _ σ H=>t σ H fun vs H1=>vs.length≤sizeLine∧Ek σ (.ref C) none H1
theorem zbs(L:LvR X Ek)(O:Exc X.K C)(hc:X.calm=true)(hg:Gl X x)(hm:X.mg x=some (.ref C))(ha:PA X (e::es) t)(hdb:(x==("__debug__":Str))=false:=by decide)
  (he:starEach (e::es) X.env=(false,eval e X.env)::starEach es X.env:=by rfl) (hpl:(backTo pos (starEach es X.env)).any (·.1)=false:=by rfl) {rpos:Pos}:
  PS X (.Raise (some (.Call (.Name x p) (e::es) [] pos)) none rpos) (zaZ C Ek t):=by
 intro pins s σ H D I h;obtain⟨bmB,newId,initId,FB,q⟩:=O.ok;obtain⟨tl,N,nm,qn,bs,hdct,sn,sub,ab,col,dd,k0,k1,k2,k3,k5,mN,hC,hN,hni,T⟩:=ziT I.ok.mod.kin q;refine wpAny_Raise_call_subT (C:=C) (nm:=nm) (q:=qn) (N:=N) (bs:=bs) (bm:=tl) (hdct:=hdct) (sn:=sn) (sub:=sub) (ab:=ab) (col:=col) (dd:=dd) (k0:=k0) (k1:=k1) (k2:=k2) (k3:=k3) (k5:=k5)
  FB (mN:=mN) (T.hasType FB.hasBase) (I.ok.hd hc) (by rw[he];show (false||(backTo pos (starEach es X.env)).any (·.1))=false;rw[hpl];rfl) hni (zec I hg hm ⟨rfl,?_⟩ hdb)
 have ha':=ha pos pins s σ H _ I h;rw[he] at ha' ⊢;refine Calls.evalArgs_plain (wpAny_mono ha' (fun us s2 hq=> ?_) fun _ _ y=>y);obtain⟨vs,H1,I1,r,hl,q1⟩:=hq;refine⟨rfl,by rw[←r.length];exact hl,I1.bk _ _ hC,hN.keeps I1.bk,T.keeps I1.bk,fun h' ea hm=> ?_⟩;exact L.new pins σ ea _ us H1 s2 h' I1 hm q1
end
def zjn(ea:Addr)(cls:Value):HO:= .ext fun h=> ∃o vs,h.get? ea=some o∧o.cls=cls∧o.data= .fields vs
section
variable {X:Cx} {pins:List (Addr×Obj)} {σ:St} {H H':Hp} {s s':Shared}
abbrev Cx.other(X:Cx)(pn:List (Addr×Obj))(xe:Value→Shared→Prop):Cx:={X with pn:=pn,xe:=xe}
abbrev Cx.suite(X:Cx)(ea:Addr):Cx:={X with A:=X.A.mark (some (.ref ea)),calm:=false,xe:=fun _ _=>False}
theorem Cx.Ok.other(ok:X.Ok)(pn:List (Addr×Obj))(xe:Value→Shared→Prop):(X.other pn xe).Ok:=
 ⟨ok.mod,ok.kind,ok.glob,ok.blt,ok.above,ok.inj,ok.has,ok.cab,ok.hd,ok.frames,ok.stk,ok.exf,ok.bs,ok.bsz,ok.noex,ok.exfs,ok.funs,ok.frf⟩
theorem Cx.Ok.unother{pn:List (Addr×Obj)}{xe:Value→Shared→Prop}(ok:(X.other pn xe).Ok):X.Ok:=
 ⟨ok.mod,ok.kind,ok.glob,ok.blt,ok.above,ok.inj,ok.has,ok.cab,ok.hd,ok.frames,ok.stk,ok.exf,ok.bs,ok.bsz,ok.noex,ok.exfs,ok.funs,ok.frf⟩
theorem Cx.Ok.suite(ok:X.Ok)(ea:Addr):(X.suite ea).Ok:=
 ⟨ok.mod,ok.kind,ok.glob,ok.blt,ok.above,ok.inj,ok.has,ok.cab,fun h=>(by cases h),ok.frames,ok.stk,ok.exf,ok.bs,ok.bsz,ok.noex,ok.exfs,ok.funs,ok.frf⟩
theorem Inv.other(I:Inv X pins σ H s)(xe:Value→Shared→Prop):Inv (X.other (X.pn++pins) xe) [] σ H s:=
 ⟨I.ok.other _ _,I.os,I.bare,I.base,I.loc,I.cell,I.free,I.freeC,fun p hp=>I.pin p (by simpa using hp),I.hok,I.len⟩
theorem Inv.unother{xe:Value→Shared→Prop}{pins':List (Addr×Obj)}(I:Inv (X.other (X.pn++pins) xe) pins' σ H s):Inv X pins σ H s:=
 ⟨I.ok.unother,I.os,I.bare,I.base,I.loc,I.cell,I.free,I.freeC,fun p hp=>I.pin p (List.mem_append_left _ hp),I.hok,I.len⟩
theorem Inv.suite(I:Inv X pins σ H s)(ea:Addr):Inv (X.suite ea) pins σ H s:=
 ⟨I.ok.suite ea,I.os,I.bare,I.base,I.loc,I.cell,I.free,I.freeC,I.pin,I.hok,I.len⟩
end
section
variable {X:Cx} {body suite:List Stmt} {b₀:Stmt} {n xn:Str} {i:Nat} {C:Addr} {tb:(St→XK)→TS} {ts:TS} {np hpos pos:Pos}
end
end L2
namespace L2
open PySem PySem.Spec PyProof.Rows
theorem Fun.okX{P:Program}{w:World}{K:Fg}{mg:Str→Option Value}{base:Heap}{x qual:Str}{st:Stmt}{f:Addr}{fd:FuncData}{N ps:List Str}{k:Nat}{sp:Sp}(F:Fun K x qual st f fd)(S:FnScope N ps (zai st))(len: ∀vs H Q E,sp vs H Q E→vs.length=ps.length)
  (hbody: ∀(cdv:Value) (A:Around) (outer:List Env) (s:Shared) (H:Hp) (vs:List V) (Q:VK) (E:XK),LvR (zcM (CXE P w) P w K mg base N qual (zai st) f cdv A outer s H E) (fun _=>E)→Room k (A.deeper (envOfC qual (zai st) s.heap.objs.size f cdv))→sp vs H Q E→
   ∃t,PSs (zcM (CXE P w) P w K mg base N qual (zai st) f cdv A outer s H E) (zbM st) t∧t {nx:=fun _ H'=>Q .non H',rt:=Q} (start N vs) H):FnOk P w K mg base (CXE P w) (k+1) f fd ps sp:=by
 obtain⟨oc,od,kV,doc,pm,an,cdv,ct,osl,rfl,lk,hcd⟩:=F.ex;exact zhV lk hcd S len fun A outer s H vs Q E hr hsp=>hbody cdv A outer s H vs Q E zfr hr hsp
end L2
namespace L2
open PySem PySem.Spec PyProof.Rows
theorem zbB:bootBuiltins "len"=some (.builtin "len"):=by decide+kernel
theorem zhZ:bootBuiltins "min"=some (.builtin "min"):=by decide+kernel
theorem zjQ:bootBuiltins "any"=some (.builtin "any"):=by decide+kernel
theorem ze4:bootBuiltins "divmod"=some (.builtin "divmod"):=by decide+kernel
theorem zaN:bootBuiltins "isinstance"=some (.builtin "isinstance"):=by decide+kernel
theorem zcR:bootBuiltins "int"=some (.type "int"):=by decide+kernel
theorem zct:bootBuiltins "str"=some (.type "str"):=by decide+kernel
theorem zgS:bootBuiltins "bool"=some (.type "bool"):=by decide+kernel
theorem zeo:bootBuiltins "tuple"=some (.type "tuple"):=by decide+kernel
theorem zfs:bootBuiltins "list"=some (.type "list"):=by decide+kernel
open PySem.Builtin PySem.Builtin.ObjectAttr PySem.Builtin.Getset_descriptor
structure ExcCls (K:Fg) (D:Addr):Prop where
 cls:(PySem.W.clsIn K D).isSome=true
 ga:PySem.W.findIn K (.ref D) "__getattribute__"=some (some (.builtin "BaseException.__getattribute__"))
 gt:PySem.W.findIn K (.ref D) "__getattr__"=some none
 cl:PySem.W.findIn K (.ref D) "__class__"=some (some (.builtin "object.__class__"))
 mo:PySem.W.mroIn K D (.type "object")=some true
 mb:PySem.W.mroIn K D (.type "BaseException")=some true
section
variable {prog:Program} {w:World} {A:Around} {E:Value→Shared→Prop} {h:Heap} {g:Array GenState} {d:Drawn} {t:Nat} {os:OsState} {K:Fg} {a D:Addr} {o:Obj}
theorem zep{M:Model}(hx:h.get? a=some o)(hc:o.cls= .ref D):PySem.W.Looks M h (typeOf (.ref a)) (.ref D):=hc ▸ (PySem.W.Looks.ld hx).andThen .now
theorem zeQ{R:Result→Shared→Prop}(X:K.In h)(C:ExcCls K D)(hx:h.get? a=some o)(hc:o.cls= .ref D)(hq:R (.ok (.ret (.ref D))) ⟨h,g,d,t,os⟩):
  codeAny (model prog w) A (.call (.builtin "getset_descriptor.__get__") ⟨[.builtin "object.__class__", .ref a, .ref D], []⟩) R ⟨h,g,d,t,os⟩:=by
 have L0:=zep (M:=model prog w) hx hc;have L1:=PySem.W.looks_mroIn (M:=model prog w) X C.mo;have T5:(⟨h,g,d,t,os⟩:Shared).TypeIs (.builtin "object.__class__") "getset_descriptor":=F.typeOf_object_class;refine codeAny_call_builtin F.slot_gs_get.plain F.entry_gs_get (F.slot_gs_get.check _ _ _ _ _ _ _ _ T5 (F.args_gs_get _ _ _) ?_);unfold Builtin.«getset_descriptor.__get__» descrGet;rw[PySem.W.dga_obj];refine wpAny_bind (wpAny_pure ?_);unfold descrGetter descrCheckInstance descrNameAndClass;unfold isInstance;simp only[PySem.W.KF.owner_class];repeat lk
 refine⟨Code.quiet_builtin _ (by decide+kernel),codeAny_builtin F.entry_object_class ?_⟩;unfold Builtin.«object.__class__»;unfold shownTypeOf;repeat lk
 exact hq
theorem zeb{tk:Tok}{Q:Fin→Shared→Prop}(X:K.In h)(C:ExcCls K D)(hx:h.get? a=some o)(hc:o.cls= .ref D)(hq:Q (.done (.ret (.ref D))) ⟨h,g,d,t,os⟩):
  wpAny (model prog w) A (Builtin.«object.__getattribute__» ⟨[.ref a, .str "__class__" tk], []⟩) Q E ⟨h,g,d,t,os⟩:=by
 have L0:=zep (M:=model prog w) hx hc;have L1:=PySem.W.looks_findIn (M:=model prog w) X C.cl;have T5:(⟨h,g,d,t,os⟩:Shared).TypeIs (.builtin "object.__class__") "getset_descriptor":=F.typeOf_object_class;have f5:=F.typeOf_object_class;have f6:=F.slot_gs_get.lookup;have f7:=F.slot_gs_set.lookup;repeat (any_goals (first|assumption|(with_reducible refine wpAny_loadPart_at hx ?_;rw[hc])|with_reducible refine PySem.W.Looks.at L1 ?_|wp_step))
 refine zeQ X C hx hc ?_;repeat (any_goals (first|assumption|wp_step))
theorem zeq{tk:Tok}{R:Result→Shared→Prop}(X:K.In h)(C:ExcCls K D)(hx:h.get? a=some o)(hc:o.cls= .ref D)(hq:R (.ok (.ret (.ref D))) ⟨h,g,d,t,os⟩)
  (hk: ∀(Q:Unit→Shared→Prop) (E:Value→Shared→Prop) (A:Around) (nameV:Value),Q () ⟨h,g,d,t,os⟩→wpAny (model prog w) A (checkBuiltinCall "BaseException.__getattribute__" ⟨[.ref a,nameV], []⟩) Q E ⟨h,g,d,t,os⟩):
  codeAny (model prog w) A (.call (.builtin "BaseException.__getattribute__") ⟨[.ref a, .str "__class__" tk], []⟩) R ⟨h,g,d,t,os⟩:=
 codeAny_call_builtin F.excAttr_ValueError.ga.plain F.entry_bexc_ga (hk _ _ _ _ (zeb X C hx hc hq))
theorem zhn{M:Model}{nameV:Value}{Q:Unit→Shared→Prop}(X:K.In h)(C:ExcCls K D)(hx:h.get? a=some o)(hc:o.cls= .ref D)(hq:Q () ⟨h,g,d,t,os⟩):
  wpAny M A (checkBuiltinCall "BaseException.__getattribute__" ⟨[.ref a,nameV], []⟩) Q E ⟨h,g,d,t,os⟩:=by
 have k1:builtinKind "BaseException.__getattribute__"=some .slot:=by decide+kernel
 have k2:splitId "BaseException.__getattribute__"=some ("BaseException","__getattribute__"):=by decide+kernel
 have L0:=zep (M:=M) hx hc;have L1:=PySem.W.looks_mroIn (M:=M) X C.mb;have k3:=F.args_bexc_ga (.ref a) nameV;simp only[checkBuiltinCall,k1,k2];refine wpAny_bind ?_;unfold isInstance;repeat (any_goals (first|assumption|(with_reducible refine wpAny_loadPart_at hx ?_;rw[hc])|with_reducible refine PySem.W.Looks.at L1 ?_|wp_step))
theorem zer{Q:Option Value→Shared→Prop}(X:K.In h)(C:ExcCls K D)(hx:h.get? a=some o)(hc:o.cls= .ref D)(hq:Q (some (.ref D)) ⟨h,g,d,t+1,os⟩):
  wpAny (model prog w) A (getAttr? (.ref a) "__class__") Q E ⟨h,g,d,t,os⟩:=by
 have L0:=zep (M:=model prog w) hx hc;have L1:=PySem.W.looks_findIn (M:=model prog w) X C.ga;have L2:=PySem.W.looks_findIn (M:=model prog w) X C.gt;have f3:=F.excAttr_ValueError.ga.bind (.ref a);have x2:(Value.builtin "BaseException.__getattribute__"==Value.builtin "object.__getattribute__")=false:=by decide+kernel
 have x1:(onTheHeap (Value.ref D) && Value.builtin "BaseException.__getattribute__"==Value.builtin "object.__getattribute__")=false:=by rw[x2];rfl
 have x0:(false && onTheHeap (Value.builtin "BaseException.__getattribute__"))=false:=rfl;unfold getAttr? getAttrBy?;repeat (any_goals (first|assumption|(with_reducible refine wpAny_loadPart_at hx ?_;rw[hc])|with_reducible refine PySem.W.Looks.at L1 ?_|with_reducible refine PySem.W.Looks.at L2 ?_|wp_step))
 refine zeq X C hx hc ?_ (fun Q E A n q=>zhn X C hx hc q);repeat (any_goals (first|assumption|wp_step))
end
theorem zh0{K:Fg}{a D:Addr}(C:ExcCls K D):PySem.W.KitX K (.ref a) (.ref D) (fun h=> ∃o vs,h.get? a=some o∧o.cls= .ref D∧o.data= .fields vs) where
 ty:=fun _ _ _ ⟨_,_,h1,h2,_⟩=>zep h1 h2
 it:=fun _ _ X _=>by
  obtain⟨cd,hc⟩:=Option.isSome_iff_exists.mp C.cls;unfold PySem.W.clsIn at hc;split at hc
  case h_2=>cases hc
  case h_1 ho=>
   intro A' Q' E' s' k q;unfold isType loadHead;exact wpAny_bind (wpAny_loadPart (k _ _ (X _ _ ho)) (wpAny_pure q))
 ne:=fun h tp dd its n sl X htp=>by
  obtain⟨cd,hc⟩:=Option.isSome_iff_exists.mp C.cls;unfold PySem.W.clsIn at hc;refine Bool.eq_false_iff.mpr fun q=> ?_;obtain rfl:D=tp:=Value.ref.inj (beq_iff_eq.mp q);split at hc
  case h_2=>cases hc
  case h_1 ho=>cases (X _ _ ho).symm.trans htp
 ca:=fun {_ _ _ _ _ s} X ⟨_,_,h1,h2,_⟩ k=>by
  obtain⟨h,g,d,t,os⟩:=s;exact zer X C h1 h2 k
inductive TyX (K:Fg) (H:Hp):V→Value→Prop where
 |old {x:V} {t:Value} (h:TyOf K H x t):TyX K H x t
 |exc {a D:Addr} (e:H a=some (zjn a (.ref D))) (C:ExcCls K D):TyX K H (.ref a) (.ref D)
theorem zba{X:Cx}:zbI X (.builtin "isinstance") (fun xs H Q=> ∃x c t cv b,xs= [x,c]∧TyX X.K H x t∧zaB c cv∧PySem.W.kitOne X.K t cv=some b∧Q (.bl b) H):=by
 intro pins s σ H xs us Q I r h;obtain⟨x,c,t,cv,b,rfl,ty,rc,e,q⟩:=h;obtain⟨u,u2,rfl,r1,r2⟩:=zgP r;have e2:u2=cv:=by
  cases c<;>first
   |exact r2.trans rc.symm
   |(exfalso
     obtain⟨t2,z⟩:=rc;subst z;revert e
     unfold PySem.W.kitOne PySem.W.kitCls;cases ty with
     |exc e C=>simp
     |old h=>cases h<;>simp)
 subst e2;cases ty with
 |old h=>exact zhj I r1 h e fun tk=>⟨.bl b,H,I.tok tk,rfl,q⟩
 | @exc a D ea C=>
  cases (show u=Value.ref a from r1);obtain⟨p,_⟩:=(show zbm X.prog X.w H s.heap a (zjn a (.ref D)) from I.hok a _ ea)
  exact PySem.W.kia_one (zh0 C) I.kIn p e (fun z=>nomatch z) fun tk=>⟨.bl b,H,I.tok tk,rfl,q⟩
structure ClsOk (K:Fg) (C:Addr):Prop where
 cls:(PySem.W.clsIn K C).isSome=true
 ty:PySem.W.typeIn K (.ref C)=some (.type "type")
 me:PySem.W.mroIn K C (.ref C)=some true
theorem zd0{K:Fg}:PySem.W.kitOne K (.type "int") (.type "int")=some true:=by
 unfold PySem.W.kitOne;rw[if_pos (by decide)]
theorem zdA{K:Fg}:PySem.W.kitOne K (.type "int") (.type "bool")=some false:=by
 unfold PySem.W.kitOne;rw[if_neg (by decide)];kernel_rfl
section
variable {X:Cx}
theorem zho(bs:List Bool):(List.range bs.length).any (fun i=>bs.getD i false)=bs.any id:=by
 rw[Bool.eq_iff_iff,List.any_eq_true,List.any_eq_true];constructor
 ·rintro⟨i,hi,h⟩;have hl:i<bs.length:=List.mem_range.mp hi;refine⟨bs[i],List.getElem_mem hl,?_⟩;rw[List.getD_eq_getElem?_getD,List.getElem?_eq_getElem hl] at h;exact h
 ·rintro⟨b,hb,h⟩;obtain⟨i,hl,rfl⟩:=List.getElem_of_mem hb;refine⟨i,List.mem_range.mpr hl,?_⟩;rw[List.getD_eq_getElem?_getD,List.getElem?_eq_getElem hl];exact h
theorem zh1(hc:X.calm=true):zbI X (.builtin "any") (fun xs H Q=> ∃(p:Addr) (bs:List Bool),xs= [.ref p]∧SqL X.K H p (bs.map V.bl)∧Q (.bl (bs.any id)) H):=by
 intro pins s σ H xs us Q I r h;obtain⟨p,bs,rfl,hq,q⟩:=h;obtain⟨u,rfl,ru⟩:=zcL r;obtain rfl:u=Value.ref p:=ru;obtain⟨its,rv,pl,hz⟩:=I.list hq;have hl:bs.length=its.length:=by rw[←rv.length,List.length_map]
 obtain⟨o0,n0,e0,_⟩:=id pl;have ne:p≠s.heap.objs.size:=Nat.ne_of_lt (Heap.lt_size e0);refine call_any_walk (wpAny_pyIter_list pl.isList ?_);refine⟨s.heap.objs.size,_,_,_,_,_,fun i=>bs.getD i false,rfl,Walks.list (show X.A.in1.handled=none from I.ok.hd hc) s.heap.objs.size p ne its.toArray,⟨⟨_,Heap.get?_push_size _ rfl,rfl,rfl⟩,?_⟩,?_,fun h' tk hk=> ?_⟩
 ·exact pl.isList.at fun o e=>Heap.get?_push_of_some _ e
 ·intro i v s' Q' E' hv hQ;have hi:its[i]? =some v:=by simpa using hv
  obtain⟨hlt,_⟩:=List.getElem?_eq_some_iff.mp hi;have hb:(bs.map V.bl)[i]? =some (.bl bs[i]):=by rw[List.getElem?_map,List.getElem?_eq_getElem (by omega)];rfl
  obtain⟨u',e',r'⟩:=rv.get hb;rw[hi] at e';cases e';obtain rfl:v=Value.bool bs[i]:=r';refine wpAny_truthy_bool ?_;have z:bs.getD i false=bs[i]:=by rw[List.getD_eq_getElem?_getD,List.getElem?_eq_getElem (by omega)];rfl
  rw[←z];exact hQ
 ·have e:((List.range its.toArray.size).any fun i=>bs.getD i false)=bs.any id:=by rw[List.size_toArray,←hl,zho]
  rw[e];refine⟨.bl _,H,I.kept (t':=tk) fun b o hb=>hk b o (fun z=> ?_) (Heap.get?_push_of_some _ hb),rfl,q⟩;have z':b=s.heap.objs.size:=by simpa using z
  exact absurd (z' ▸ Heap.lt_size hb) (Nat.lt_irrefl _)
end
section
variable {X:Cx}
theorem zcG{x:Str}{n:String}{pos:Pos}(hg:Gl X x)(hm:X.mg x=none)(hv:bootBuiltins x=some (.type n))(hn:x≠"__name__":=by decide)(hd:(x==("__debug__":Str))=false:=by decide):PE X (.Name x pos) (tC (.ty n)):=
 ziK (v:= .ty n) hg hm hv rfl hn hd
end
theorem zb8{CX:CXT}{P:Program}{w:World}{K:Fg}{mg:Str→Option Value}{base:Heap}{N:List Str}{qual:Str}{scope:Scope}{f:Addr}{cd:Value}{A:Around}{outer:List Env}{s:Shared}{H:Hp}{E:XK}:
  (zcM CX P w K mg base N qual scope f cd A outer s H E).K=K:=rfl
theorem slT{n:Nat}(h:n≤1000):(n≤sizeLine)=True:=eq_true (Nat.le_trans h (by decide))
theorem ixL{K:Fg}{H:Hp}{p:Addr}{xs:List V}{i:Int}{v:V}{Q:VK}(h:SqL K H p xs)(e:atI xs i=some v)(q:Q v H):zkC K (.ref p) (.int i) H Q:=⟨p,xs,i,v,rfl,rfl,h,e,q⟩
theorem ixT{K:Fg}{H:Hp}{p:Addr}{xs:List V}{i:Int}{v:V}{Q:VK}(h:SqT K H p xs)(e:atI xs i=some v)(q:Q v H):zkD K (.ref p) (.int i) H Q:=⟨p,xs,i,v,rfl,rfl,h,e,q⟩
theorem zcS{xs:List Int}{i:Int}(h0:0≤i)(h1:i<xs.length):atI (xs.map V.int) i=some (.int (xs.getD i.toNat 0)):=by
 obtain⟨k,rfl⟩:=Int.eq_ofNat_of_zero_le h0;have hk:k<xs.length:=by omega
 refine zaV ?_;rw[List.getElem?_map,List.getElem?_eq_getElem hk,Int.toNat_natCast,List.getD_eq_getElem?_getD,List.getElem?_eq_getElem hk];rfl
theorem zcb{H:Hp}{p:Addr}(h:H p=none)(o:HO):zau H (upd H p o):=fun b u q=>by rw[zaO (zbg q h)];exact q
theorem zaE(a b:Int):(zgg (.int a) (.int b)=true)=True:=eq_true rfl
theorem zaF(a b:Bool):(zgg (.bl a) (.bl b)=true)=True:=eq_true rfl
theorem zaG(a b:Str):(zgg (.str a) (.str b)=true)=True:=eq_true rfl
theorem zaH(b:Int):(zgg .non (.int b)=true)=True:=eq_true rfl
theorem zaI(a:Int):(zgg (.int a) .non=true)=True:=eq_true rfl
end L2
namespace L2
open PySem PySem.Spec PyProof.Rows
section
variable {X:Cx}
end
theorem zcO{H H':Hp}{p:Addr}{o:HO}(s:zau H H')(h:H p=none):zau H (upd H' p o):=fun b u q=>by
 rw[zaO (zbg q h)];exact s b u q
theorem zau.sqT{K:Fg}{H H':Hp}{a:Addr}{xs:List V}(e:zau H H')(h:SqT K H a xs):SqT K H' a xs:=by
 rcases h with(h|⟨o,h⟩)|h
 ·exact .inl (.inl (e _ _ h))
 ·exact .inl (.inr ⟨o,e _ _ h⟩)
 ·exact .inr h
end L2
namespace L2
open PySem PySem.Spec PyProof.Rows
def zk0(t:TS):TS:=fun D σ H=> ∃R:St→Hp→Prop,t {D with nx:=R} σ H∧ ∀σ' H',R σ' H'→D.nx σ' H'
theorem zft{X:Cx}{st:Stmt}{t:TS}(h:PS X st t):PS X st (zk0 t):=by
 intro pins s σ H D I q;obtain⟨R,q1,q2⟩:=q;refine thn (h pins s σ H {D with nx:=R} I q1) fun f s1 z=> ?_;cases f with
 |next=>
  obtain⟨σ',H',I',z⟩:=z;exact⟨σ',H',I',q2 _ _ z⟩
 |ret v=>exact z
 |brk=>exact z
 |cont=>exact z
section
variable {X:Cx} {Ek:St→XK} {k:Nat} {f:Addr} {fd:FuncData} {ps:List Str} {sp:Sp} {x:Str} {p pos:Pos} {e:Expr} {es:List Expr} {t:TA}
def za3(i:Nat)(f:Addr)(sp:Sp)(Ek:St→XK)(t:TA):TE:=fun σ H Q=>σ[i]? =some (some (.ref f))∧t σ H fun vs H1=>sp vs H1 Q (Ek σ)
end
section
variable {X:Cx} {K:Fg}
end
end L2
namespace L2
open PySem PySem.Spec PyProof.Rows
def SL(cs:List Nat):Str:=⟨cs.toArray⟩
theorem zgT(z:Str):z=SL z.cps.toList:=by cases z;rfl
theorem zbz(cs:List Nat):(SL cs).length=cs.length:=by show cs.toArray.size=_;simp
theorem zes(a b:List Nat):SL a++SL b=SL (a++b):=by
 show (⟨a.toArray++b.toArray⟩:Str)=⟨(a++b).toArray⟩;simp
theorem zaQ(a b:List Nat):(SL a=SL b)=(a=b):=by
 refine propext ⟨fun h=> ?_,fun h=>by rw[h]⟩
 have:=congrArg (fun z:Str=>z.cps.toList) h;exact this
def Its(x:Str):It:=⟨fun i _=>i<x.cps.size,fun i H v H'=>H'=H∧ ∃c,x.cps[i]? =some c∧v= .str ⟨#[c]⟩,fun i _=>i=x.cps.size⟩
theorem zfV{P:Program}{w:World}{K:Fg}{tg:Expr}(it:Addr)(x:Str)(t:Tok)(ty:String)(hn: ["enumerate","zip","dict_itemiterator","dict_reverseitemiterator","odict_iterator","itertools.zip_longest","itertools.pairwise"].contains ty=false)
  (W: ∀A:Around,A.handled=none→Walks P w A it [it] [it] x.cps.size (SignAt x) (fun i h=>h.IsStrIter it ty x t i)) (Sf: ∀(A:Around) (i:Nat) (s:Shared) (Q:Value→Shared→Prop) (E:Value→Shared→Prop),s.heap.IsStrIter it ty x t i→Q (.ref it) s→wpAny (model P w) A (pyIter (.ref it)) Q E s):
  Turn P w K tg (Its x) [it] it (fun i h=>h.IsStrIter it ty x t i) where
 mem:=by simp
 obj:=fun i h st b hb=>by
  have e:b=it:=by simpa using hb
  subst e;obtain⟨o,e,c,d⟩:=st;exact⟨o,e,fun v z=>by rw[d] at z;cases z⟩
 keep:=fun i h h' st k=>let ⟨o,ho,r⟩:=st;⟨o,k it (by simp) o ho,r⟩
 item:=by
  intro X hP hw hK hc i pins s σ H E I hf st hg;subst hP hw hK;obtain⟨f0,f1,f2,f3,f4,f5⟩:=hf it (by simp);refine(W X.A (I.ok.hd hc)).item i s _ _ hg st fun v h' tk hv st' kk=> ?_;obtain⟨c,u,hcx,rfl⟩:=hv;have I1:Inv X pins σ H {s with heap:=h',toks:=tk}:=I.turned (fun b o hb e=>kk b o (by simpa using hb) e) f0 f1 f3 f4 f5;obtain⟨o,e,cc,d⟩:=id st';exact⟨_,rfl,zhQ (s:={s with heap:=h',toks:=tk}) e cc d hn ⟨.str ⟨#[c]⟩,H,I1,⟨u,rfl⟩,⟨rfl,c,hcx,rfl⟩,st',fun b hb=>(hf b hb).1⟩⟩
 done:=by
  intro X hP hw hK hc i pins s σ H E I hf st hg;subst hP hw hK;obtain⟨f0,f1,f2,f3,f4,f5⟩:=hf it (by simp);have e:i=x.cps.size:=hg;rw[e] at st;exact(W X.A (I.ok.hd hc)).done s _ _ st fun h' tk kk=>⟨rfl,I.turned (fun b o hb e=>kk b o (by simpa using hb) e) f0 f1 f3 f4 f5⟩
 self:=Sf
section
variable {X:Cx} {tg:Expr}
def zb4(tl:TE):TI:=fun σ H R=>tl σ H fun x H1=> ∃z,x= .str z∧R (Its z) H1
theorem zfu{l:Expr}{tl:TE}(hl:PE X l tl):PI X tg l (zb4 tl):=by
 intro pins s σ H R I h;refine thn (hl pins s σ H _ I h) fun v s1 ⟨x,H1,I1,r1,q1⟩=> ?_;obtain⟨z,e,q⟩:=q1;subst e;obtain⟨t,rfl⟩:=r1;have fin: ∀(ty:String) (T:Turn X.prog X.w X.K tg (Its z) [s1.heap.objs.size] s1.heap.objs.size (fun i h=>h.IsStrIter s1.heap.objs.size ty z t i)),
   PIE X pins σ tg R (.ref s1.heap.objs.size) {s1 with heap:=s1.heap.push {cls:= .type ty,data:= .fields #[.str z t, .int 0 0]} }:=fun ty T=>
  ⟨s1.heap.objs.size, [s1.heap.objs.size],_,_,H1,rfl,I1.kept (t':=s1.toks) fun b o e=>Heap.get?_push_of_some _ e,T,⟨_,Heap.get?_push_size _ rfl,rfl,rfl⟩,fun b hb=>by
   have e:b=s1.heap.objs.size:=by simpa using hb
   subst e;exact I1.fpOk (Nat.le_refl _) (I1.hok.fresh (Nat.le_refl _)),q⟩
 cases ha:z.cps.all (· <128)
 ·exact wpAny_pyIter_wide ha (fin "str_iterator" (zfV _ z t _ (by decide) (fun A hh=>Walks.strWide hh _ z t) fun A i s Q E st h=>wpAny_pyIter_striter_wide st h))
 ·exact wpAny_pyIter_ascii ha (fin "str_ascii_iterator" (zfV _ z t _ (by decide) (fun A hh=>Walks.strAscii hh _ z t) fun A i s Q E st h=>wpAny_pyIter_striter_ascii st h))
end
theorem zed{cs:List Nat}{g:TG}{tb:TS}{D:Ends}{σ:St}{H:Hp}(Pv:Nat→St→Hp→Prop)(h0:Pv 0 σ H)
  (hs: ∀i c σ H,cs[i]? =some c→Pv i σ H→g (.str (SL [c])) σ H fun σ2 H2=>tb {D with nx:=Pv (i+1),ct:=Pv (i+1),bk:=D.nx} σ2 H2) (hd: ∀σ H,Pv cs.length σ H→D.nx σ H):
  ∃W:Nat→Nat→St→Hp→Prop,(∃m,W 0 m σ H)∧ ∀i m σ H,W i m σ H→
   ((Its (SL cs)).stop i H∧D.nx σ H)∨((Its (SL cs)).go i H∧ ∃N:St→Hp→Prop,(∀σ' H',N σ' H'→ ∃m',m'<m∧W (i+1) m' σ' H')∧ ∀x H',(Its (SL cs)).yld i H x H'→g x σ H' fun σ2 H2=>tb {D with nx:=N,ct:=N,bk:=D.nx} σ2 H2):=by
 have hsz:(SL cs).cps.size=cs.length:=by show cs.toArray.size=_;simp
 refine⟨fun i m σ H=>m=cs.length - i∧i≤cs.length∧Pv i σ H,⟨cs.length,by simp,Nat.zero_le _,h0⟩,?_⟩;rintro i m σ H ⟨rfl,hi,p⟩;by_cases hlt:i<cs.length
 ·refine .inr ⟨show i<(SL cs).cps.size by omega,Pv (i+1),fun σ' H' p'=>⟨cs.length - (i+1),by omega,rfl,hlt,p'⟩,fun x H' y=> ?_⟩;obtain⟨e,c,hc,rfl⟩:=y;subst e;exact hs i c σ _ (by simpa [SL] using hc) p
 ·have e:i=cs.length:=by omega
  subst e;exact .inl ⟨hsz.symm,hd σ H p⟩
def zdp(cs:List Nat)(lo hi:Option Int):List Nat:=(cs.drop (HT.sIx cs.length 0 lo)).take (HT.sIx cs.length cs.length hi - HT.sIx cs.length 0 lo)
theorem ziU(lo hi:Option Int)(n:Nat):Builtin.Str.strSliceIndices lo hi 1 n=(List.range (HT.sIx n n hi - HT.sIx n 0 lo)).map (HT.sIx n 0 lo+ ·):=by
 have cl: ∀(o:Option Int) (d:Nat),(match o with|none=>(d:Int)|some i=>if (1:Int)>0 then max 0 (min (if i<0 then i+(n:Int) else i) (n:Int)) else max (-1) (min (if i<0 then i+(n:Int) else i) ((n:Int) - 1)))=((match o with|none=>d|some i=>HT.sIx n d (some i):Nat):Int):=by
  intro o d;cases o with
  |none=>rfl
  |some i=>
   simp only[HT.sIx,show (1:Int)>0 by decide,if_true];by_cases h:i<0
   ·simp only[h,if_true];omega
   ·simp only[h,if_false];omega
 unfold Builtin.Str.strSliceIndices;have e1:HT.sIx n 0 lo=(match lo with|none=>0|some i=>HT.sIx n 0 (some i)):=by cases lo<;>rfl
 have e2:HT.sIx n n hi=(match hi with|none=>n|some i=>HT.sIx n n (some i)):=by cases hi<;>rfl
 rw[e1,e2,←sliceRange_one,←cl lo 0,←cl hi n];rfl
theorem zh2(cs:List Nat)(lo hi:Option Int):Txt.slice (SL cs) lo hi=SL (zdp cs lo hi):=by
 have hl:(SL cs).length=cs.length:=zbz cs;have ha:=HT.sIx_le cs.length 0 (Nat.zero_le _) lo;have hb:=HT.sIx_le cs.length cs.length (Nat.le_refl _) hi;unfold Txt.slice zdp;rw[hl,ziU,List.length_map,List.length_range];split
 ·rename_i h;have h2:HT.sIx cs.length cs.length hi - HT.sIx cs.length 0 lo=cs.length:=by simpa using h
  by_cases z:cs= []
  ·subst z;rw[List.drop_nil,List.take_nil]
  ·have hp:0<cs.length:=List.length_pos_iff.mpr z;have e0:HT.sIx cs.length 0 lo=0:=by omega
   rw[h2,e0,List.drop_zero,List.take_length]
 ·rw[pick_run];rfl
def dg(n:Nat):List Nat:=(Nat.toDigits 10 n).map Char.toNat
theorem zgU(n:Nat):Str.ofString (toString (n:Int))=SL (dg n):=by
 rw[zgT (Str.ofString (toString (n:Int))),PySem.W.KIN.signs_num];rfl
section
variable {X:Cx}
theorem zak{x:Str}{cs:List Nat}{j pos}(e:x=SL cs):PE X (.Constant (.str x) j pos) (tC (.str (SL cs))):=e ▸ zbP
theorem zaT:OpR X (binaryOp .Add) (fun x y H Q=> ∃a b,x= .str (SL a)∧y= .str (SL b)∧a.length+b.length≤sizeLine∧Q (.str (SL (a++b))) H):=by
 intro pins s σ H x y v u Q I rx ry h;obtain⟨a,b,rfl,rfl,hz,q⟩:=h;exact zgh pins s σ H _ _ v u Q I rx ry ⟨_,_,rfl,rfl,by rw[zbz,zbz];exact hz,by rw[zes];exact q⟩
theorem zjR:IxR X (fun x y H Q=> ∃cs i c,x= .str (SL cs)∧y= .int i∧cs.length≤sizeLine∧atI cs i=some c∧Q (.str (SL [c])) H):=by
 intro value slice pins s σ H x y v u Q I rx ry h hs;obtain⟨cs,i,c,rfl,rfl,hz,he,q⟩:=h;exact zjK value slice pins s σ H _ _ v u Q I rx ry ⟨_,i,c,rfl,rfl,by rw[zbz];exact hz,he,q⟩ hs
theorem zdQ:SlR X (fun x lo hi H Q=> ∃cs,x= .str (SL cs)∧cs.length≤sizeLine∧Q (.str (SL (zdp cs lo hi))) H):=by
 intro pins s σ H x v vl vu lo hi sl Q I rx hs pl pu h;obtain⟨cs,rfl,hz,q⟩:=h;obtain⟨t,rfl⟩:=rx;rw[←zh2] at q;have fin: ∀t' k,EP X pins σ Q (.str (Txt.slice (SL cs) lo hi) t') {s with toks:=k}:=fun t' k=>⟨.str (Txt.slice (SL cs) lo hi),H,I.tok _,⟨_,rfl⟩,q⟩
 have hl:(Txt.slice (SL cs) lo hi).length≤sizeLine:=Nat.le_trans (Txt.slice_le (SL cs) lo hi) (by rw[zbz];exact hz);refine⟨"str",_,F.slot_str_getitem.lookup,typeIs_str _ _ _,?_⟩;cases pl with
 |none=>
  cases pu with
  |none=>exact wpAny_getItem_str_slice (l:=none) (u:=none) (st:=none) hs rfl (post_val_or_str ⟨hl,fin⟩)
  |int j uj=>exact wpAny_getItem_str_slice (l:=none) (u:=some (j,uj)) (st:=none) hs rfl (post_val_or_str ⟨hl,fin⟩)
 |int i ui=>
  cases pu with
  |none=>exact wpAny_getItem_str_slice (l:=some (i,ui)) (u:=none) (st:=none) hs rfl (post_val_or_str ⟨hl,fin⟩)
  |int j uj=>exact wpAny_getItem_str_slice (l:=some (i,ui)) (u:=some (j,uj)) (st:=none) hs rfl (post_val_or_str ⟨hl,fin⟩)
theorem zb5:zbI X (.builtin "len") (fun xs H Q=> ∃cs,xs= [.str (SL cs)]∧cs.length≤sizeLine∧Q (.int cs.length) H):=by
 intro pins s σ H xs us Q I r h;obtain⟨cs,rfl,hz,q⟩:=h;exact zfq pins s σ H _ us Q I r ⟨SL cs,rfl,by rw[zbz];exact hz,by rw[zbz];exact q⟩
theorem zdq:OpR X (compareOp .NotIn) (fun x y H Q=> ∃c cs,x= .str (SL [c])∧y= .str (SL cs)∧Q (.bl (!decide (c∈cs))) H):=by
 intro pins s σ H x y v u Q I rx ry h;obtain⟨c,cs,rfl,rfl,q⟩:=h;refine zfl pins s σ H _ _ v u Q I rx ry ⟨_,_,rfl,rfl,?_⟩;have e:=StrLaws.found_one (SL cs) c;rw[show (!(Builtin.Str.occurrences (SL cs) (SL [c]) 0 (SL cs).length 1).isEmpty)=decide (c∈cs) from e];exact q
theorem zbF:zbI X (.type "int") (fun xs H Q=> ∃cs,xs= [.str (SL cs)]∧PySem.NumText.AllDigits cs∧cs≠ []∧cs.length≤640∧Q (.int (PySem.NumText.digitsVal cs:Nat)) H):=by
 intro pins s σ H xs us Q I r h;obtain⟨cs,rfl,hd,hne,hl,q⟩:=h;obtain⟨u,rfl,t,rfl⟩:=zcL r;have e:=PySem.intText_digits (x:=SL cs) hd hne (by rw[zbz];exact Nat.le_trans hl (by decide));exact PySem.W.KIN.call_text e (by rw[zbz];exact hl) ⟨.int _,H,I.tok _,⟨_,rfl⟩,q⟩
theorem zby:zbI X (.type "str") (fun xs H Q=> ∃i,xs= [.int i]∧0≤i∧i.natAbs.log2<1920∧Q (.str (SL (dg i.toNat))) H):=by
 intro pins s σ H xs us Q I r h;obtain⟨i,rfl,h0,hz,q⟩:=h;refine zfm pins s σ H _ us Q I r ⟨i,rfl,hz,?_⟩;obtain⟨n,rfl⟩:=Int.eq_ofNat_of_zero_le h0;rw[show (toString ((n:Nat):Int):Str)=SL (dg n) from zgU n];exact q
theorem ziV{ys:List (List Nat)}: ∀{us:List Value},zaP (ys.map fun y=>V.str (SL y)) us→StrsAre us (ys.map SL):=by
 induction ys with
 |nil=>intro us r;rw[List.map_nil] at r;cases r;exact .nil
 |cons n ns ih=>
  intro us r;rw[List.map_cons] at r;cases r with
  |cons r1 r2=>
   obtain⟨t,e⟩:=r1;subst e;exact .cons _ t (ih r2)
end
def jn(sep:List Nat):List (List Nat)→List Nat
 | []=> []
 | [x]=>x
 |x::y::r=>x++sep++jn sep (y::r)
theorem zfv(sep:List Nat): ∀yss:List (List Nat),Str.join (SL sep) (yss.map SL)=SL (jn sep yss)
 | []=>rfl
 | [x]=>rfl
 |x::y::r=>by
  have e:=zfv sep (y::r);rw[List.map_cons] at e;show SL x++SL sep++Str.join (SL sep) (SL y::r.map SL)=_;rw[e,zes,zes];rfl
def zf(cs:List Nat)(n:Nat):List Nat:=List.replicate (n - cs.length) 48++cs
theorem zh3{cs:List Nat}{n:Nat}(h: ∀c r,cs=c::r→c≠43∧c≠45):Txt.zfill (SL cs) (n:Int)=SL (zf cs n):=by
 unfold Txt.zfill zf;rw[zbz];by_cases c:(n:Int)≤(cs.length:Nat)
 ·rw[if_pos c,show n - cs.length=0 by omega];rfl
 ·rw[if_neg c,Int.toNat_natCast];have e:Builtin.Str.padded (SL cs) (n - cs.length) 0 48=SL (List.replicate (n - cs.length) 48++cs):=by
   rw[zgT (Builtin.Str.padded (SL cs) (n - cs.length) 0 48),padded_list];rw[List.replicate_zero,List.append_nil];rfl
  rw[←e];unfold PySem.zfilled;cases cs with
  |nil=>rfl
  |cons a r=>
   have q:=h a r rfl;show (match (some a:Option Nat) with|some 43|some 45=>_|_=>_)=_;split
   ·rename_i z;exact absurd (Option.some.inj z) q.1
   ·rename_i z;exact absurd (Option.some.inj z) q.2
   ·rfl
section
variable {X:Cx}
theorem zdB:MtR X "str.zfill" (fun x vs H Q=> ∃cs n,x= .str (SL cs)∧vs= [.int ((n:Nat):Int)]∧n≤1000∧(∀c r,cs=c::r→c≠43∧c≠45)∧Q (.str (SL (zf cs n))) H):=by
 intro pins s σ H x vs v us Q I rx rv h;obtain⟨cs,n,rfl,rfl,hn,hc,q⟩:=h;obtain⟨t,rfl⟩:=rx;obtain⟨u,rfl,t',rfl⟩:=zcL rv;rw[←zh3 hc] at q;refine SC.zfill ?_ fun t' k=>⟨.str _,H,I.tok _,⟨_,rfl⟩,q⟩
 exact padOk_of (by omega) (by omega)
theorem zfw:MtR X "str.join" (fun x vs H Q=> ∃sep p ys,x= .str (SL sep)∧vs= [.ref p]∧SqL X.K H p (List.map (fun y=>V.str (SL y)) ys)∧sep.length≤16∧(ys.map List.length).sum+ys.length≤1048576∧Q (.str (SL (jn sep ys))) H):=by
 intro pins s σ H x vs v us Q I rx rv h;obtain⟨sep,p,ys,rfl,rfl,hS,hs,hw,q⟩:=h;obtain⟨t,rfl⟩:=rx;obtain⟨u,rfl,ru⟩:=zcL rv;obtain rfl:u=Value.ref p:=ru;obtain⟨its,r,pl,hz⟩:=I.list hS;have e:Txt.join (SL sep) (ys.map SL)=SL (jn sep ys):=(StrLaws.glued_eq_join _ _).trans (zfv sep ys);refine join_listW pl.isList (ziV r) (by rw[zbz];exact hs) ?_ fun t' k=>⟨.str _,H,I.tok _,⟨_,rfl⟩,by rw[e];exact q⟩
 rw[List.map_map,List.length_map,show ((fun x:Str=>x.length) ∘ SL)=List.length from funext fun cs=>zbz cs];exact hw
end
theorem zcH{K:Fg}:PySem.W.kitOne K (.type "str") (.type "str")=some true:=by
 unfold PySem.W.kitOne;rw[if_pos (by decide)]
end L2
namespace L2
open PySem PySem.NumText
def fig:Nat→Int→List Nat
 |0,_=> []
 |k+1,n=>(48+(n / 10 ^ k % 10).toNat)::fig k n
theorem zcx: ∀(k:Nat) (n:Int),(fig k n).length=k
 |0,_=>rfl
 |k+1,n=>by show (fig k n).length+1=k+1;rw[zcx k n]
theorem zc3: ∀(k:Nat) (n:Int),fig (k+1) n=fig k (n / 10)++ [48+(n % 10).toNat]
 |0,n=>by
  show [48+(n / 10 ^ 0 % 10).toNat]= [48+(n % 10).toNat];rw[Int.pow_zero,Int.ediv_one]
 |k+1,n=>by
  have e:n / 10 / 10 ^ k=n / 10 ^ (k+1):=by
   rw[Int.pow_succ,Int.mul_comm,Int.ediv_ediv_of_nonneg (by decide)]
  show (48+(n / 10 ^ (k+1) % 10).toNat)::fig (k+1) n=((48+(n / 10 / 10 ^ k % 10).toNat)::fig k (n / 10))++_;rw[zc3 k n,e];rfl
theorem zb6: ∀(k:Nat) (n:Int),AllDigits (fig k n)
 |0,_=>fun c h=>by cases h
 |k+1,n=>fun c h=>by
  rcases List.mem_cons.mp h with rfl|h
  ·have:=Int.emod_lt_of_pos (n / 10 ^ k) (show (0:Int)<10 by decide);omega
  ·exact zb6 k n c h
theorem zee: ∀(k:Nat) (n:Int),0≤n→n<10 ^ k→(digitsVal (fig k n):Int)=n
 |0,n,h0,h1=>by
  rw[Int.pow_zero] at h1;show (0:Int)=n;omega
 |k+1,n,h0,h1=>by
  rw[zc3,digitsVal_snoc];rw[Int.pow_succ] at h1
  have:=zee k (n / 10) (by omega) (by omega);omega
theorem zfW: ∀k,fig k 0=List.replicate k 48
 |0=>rfl
 |k+1=>by
  show (48+((0:Int) / 10 ^ k % 10).toNat)::fig k 0=_;rw[zfW k,Int.zero_ediv];rfl
theorem zet: ∀d:Nat,d<10→(Nat.digitChar d).toNat=48+d:=by decide
theorem zd1{n:Nat}(h:n<10):dg n= [48+n]:=by
 unfold dg;rw[Nat.toDigits_of_lt_base h,List.map_cons,List.map_nil,zet n h]
theorem ze5{n:Nat}(h:10≤n):dg n=dg (n / 10)++ [48+n % 10]:=by
 have hm:n % 10<10:=Nat.mod_lt n (by decide);have t:Nat.toDigits 10 (n / 10)++Nat.toDigits 10 (n % 10)=Nat.toDigits 10 (10*(n / 10)+n % 10):=Nat.toDigits_append_toDigits (by decide) (by omega) hm;rw[Nat.div_add_mod] at t;unfold dg;rw[←t,List.map_append,Nat.toDigits_of_lt_base hm,List.map_cons,List.map_nil,zet _ hm]
theorem zdd(n:Nat):AllDigits (dg n):=by
 induction n using Nat.strongRecOn with
 |_ n ih=>
  by_cases h:n<10
  ·rw[zd1 h];intro c hc;rw[List.mem_singleton] at hc;omega
  ·rw[ze5 (by omega)];intro c hc;rcases List.mem_append.mp hc with hc|hc
   ·exact ih (n / 10) (by omega) c hc
   ·rw[List.mem_singleton] at hc;omega
theorem zef{n c:Nat}{r:List Nat}(h:dg n=c::r):c≠43∧c≠45:=by
 have:=zdd n c (by rw[h];exact List.mem_cons_self ..);omega
theorem zfx(n:Nat):0<(dg n).length:=by
 by_cases h:n<10
 ·rw[zd1 h];exact Nat.one_pos
 ·rw[ze5 (by omega),List.length_append];exact Nat.succ_pos _
theorem zjo: ∀(k n:Nat),n<10 ^ (k+1)→zf (dg n) (k+1)=fig (k+1) (n:Int)
 |0,n,h=>by
  have h':n<10:=h;rw[zd1 h'];show [48+n]= [48+((n:Int) / 10 ^ 0 % 10).toNat];rw[Int.pow_zero,Int.ediv_one];congr 2;omega
 |k+1,n,h=>by
  rw[zc3];have e:((n:Int) / 10)=((n / 10:Nat):Int):=by omega
  have e2:((n:Int) % 10).toNat=n % 10:=by omega
  rw[e,e2];rw[Nat.pow_succ] at h;by_cases c:n<10
  ·rw[zd1 c,show n / 10=0 by omega,show ((0:Nat):Int)=0 from rfl,zfW,show n % 10=n by omega];rfl
  ·rw[←zjo k (n / 10) (by omega),ze5 (by omega)];unfold zf;rw[List.length_append,List.append_assoc];congr 2;simp
theorem zgV{n:Nat}(h:n<2 ^ 1000):n.log2<1920:=by
 by_cases z:n=0
 ·subst z;decide
 ·exact(Nat.log2_lt z).mpr (Nat.lt_trans h (Nat.pow_lt_pow_right (by decide) (by decide)))
theorem zbD{i:Int}(h0: -1000000000≤i)(h1:i≤1000000000):i.natAbs.log2<1920:=
 zgV (Nat.lt_of_lt_of_le (show i.natAbs<2 ^ 30 by omega) (Nat.pow_le_pow_right (by decide) (by decide)))
theorem zcy{xs:List Int}{lo hi:Int}(h: ∀x∈xs,lo≤x∧x≤hi){i:Int}(h0:0≤i)(h1:i<xs.length):lo≤xs.getD i.toNat 0∧xs.getD i.toNat 0≤hi:=by
 have hl:i.toNat<xs.length:=by omega
 rw[List.getD_eq_getElem?_getD,List.getElem?_eq_getElem hl];exact h _ (List.getElem_mem hl)
theorem zde(c:Nat):c∈ [48,49,50,51,52,53,54,55,56,57]↔48≤c∧c≤57:=by
 simp only[List.mem_cons,List.not_mem_nil,or_false];omega
theorem zjS{cs:List Nat}(h:cs.length=10): ∃c0 c1 c2 c3 c4 c5 c6 c7 c8 c9,cs= [c0,c1,c2,c3,c4,c5,c6,c7,c8,c9]:=
 match cs,h with
 | [c0,c1,c2,c3,c4,c5,c6,c7,c8,c9],_=>⟨c0,c1,c2,c3,c4,c5,c6,c7,c8,c9,rfl⟩
end L2
namespace L2
open PySem PySem.Spec PyProof.Rows
section
variable {prog:Program} {w:World} {A:Around} {E:Value→Shared→Prop}
end
section
variable {X:Cx} {pos:Pos}
end
def PEt(X:Cx)(e:Expr)(t:TE):Prop:=
 ∀(pins:List (Addr×Obj)) (s:Shared) (σ:St) (H:Hp) (Q:VK),0<s.toks→Inv X pins σ H s→t σ H Q→wpAny (model X.prog X.w) X.A (eval e X.env) (EP X pins σ Q) X.xe s
def PAt(X:Cx)(es:List Expr)(t:TA):Prop:=
 ∀(pos:Pos) (pins:List (Addr×Obj)) (s:Shared) (σ:St) (H:Hp) (Q:List V→Hp→Prop),0<s.toks→Inv X pins σ H s→t σ H Q→wpAny (model X.prog X.w) X.A (spliced (backTo pos (starEach es X.env))) (AP X pins σ Q) X.xe s
def PSst(X:Cx)(st:List Stmt)(t:TS):Prop:=
 ∀(pins:List (Addr×Obj)) (s:Shared) (σ:St) (H:Hp) (D:Ends),0<s.toks→Inv X pins σ H s→t D σ H→wpAny (model X.prog X.w) X.A (execs st X.env) (SP X pins D) X.xe s
section
variable {X:Cx} {a b e o:Expr} {es:List Expr} {te ta tb to:TE} {t:TA} {pos apos cpos:Pos}
end
theorem at_strs{ys:List (List Nat)}{i:Int}(h0:0≤i)(h1:i<ys.length): ∃y,y∈ys∧atI (ys.map fun y=>V.str (SL y)) i=some (.str (SL y)):=by
 obtain⟨k,rfl⟩:=Int.eq_ofNat_of_zero_le h0;have hk:k<ys.length:=by omega
 refine⟨ys[k],List.getElem_mem hk,zaV ?_⟩;rw[List.getElem?_map,List.getElem?_eq_getElem hk];rfl
end L2
namespace L2
open PySem PySem.Spec PyProof.Rows
section
variable {prog:Program} {w:World} {A:Around} {R:Result→Shared→Prop} {s:Shared}
abbrev NoE:Value→Shared→Prop:=fun _ _=>False
theorem zd2{elt target iter:Expr}{ifs:List Expr}{scope:Scope}{pos:Pos}{it acc:Value}{env:Env}(I:Nat→Shared→Prop)
  (turn: ∀n s,I n s→wpAny (model prog w) A (pyNext it) (fun r s₁=>match r with
   |none=>R (.ok .next) s₁
   |some v=>wpAny (model prog w) A (letOwnedTupleGo target it v) (fun _ s₁'=>wpAny (model prog w) A (assign target env v) (fun _ s₂=>
     wpAny (model prog w) A (forIn ifs true fun c r=>if r=true then do let ok←isTrue c env (eval c env);pure (ForInStep.yield ok) else pure (ForInStep.yield r)) (fun ok s₃=>
      if ok=true then wpAny (model prog w) A (eval elt env) (fun x s₄=>
       wpAny (model prog w) A (call (.builtin "list.append") [acc,x]) (fun _ s₅=> ∃m,m<n∧I m s₅) NoE s₄) NoE s₃
      else∃m,m<n∧I m s₃) NoE s₂) NoE s₁') NoE s₁) NoE s)
  (n:Nat) (h:I n s):
  codeAny (model prog w) A (.compLoop (.ListComp elt [⟨target,iter,ifs,0⟩] scope pos) 0 it acc env) R s:=by
 refine codeAny_loop rfl I (fun n s hI=> ?_) n h;show wpAny _ A ((compTurn (.ListComp elt [⟨target,iter,ifs,0⟩] scope pos) 0 it acc env).onRaise (fun x=>do noteFrame x env;theTreesLotGoes x)) _ _ s;refine wpAny_noted ?_;rw[compTurn_list];refine wpAny_bind (wpAny_standAt (wpAny_bind (wpAny_mono (turn n s hI) (fun r s₁ h₁=> ?_) fun _ _ h'=>h'.elim)));cases r with
 |none=>exact wpAny_pure h₁
 |some v=>
  refine wpAny_bind (wpAny_mono h₁ (fun _ s₁' h₁'=> ?_) fun _ _ h'=>h'.elim);refine wpAny_bind (wpAny_mono h₁' (fun _ s₂ h₂=>wpAny_bind (wpAny_mono h₂ (fun ok s₃ h₃=> ?_) fun _ _ h'=>h'.elim)) fun _ _ h'=>h'.elim);cases ok with
  |false=>exact wpAny_pure ⟨rfl,h₃⟩
  |true=>
   exact wpAny_bind (wpAny_bind (wpAny_mono h₃ (fun x s₄ h₄=>wpAny_bind (wpAny_mono h₄ (fun _ s₅ h₅=>wpAny_pure (wpAny_pure ⟨rfl,h₅⟩)) fun _ _ h'=>h'.elim)) fun _ _ h'=>h'.elim))
end
structure CA where
 cl:List (Str×Addr)
 C:Addr
 s:Shared
 H:Hp
 fp:List Addr
def Cx.comp(X:Cx)(scope:Scope)(N:List Str)(a:CA):Cx:=
 {X with N:=N,s₀:=a.s,H₀:=a.H,env:=compEnvC scope a.cl a.C X.env,outer:=X.stack,ex:=a.fp,fn:=fun _=>false,pn:= [],xe:=NoE}
theorem za4{X:Cx}{scope:Scope}{N:List Str}{a:CA}:(X.comp scope N a).K=X.K:=rfl
theorem zfX{X:Cx}:Lv X (fun _ _ _ _=>False):=⟨fun _ _ _ _ _ _ _ _ _ _ q=>q.elim⟩
def zdC(outer:List (Str×NameKind))(oN:List Str)(inner:List (Str×NameKind))(N:List Str)(n:Nat)(js:List Nat):Bool:=
 N.length==n+js.length &&
 (inner.all fun p=>p.2 != .cell && (p.2 != .local||inner.lookup p.1==some .local) && (p.2 != .free||(inner.lookup p.1==some .free && (outer.lookup p.1==some .cell||outer.lookup p.1==some .free)))) &&
 (List.range js.length).all fun k=>match js[k]?,N[n+k]? with
  |some j,some x=>oN[j]? ==some x && (outer.lookup x==some .cell||outer.lookup x==some .free) && inner.lookup x==some .free
  |_,_=>false
def zaW(σ:St)(n:Nat)(js:List Nat):St:=List.replicate n none++js.map fun j=>(σ[j]?).join
def Sub(σ τ:St):Prop:=σ.length=τ.length∧ ∀(i:Nat) v,σ[i]? =some (some v)→τ[i]? =some (some v)
theorem zax:Sub [] []=True:=eq_true ⟨rfl,fun i v h=>by simp at h⟩
theorem zap{σ τ:St}{x:Option V}:Sub (none::σ) (x::τ)=Sub σ τ:=by
 refine propext ⟨fun h=>⟨by simpa using h.1,fun i v e=>by simpa using h.2 (i+1) v (by simpa using e)⟩,fun h=>⟨by simpa using h.1,fun i v e=> ?_⟩⟩;cases i with
 |zero=>simp at e
 |succ i=>simpa using h.2 i v (by simpa using e)
theorem zay{σ τ:St}{x:V}:Sub (some x::σ) (some x::τ)=Sub σ τ:=by
 refine propext ⟨fun h=>⟨by simpa using h.1,fun i v e=>by simpa using h.2 (i+1) v (by simpa using e)⟩,fun h=>⟨by simpa using h.1,fun i v e=> ?_⟩⟩;cases i with
 |zero=>simpa using e
 |succ i=>simpa using h.2 i v (by simpa using e)
theorem zgo{scope:Scope}{env:Env}(h: ∀p∈scope.names,p.2=NameKind.free→ ∃c,env.cells.lookup p.1=some c):
  ∃cl,closureFor scope env=pure cl∧(∀x c,cl.lookup x=some c→env.cells.lookup x=some c)∧ ∀p∈scope.names,p.2=NameKind.free→ ∃c,cl.lookup p.1=some c:=by
 have go: ∀(names:List (Str×NameKind)) (acc:List (Str×Addr)),(∀p∈names,p.2=NameKind.free→ ∃c,env.cells.lookup p.1=some c)→(∀x c,acc.lookup x=some c→env.cells.lookup x=some c)→
   ∃cl,(forIn names acc (fun x r=>match x with|(name,kind)=>if (kind==NameKind.free)=true then do let c←cellOf env name;pure (ForInStep.yield ((name,c)::r)) else pure (ForInStep.yield r)):Sem (List (Str×Addr)))=pure cl∧
    (∀x c,cl.lookup x=some c→env.cells.lookup x=some c)∧(∀p∈names,p.2=NameKind.free→ ∃c,cl.lookup p.1=some c)∧ ∀x,(∃c,acc.lookup x=some c)→ ∃c,cl.lookup x=some c:=by
  intro names;induction names with
  |nil=>intro acc _ ha;exact⟨acc,rfl,ha,fun p hp=>absurd hp (by simp),fun _ q=>q⟩
  |cons p r ih=>
   intro acc hp ha;obtain⟨nm,k⟩:=p;by_cases hk:k=NameKind.free
   ·subst hk;obtain⟨c,hc⟩:=hp (nm, .free) List.mem_cons_self rfl;have ec:cellOf env nm=pure c:=by unfold cellOf;rw[hc]
    have ha': ∀x c',((nm,c)::acc).lookup x=some c'→env.cells.lookup x=some c':=fun x c' e=>by
     rw[List.lookup_cons] at e;cases z:x==nm with
     |true=>rw[z] at e;cases e;rw[eq_of_beq z];exact hc
     |false=>rw[z] at e;exact ha x c' e
    obtain⟨cl,e,q1,q2,q3⟩:=ih ((nm,c)::acc) (fun p hp'=>hp p (List.mem_cons_of_mem _ hp')) ha';refine⟨cl,?_,q1,fun p hp' hf=> ?_,fun x hx=>q3 x ?_⟩
    ·rw[List.forIn_cons];simp only[beq_self_eq_true,if_true,ec];exact e
    ·rcases List.mem_cons.mp hp' with rfl|hp'
     ·exact q3 nm ⟨c,by rw[List.lookup_cons,beq_self_eq_true]⟩
     ·exact q2 p hp' hf
    ·rw[List.lookup_cons];cases z:x==nm with
     |true=>exact⟨c,rfl⟩
     |false=>exact hx
   ·obtain⟨cl,e,q1,q2,q3⟩:=ih acc (fun p hp'=>hp p (List.mem_cons_of_mem _ hp')) ha;refine⟨cl,?_,q1,fun p hp' hf=> ?_,q3⟩
    ·rw[List.forIn_cons];have z:(k==NameKind.free)=false:=by simpa using hk
     simp only[z,Bool.false_eq_true,if_false];exact e
    ·rcases List.mem_cons.mp hp' with rfl|hp'
     ·exact absurd hf hk
     ·exact q2 p hp' hf
 obtain⟨cl,e,q1,q2,_⟩:=go scope.names [] h (fun x c e=>by simp at e);refine⟨cl,?_,q1,q2⟩;unfold closureFor;simp only[pure_bind,bind_pure];exact e
theorem zci{outer:List (Str×NameKind)}{oN:List Str}{inner:List (Str×NameKind)}{N:List Str}{n:Nat}{js:List Nat}(h:zdC outer oN inner N n js=true):
  N.length=n+js.length∧(∀p∈inner,p.2≠NameKind.cell)∧(∀p∈inner,p.2=NameKind.local→inner.lookup p.1=some .local)∧
  (∀p∈inner,p.2=NameKind.free→inner.lookup p.1=some .free∧(outer.lookup p.1=some .cell∨outer.lookup p.1=some .free))∧
  ∀k j x,js[k]? =some j→N[n+k]? =some x→oN[j]? =some x∧(outer.lookup x=some .cell∨outer.lookup x=some .free)∧inner.lookup x=some .free:=by
 unfold zdC at h;simp only[Bool.and_eq_true,beq_iff_eq,List.all_eq_true,List.mem_range] at h;obtain⟨⟨h1,h2⟩,h3⟩:=h;refine⟨h1,fun p hp=>by simpa using (h2 p hp).1.1,fun p hp e=> ?_,fun p hp e=> ?_,fun k j x e1 e2=> ?_⟩
 ·have z:=(h2 p hp).1.2;rw[e] at z;simpa using z
 ·have z:=(h2 p hp).2;rw[e] at z;simpa using z
 ·have z:=h3 k (List.getElem?_eq_some_iff.mp e1).1;rw[e1,e2] at z;simpa [and_assoc] using z
theorem zc4{scope:Scope}{env:Env}{x:Str}:(relabel scope env).names.lookup x=(scope.names.lookup x).map (fun k=>if (k==NameKind.free && env.scope.kind== .function && env.kindOf x==some .cell)=true then NameKind.cell else k):=by
 show (scope.names.map fun(n,k)=>if (k==NameKind.free && env.scope.kind== .function && env.kindOf n==some .cell)=true then (n,NameKind.cell) else (n,k)).lookup x=_;induction scope.names with
 |nil=>rfl
 |cons p r ih=>
  obtain⟨nm,k⟩:=p;rw[List.map_cons];dsimp only;cases z:x==nm with
  |true=>
   obtain rfl:=eq_of_beq z;by_cases c:(k==NameKind.free && env.scope.kind== .function && env.kindOf x==some .cell)=true
   ·simp only[c,if_true,List.lookup_cons,z,Option.map_some]
   ·rw[if_neg c];simp only[List.lookup_cons,z,Option.map_some,if_neg c]
  |false=>
   by_cases c:(k==NameKind.free && env.scope.kind== .function && env.kindOf nm==some .cell)=true
   ·rw[if_pos c];simp only[List.lookup_cons,z];exact ih
   ·rw[if_neg c];simp only[List.lookup_cons,z];exact ih
section
variable {X:Cx} {scope:Scope} {N:List Str} {n:Nat} {js:List Nat} {pins:List (Addr×Obj)} {σ:St} {H:Hp} {s₃:Shared} {cl:List (Str×Addr)} {fp:List Addr}
theorem zfY(cap:zdC X.env.scope.names X.N scope.names N n js=true)(hkind:scope.kind= .function)(I:Inv X pins σ H s₃)(hc1: ∀x c,cl.lookup x=some c→X.env.cells.lookup x=some c)
  (hc2: ∀p∈scope.names,p.2=NameKind.free→ ∃c,cl.lookup p.1=some c) (hf: ∀b∈fp,zdn X pins H b) (hlt: ∀b∈fp,b<s₃.heap.objs.size) {h₁:Heap} {t:Nat} {m:Str→Option Value}
  (hns:h₁.Ns s₃.heap.objs.size m) (hk: ∀b o,s₃.heap.get? b=some o→h₁.get? b=some o):
  Inv (X.comp scope N ⟨cl,s₃.heap.objs.size,s₃,H,fp⟩) [] (zaW σ n js) H {s₃ with heap:=h₁,toks:=t}:=by
 obtain⟨k1,k2,k3,k4,k5⟩:=zci cap;have kf: ∀x,((relabel scope X.env).names.lookup x=some .cell∨(relabel scope X.env).names.lookup x=some .free)→scope.names.lookup x=some .free:=fun x h=>by
  rw[zc4] at h;cases e:scope.names.lookup x with
  |none=>rw[e] at h;simp at h
  |some k=>
   rw[e,Option.map_some] at h;cases k with
   |free=>rfl
   |cell=>exact absurd rfl (k2 (x, .cell) (PySem.mem_of_lookup e))
   | «local» =>simp at h
   |_=>simp at h
 have bf: ∀x,scope.names.lookup x=some .free→(relabel scope X.env).names.lookup x=some .cell∨(relabel scope X.env).names.lookup x=some .free:=fun x h=>by
  rw[zc4,h,Option.map_some];split
  ·exact .inl rfl
  ·exact .inr rfl
 have isC: ∀c v,s₃.heap.IsCell c v→h₁.IsCell c v:=fun c v ⟨o,ho,r⟩=>⟨o,hk _ _ ho,r⟩
 refine⟨⟨I.ok.mod,hkind,I.ok.glob,I.ok.blt,Nat.le_refl _,fun x y c e1 e2=>I.ok.inj x y c (hc1 x c e1) (hc1 y c e2),fun x h=>hc2 (x, .free) (PySem.mem_of_lookup (kf x h)) rfl,fun x c h=>absurd h Bool.false_ne_true,I.ok.hd,I.ok.frames, .inl rfl,
   fun b hb=>⟨Nat.ne_of_lt (hlt b hb),fun x c e=>(hf b hb).2.2.2.2.1 x c (hc1 x c e)⟩,I.bs,Nat.le_trans I.ok.bsz I.sz,fun b o e hb=> ?_,fun b hb hz=> ?_,I.stack,I.stkFree⟩,
  rfl,I.bare,Un.kept hk,⟨m,hns,fun i x v e1 e2 e3=> ?_⟩,fun x c e=> ?_,I.hok.fresh (Nat.le_refl _),fun x c e=>I.freeC x c (hc1 x c e),fun p hp=>absurd hp (by simp [Cx.comp]),I.hok.kept hk,?_⟩
 ·rcases (hf b hb).2.2.2.1 with z|z
  ·exact I.ok.noex b o e z
  ·exact absurd (Nat.lt_of_lt_of_le (Heap.lt_size e) (Nat.le_trans I.ok.bsz z)) (Nat.lt_irrefl _)
 ·rcases List.mem_cons.mp (I.stkSub b hz) with z|z
  ·exact(hf b hb).2.1 z
  ·exact(hf b hb).2.2.1 z
 ·have e2':(zaW σ n js)[i]? =some (some v):=e2;unfold zaW at e2';by_cases hi:i<n
  ·rw[List.getElem?_append_left (by simpa using hi),List.getElem?_replicate,if_pos hi] at e2';cases e2'
  ·rw[List.getElem?_append_right (by simpa using hi),List.length_replicate,List.getElem?_map] at e2';cases ej:js[i - n]? with
   |none=>rw[ej] at e2';cases e2'
   |some j=>
    rw[ej,Option.map_some] at e2';have e4:(σ[j]?).join=some v:=Option.some.inj e2';have e5:σ[j]? =some (some v):=by
     cases q:σ[j]? with
     |none=>rw[q] at e4;cases e4
     |some w=>rw[q] at e4;rw[show w=some v from e4]
    have e1':N[n+(i - n)]? =some x:=by rw[show n+(i - n)=i by omega];exact e1
    obtain⟨c1,c2,c3⟩:=k5 (i - n) j x ej e1';obtain⟨m',hn',hl'⟩:=I.loc;obtain⟨u,ru,lk⟩:=hl' j x v c1 e5 (.inr c2);refine⟨u,ru,?_⟩;rcases lk with⟨hk',_⟩|⟨_,c,hc,hcell⟩
    ·have hk'':X.env.scope.names.lookup x=some .local:=hk';rcases c2 with c2|c2<;>(rw[hk''] at c2;cases c2)
    ·obtain⟨c',hc'⟩:=hc2 (x, .free) (PySem.mem_of_lookup c3) rfl
     have:=hc1 x c' hc';rw[hc] at this;cases this;exact .inr ⟨bf x c3,c,hc',isC _ _ hcell⟩
 ·obtain⟨v,z⟩:=I.cell x c (hc1 x c e);exact⟨v,isC _ _ z⟩
 ·show (zaW σ n js).length=N.length;unfold zaW;rw[List.length_append,List.length_replicate,List.length_map,k1]
end
def PIf(X:Cx)(ifs:List Expr)(t:TT):Prop:=
 ∀(pins:List (Addr×Obj)) (s:Shared) (σ:St) (H:Hp) (Q:Bool→Hp→Prop),Inv X pins σ H s→t σ H Q→
  wpAny (model X.prog X.w) X.A (forIn ifs true fun c r=>if r=true then do let ok←isTrue c X.env (eval c X.env);pure (ForInStep.yield ok) else pure (ForInStep.yield r)) (TP X pins σ Q) X.xe s
def zbH:TT:=fun _ H Q=>Q true H
theorem zcI{X:Cx}:PIf X [] zbH:=fun _ _ _ H _ I h=>wpAny_tests_nil ⟨H,I,h⟩
def zeu(J:It)(σ0:St)(g:TG)(tc:TT)(te:TE)(l:Addr)(Q:VK)(H1:Hp):Prop:=
 ∃W:Nat→Nat→List V→Hp→Prop,(∃m,W 0 m [] (upd H1 l (.lst [])))∧ ∀i m xs H,W i m xs H→H l=some (.lst xs)∧xs.length<sizeLine∧
  ((J.stop i H∧Q (.ref l) H)∨(J.go i H∧ ∀x H',J.yld i H x H'→g x σ0 H' fun σ2 H2=>Sub σ0 σ2∧tc σ2 H2 fun b H3=>
   if b=true then te σ2 H3 fun v H4=>H4 l=some (.lst xs)∧ ∃m',m'<m∧W (i+1) m' (xs++ [v]) (upd H4 l (.lst (xs++ [v]))) else∃m',m'<m∧W (i+1) m' xs H3))
section
variable {X:Cx} {tg elt iter:Expr} {ifs:List Expr} {scope:Scope} {pos:Pos} {N:List Str} {n:Nat} {js:List Nat} {g:CA→TG} {tc:CA→TT} {te:CA→TE}
theorem ze6{pins:List (Addr×Obj)}{σ:St}{H₁:Hp}{s₂:Shared}{E:Value→Shared→Prop}(cap:zdC X.env.scope.names X.N scope.names N n js=true)(hkind:scope.kind= .function)(hcalm:X.calm=true)
  (hg: ∀a,PG (X.comp scope N a) tg (g a)) (hc: ∀a,PIf (X.comp scope N a) ifs (tc a)) (he: ∀a,PE (X.comp scope N a) elt (te a))
  (I:Inv X pins σ H₁ s₂) {it:Addr} {fp:List Addr} {tn:Nat→Heap→Prop} {J:It} (T:Turn X.prog X.w X.K tg J fp it tn) (h0:tn 0 s₂.heap) (hf: ∀b∈fp,zdn X pins H₁ b)
  {cl:List (Str×Addr)} (hc1: ∀x c,cl.lookup x=some c→X.env.cells.lookup x=some c) (hc2: ∀p∈scope.names,p.2=NameKind.free→ ∃c,cl.lookup p.1=some c)
  {Q:VK} (hq: ∀l,H₁ l=none→ ∀a,zeu J (zaW σ n js) (g a) (tc a) (te a) l Q H₁)
  {RR:Value→Addr→Result→Shared→Prop}
  (hRR: ∀l C H' s' m,Inv X pins σ H' s'→s'.heap.Ns C m→H' C=none→C≠X.env.locals→X.s₀.heap.objs.size≤C→(∀x c,X.env.cells.lookup x=some c→c≠C)→(∀p∈X.pn++pins,p.1≠C)→C∉X.fs→Q (.ref l) H'→RR (.ref l) C (.ok .next) s'):
  wpAny (model X.prog X.w) X.A (newList []) (fun acc s₃=>wpAny (model X.prog X.w) X.A (newFunctionEnv scope X.env.globals cl [] X.env.qual none .none (some X.env)) (fun cenv s₄=>
   codeAny (model X.prog X.w) X.A (.compStart (.ListComp elt [⟨tg,iter,ifs,0⟩] scope pos) 0 (.ref it) acc {cenv with scope:=relabel scope X.env}) (RR acc cenv.locals) s₄) E s₃) E s₂:=by
 obtain⟨k1,k2,k3,k4,k5⟩:=zci cap;refine wpAny_newObj_type (wpAny_newFunctionEnv k2 (by intro y hy;simp at hy) (fun h₁ hns₁ hsb₁=> ?_) hkind);dsimp only at hns₁ hsb₁ ⊢;obtain⟨s3,hs3⟩: ∃s3:Shared,s3={s₂ with heap:=s₂.heap.push {cls:= .type "list",dict:=none,data:= .seq ([]:List Value).toArray} }:=⟨_,rfl⟩
 have eh:s₂.heap.push {cls:= .type "list",dict:=none,data:= .seq ([]:List Value).toArray}=s3.heap:=by rw[hs3]
 rw[eh] at hns₁ hsb₁ ⊢;have kp3: ∀b o,s₂.heap.get? b=some o→s3.heap.get? b=some o:=fun b o e=>by rw[←eh];exact Heap.get?_push_of_some _ e
 have hl0:H₁ s₂.heap.objs.size=none:=I.hok.fresh (Nat.le_refl _);have I3:Inv X pins σ (upd H₁ s₂.heap.objs.size (.lst [])) s3:=by
  rw[hs3];exact I.laid (t':=s₂.toks) (fun b u e=>Heap.get?_push_of_some _ e) (Nat.le_refl _) ⟨Nat.zero_le _, [],0, .nil,Heap.get?_push_size _ rfl⟩
 have fpo: ∀b∈fp,∃o,s₂.heap.get? b=some o:=fun b hb=>let ⟨o,e,_⟩:=T.obj _ _ h0 b hb;⟨o,e⟩;have fpl: ∀b∈fp,b≠s₂.heap.objs.size:=fun b hb z=>let ⟨o,e⟩:=fpo b hb;Nat.lt_irrefl _ (z ▸ Heap.lt_size e);have hf3: ∀b∈fp,zdn X pins (upd H₁ s₂.heap.objs.size (.lst [])) b:=fun b hb=>⟨by rw[zaO (fpl b hb)];exact(hf b hb).1,(hf b hb).2⟩
 have hlt3: ∀b∈fp,b<s3.heap.objs.size:=fun b hb=>let ⟨o,e⟩:=fpo b hb;Heap.lt_size (kp3 b o e);have kp1: ∀b o,s3.heap.get? b=some o→h₁.get? b=some o:=fun b o e=>hsb₁.extBut b o (Nat.ne_of_lt (Heap.lt_size e)) (Heap.get?_push_of_some _ e);have IC:=zfY (t:=s3.toks) cap hkind I3 hc1 hc2 hf3 hlt3 hns₁ kp1;have hCl:X.env.locals<s3.heap.objs.size:=I3.lt;obtain⟨a,ha⟩: ∃a:CA,a=⟨cl,s3.heap.objs.size,s3,upd H₁ s₂.heap.objs.size (.lst []),fp⟩:=⟨_,rfl⟩
 rw[←ha] at IC;have aC:a.C=s3.heap.objs.size:=by rw[ha]
 obtain⟨W,⟨m0,w0⟩,turn⟩:=hq _ hl0 a;have tn1:tn 0 h₁:=T.keep _ _ _ h0 fun b _ o e=>kp1 b o (kp3 b o e);have stat: ∀{H':Hp},(∀b∈fp,H' b=none)→ ∀b∈fp,zdn (X.comp scope N a) [] H' b:=fun {H'} hn b hb=>
  ⟨hn b hb,by show b≠a.C;rw[aC];exact Nat.ne_of_lt (hlt3 b hb),fun hz=>by
    rcases List.mem_cons.mp (I3.stkSub b hz) with z|z
    ·exact(hf b hb).2.1 z
    ·exact(hf b hb).2.2.1 z, .inl (by show b∈a.fp;rw[ha];exact hb),fun x c e=>(hf b hb).2.2.2.2.1 x c (hc1 x c (by rw[ha] at e;exact e)),fun p hp=>absurd hp (by simp [Cx.comp])⟩
 have loop: ∀s4:Shared,s4={s3 with heap:=h₁,toks:=s3.toks}→
   codeAny (model X.prog X.w) X.A (.compLoop (.ListComp elt [⟨tg,iter,ifs,0⟩] scope pos) 0 (.ref it) (.ref s₂.heap.objs.size) (X.comp scope N a).env) (RR (.ref s₂.heap.objs.size) s3.heap.objs.size) s4:=by
  rintro s4 rfl;refine zd2 (fun k s'=> ∃i xs H',Inv (X.comp scope N a) [] (zaW σ n js) H' s'∧tn i s'.heap∧(∀b∈fp,H' b=none)∧W i k xs H') ?_ m0 ⟨0, [],_,IC,tn1,fun b hb=>(hf3 b hb).1,w0⟩;rintro k s5 ⟨i,xs,H5,I5,t5,f5,w5⟩;obtain⟨hl5,hz5,alt⟩:=turn i k xs H5 w5;rcases alt with⟨stop,qn⟩|⟨go,step⟩
  ·refine thn (T.done (X.comp scope N a) rfl rfl rfl hcalm i [] s5 _ H5 NoE I5 (stat f5) t5 stop) fun r s6 ⟨hr,I6⟩=> ?_;subst hr;obtain⟨m6,hn6,_⟩:=I6.loc;have hn6':s6.heap.Ns s3.heap.objs.size m6:=by rw[←aC];exact hn6
   have u6:Un (frs X.stack) fp (upd H₁ s₂.heap.objs.size (.lst [])) H5 s3.heap s6.heap:=by
    have z:=I6.base;rw[ha] at z;exact z
   have os6:s6.os=s3.os:=by
    have z:=I6.os;rw[ha] at z;exact z
   have I7:Inv X pins σ H5 s6:=I3.call' os6 u6 I6.hok I6.bare fun b hb=>⟨(hf b hb).2.2.2.1,(hf b hb).2.1,(hf b hb).2.2.2.2.1,(hf b hb).2.2.2.2.2⟩
   refine hRR _ _ H5 s6 m6 I7 hn6' (by have z:=I6.free;rw[show (X.comp scope N a).env.locals=s3.heap.objs.size from aC] at z;exact z) (Nat.ne_of_gt hCl) I3.sz (fun x c e z=> ?_) (fun p hp z=> ?_) (I3.nofs (Nat.le_refl _)) qn
   ·obtain⟨v,q⟩:=I3.cell x c e;exact Nat.lt_irrefl _ (z ▸ q.lt)
   ·exact Nat.lt_irrefl _ (z ▸ Heap.lt_size (I3.pin p hp).1)
  ·refine thn (T.item (X.comp scope N a) rfl rfl rfl hcalm i [] s5 _ H5 NoE I5 (stat f5) t5 go) fun r s6 ⟨u,hr,h6⟩=> ?_;subst hr;refine thn h6 fun _ s7 ⟨x,H7,I7,r7,y7,t7,f7⟩=> ?_;have I7':=I7.pinned (stat f7) (T.obj _ _ t7);rw[List.nil_append] at I7';refine thn (hg a _ s7 _ H7 x u _ I7' r7 (step x H7 y7)) fun _ s8 ⟨σ8,H8,I8,sub8,q8⟩=> ?_;refine thn (hc a _ s8 σ8 H8 _ I8 q8) fun ok s9 ⟨H9,I9,q9⟩=> ?_;have back: ∀{σ':St} {H':Hp} {s':Shared},Inv (X.comp scope N a) (zdN fp s7.heap) σ' H' s'→Sub (zaW σ n js) σ'→Inv (X.comp scope N a) [] (zaW σ n js) H' s'∧tn (i+1) s'.heap∧ ∀b∈fp,H' b=none:=fun {σ' H' s'} I' sb=>by
    refine⟨(I'.pins_of fun p hp=>absurd hp (by simp)).weak sb.1 sb.2,T.keep _ _ _ t7 fun b hb o e=>(I'.pin (b,o) (List.mem_append_right _ (zch hb e))).1,fun b hb=> ?_⟩;obtain⟨o,e,d⟩:=T.obj _ _ t7 b hb;exact(I'.pin (b,o) (List.mem_append_right _ (zch hb e))).2.1
   cases ok with
   |false=>
    obtain⟨m',lt,w'⟩:=q9;obtain⟨b1,b2,b3⟩:=back I9 sub8;exact⟨m',lt,i+1,xs,H9,b1,b2,b3,w'⟩
   |true=>
    refine thn (he a _ s9 σ8 H9 _ I9 q9) fun y s10 ⟨v,H10,I10,r10,hl10,m',lt,w'⟩=> ?_;refine thn (zcN (X:=X.comp scope N a) _ s10 σ8 H10 (.ref s₂.heap.objs.size) [v] _ [y] (fun _ H'=>H'=upd H10 s₂.heap.objs.size (.lst (xs++ [v]))) I10 rfl (.cons r10 .nil) ⟨_,xs,v,rfl,rfl,hl10,hz5,rfl⟩) fun _ s11 ⟨_,H11,I11,_,e11⟩=> ?_;subst e11;obtain⟨b1,b2,b3⟩:=back I11 sub8;exact⟨m',lt,i+1,_,_,b1,b2,b3,w'⟩
 have eE:{newEnv scope s3.heap.objs.size X.env.globals cl X.env.qual none Value.none (some X.env) builtinsNs with scope:=relabel scope X.env}=(X.comp scope N a).env:=by rw[ha];rfl
 have lp:=loop _ rfl;rw[←eE] at lp;have sf:=T.self X.A 0 {s3 with heap:=h₁,toks:=s3.toks} (fun it' s'=>codeAny (model X.prog X.w) X.A (.compLoop (.ListComp elt [⟨tg,iter,ifs,0⟩] scope pos) 0 it' (.ref s₂.heap.objs.size) {newEnv scope s3.heap.objs.size X.env.globals cl X.env.qual none Value.none (some X.env) builtinsNs with scope:=relabel scope X.env}) (RR (.ref s₂.heap.objs.size) s3.heap.objs.size) s')
  (notedBy (model X.prog X.w) X.A {newEnv scope s3.heap.objs.size X.env.globals cl X.env.qual none Value.none (some X.env) builtinsNs with scope:=relabel scope X.env} fun x s'=>RR (.ref s₂.heap.objs.size) s3.heap.objs.size (.error x) s') tn1 lp
 have fin:=codeAny_compStart_list lp sf;rw[hs3] at fin ⊢;exact fin
def zdD(n:Nat)(js:List Nat)(wi:TI)(g:CA→TG)(tc:CA→TT)(te:CA→TE):TE:=fun σ H Q=>wi σ H fun J H1=> ∀l,H1 l=none→ ∀a:CA,zeu J (zaW σ n js) (g a) (tc a) (te a) l Q H1
theorem zcT{pins:List (Addr×Obj)}{σ:St}{H:Hp}{s:Shared}(cap:zdC X.env.scope.names X.N scope.names N n js=true)(I:Inv X pins σ H s):
  ∃cl,closureFor scope X.env=pure cl∧(∀x c,cl.lookup x=some c→X.env.cells.lookup x=some c)∧ ∀p∈scope.names,p.2=NameKind.free→ ∃c,cl.lookup p.1=some c:=
 zgo fun p hp e=>I.ok.has p.1 ((zci cap).2.2.2.1 p hp e).2
theorem zdf{wi:TI}(cap:zdC X.env.scope.names X.N scope.names N n js=true)(hkind:scope.kind= .function)(hcalm:X.calm=true)(hi:PI X tg iter wi)
  (hg: ∀a,PG (X.comp scope N a) tg (g a)) (hc: ∀a,PIf (X.comp scope N a) ifs (tc a)) (he: ∀a,PE (X.comp scope N a) elt (te a))
  (hs: ∀x,foldedSetIterable iter X.env x=pure x:=by intro _;rfl):PE X (.ListComp elt [⟨tg,iter,ifs,0⟩] scope pos) (zdD n js wi g tc te):=by
 intro pins s σ H Q I h;obtain⟨cl,hclos,hc1,hc2⟩:=zcT cap I;rw[eval_ListComp];refine wpAny_comprehension_free (use:=none) rfl hs hclos hkind (zci cap).2.2.1 (thn (hi pins s σ H _ I h) fun v s1 h1=>thn h1 fun itv s2 h2=> ?_);obtain⟨it,fp,tn,J,H2,rfl,I2,T,st2,f2,q⟩:=h2;refine ze6 (RR:=fun acc C=>compPost (model X.prog X.w) X.A X.xe none (EP X pins σ Q) acc C) cap hkind hcalm hg hc he I2 T st2 f2 hc1 hc2 q ?_;intro l C H' s' m I' hn hC hL hs0 hcell hpin hfs hq;exact⟨m,hn,fun h' hsb=>⟨.ref l,H',I'.turned (t':=s'.toks) (fun b o hb e=>(hsb.2 b hb).trans e) hC hL (.inr hs0) hcell hpin,rfl,hq⟩⟩
theorem ziW{wi:TI}{i:Nat}{y:Str}{py spos:Pos}(hN:X.N.Nodup)(hi:X.N[i]? =some y)(hy:X.env.scope.names.lookup y=some .local)(cap:zdC X.env.scope.names X.N scope.names N n js=true)(hkind:scope.kind= .function)(hcalm:X.calm=true)(hw:PI X tg iter wi)
  (hg: ∀a,PG (X.comp scope N a) tg (g a)) (hc: ∀a,PIf (X.comp scope N a) ifs (tc a)) (he: ∀a,PE (X.comp scope N a) elt (te a))
  (hsw:swapsWith (.ListComp elt [⟨tg,iter,ifs,0⟩] scope pos) (some (.Name y py)) spos.line X.env=pure true:=by rfl)
  (hs: ∀x,foldedSetIterable iter X.env x=pure x:=by intro _;rfl):PS X (.Assign [.Name y py] (.ListComp elt [⟨tg,iter,ifs,0⟩] scope pos) spos) (zbL (zdD n js wi g tc te) (zbd i)):=by
 intro pins s σ H D I h;obtain⟨cl,hclos,hc1,hc2⟩:=zcT cap I;rw[exec_Assign_Name_used _ _ _ _ hsw];refine wpAny_bind (wpAny_standAt (wpAny_bind ?_));show wpAny _ X.A (do let _←comprehension (.ListComp elt [⟨tg,iter,ifs,0⟩] scope pos) scope X.env _ (newList []) false (eval iter X.env) (some (assign (.Name y py) X.env))) _ _ s;refine wpAny_bind (wpAny_mono (wpAny_comprehension_free (use:=some (assign (.Name y py) X.env)) (Q:=fun _ s'=>SP X pins D .next s') rfl hs hclos hkind (zci cap).2.2.1
  (thn (hw pins s σ H _ I h) fun v s1 h1=>thn h1 fun itv s2 h2=> ?_)) (fun _ s' hq=>wpAny_pure (wpAny_pure hq)) fun _ _ e=>e)
 obtain⟨it,fp,tn,J,H2,rfl,I2,T,st2,f2,q⟩:=h2;refine ze6 (Q:=fun x H1=>D.nx (σ.set i (some x)) H1) (RR:=fun acc C=>compPost (model X.prog X.w) X.A X.xe (some (assign (.Name y py) X.env)) (fun _ s'=>SP X pins D .next s') acc C) cap hkind hcalm hg hc he I2 T st2 f2 hc1 hc2 q ?_;intro l C H' s' m I' hn hC hL hs0 hcell hpin hfs hq;show wpAny _ X.A (assign (.Name y py) X.env (.ref l)) _ _ _;refine wpAny_assign_Name (zeT I' hN hi (.inl hy) (v:= .ref l) rfl (fun s3 I3 hsb=> ?_) (.inr hy));obtain⟨b,hsb,hb⟩:=hsb;have nb:C≠b:=by
  rcases hb with rfl|hb
  ·exact hL
  ·exact fun z=>hcell y b hb z.symm
 refine⟨m,hn.sameBut hsb nb,fun h' hsb'=> ?_⟩;exact⟨σ.set i (some (.ref l)),H',I3.turned (t':=s3.toks) (fun c o hc e=>(hsb'.2 c hc).trans e) hC hL (.inr hs0) hcell hpin,hq⟩
end
structure Lists (J:It) (H1:Hp) (ys:List V):Prop where
 go: ∀i H,zau H1 H→i<ys.length→J.go i H
 stop: ∀H,zau H1 H→J.stop ys.length H
 yld: ∀i H x H',zau H1 H→J.yld i H x H'→i<ys.length→H'=H∧ys[i]? =some x
theorem zcA{K:Fg}{H1:Hp}{a:Addr}{ys:List V}(h:SqL K H1 a ys):Lists (Itl K a) H1 ys where
 go:=fun i H sm hi=>⟨ys,ys[i],sm.seq h,List.getElem?_eq_getElem hi⟩
 stop:=fun H sm=>⟨ys,sm.seq h,Nat.le_refl _⟩
 yld:=fun i H x H' sm ⟨e,y⟩ _=>⟨e,y ys (sm.seq h)⟩
def rng(lo:Int)(n:Nat):List V:=(List.range n).map fun(i:Nat)=>V.int (lo+i)
end L2
namespace L2
open PySem PySem.Spec PyProof.Rows
def Sm(i:Int):Prop:=i.natAbs<2 ^ 3000
theorem Sm.bits{i:Int}(h:Sm i):Builtin.Int.intBits i≤2 ^ 20:=by
 unfold Builtin.Int.intBits;by_cases z:i.natAbs=0
 ·obtain rfl:i=0:=by omega
  decide
 ·have q:i.natAbs.log2<3000:=(Nat.log2_lt z).mpr h;have e:(2:Nat) ^ 20=1048576:=by decide
  split<;>omega
theorem Sm.log{i:Int}(h:Sm i):i.natAbs.log2<9000:=by
 by_cases z:i.natAbs=0
 ·rw[z];decide
 ·have q:i.natAbs.log2<3000:=(Nat.log2_lt z).mpr h;omega
theorem Sm.pow10{i:Int}{k:Nat}(hk:k≤700)(h:i.natAbs≤10 ^ k):Sm i:=by
 refine Nat.lt_of_le_of_lt h ?_;refine Nat.lt_of_le_of_lt (Nat.pow_le_pow_left (show 10≤2 ^ 4 by decide) k) ?_;rw[←Nat.pow_mul];exact Nat.pow_lt_pow_right (by decide) (by omega)
theorem Sm.small{i:Int}(h0: -1000000000000000000≤i)(h1:i≤1000000000000000000):Sm i:=by
 refine Sm.pow10 (k:=18) (by decide) ?_;have e:(10:Nat) ^ 18=1000000000000000000:=by decide
 omega
section
variable {X:Cx}
theorem zdg:OpR X (binaryOp .Mult) (rI (fun i j=>ziN i j∨(Sm i∧Sm j)) fun i j=> .int (i*j)):=opI fun _ _ _ _ _ _ _ hc q=>mul_int q (by
 rcases hc with hc|⟨h1,h2⟩
 ·exact hc.ok
 ·exact IntMulOk.of_bits h1.bits h2.bits)
theorem zev:OpR X (binaryOp .FloorDiv) (rI (fun _ j=>0<j∧Sm j) fun i j=> .int (i / j)):=opI fun i j _ _ _ _ _ hc q=>by
 have h1:(0:Int)<j:=hc.1;exact floordiv_int (by omega) (by rw[Int.fdiv_eq_ediv_of_nonneg i (by omega)];exact q) (.inl (PyProof.noPylong_of_log2 hc.2.log))
theorem zgp:bootBuiltins "all"=some (.builtin "all"):=by decide+kernel
theorem zjT:bootBuiltins "abs"=some (.builtin "abs"):=by decide+kernel
theorem zhp(bs:List Bool):(List.range bs.length).all (fun i=>bs.getD i false)=bs.all id:=by
 rw[Bool.eq_iff_iff,List.all_eq_true,List.all_eq_true];constructor
 ·intro h b hb;obtain⟨i,hl,rfl⟩:=List.getElem_of_mem hb
  have:=h i (List.mem_range.mpr hl);rw[List.getD_eq_getElem?_getD,List.getElem?_eq_getElem hl] at this;exact this
 ·intro h i hi;have hl:i<bs.length:=List.mem_range.mp hi;rw[List.getD_eq_getElem?_getD,List.getElem?_eq_getElem hl];exact h _ (List.getElem_mem hl)
theorem zew(hc:X.calm=true):zbI X (.builtin "all") (fun xs H Q=> ∃(p:Addr) (bs:List Bool),xs= [.ref p]∧SqL X.K H p (bs.map V.bl)∧Q (.bl (bs.all id)) H):=by
 intro pins s σ H xs us Q I r h;obtain⟨p,bs,rfl,hq,q⟩:=h;obtain⟨u,rfl,ru⟩:=zcL r;obtain rfl:u=Value.ref p:=ru;obtain⟨its,rv,pl,hz⟩:=I.list hq;have hl:bs.length=its.length:=by rw[←rv.length,List.length_map]
 obtain⟨o0,n0,e0,_⟩:=id pl;have ne:p≠s.heap.objs.size:=Nat.ne_of_lt (Heap.lt_size e0);refine call_all_walk (wpAny_pyIter_list pl.isList ?_);refine⟨s.heap.objs.size,_,_,_,_,_,fun i=>bs.getD i false,rfl,Walks.list (show X.A.in1.handled=none from I.ok.hd hc) s.heap.objs.size p ne its.toArray,⟨⟨_,Heap.get?_push_size _ rfl,rfl,rfl⟩,?_⟩,?_,fun h' tk hk=> ?_⟩
 ·exact pl.isList.at fun o e=>Heap.get?_push_of_some _ e
 ·intro i v s' Q' E' hv hQ;have hi:its[i]? =some v:=by simpa using hv
  obtain⟨hlt,_⟩:=List.getElem?_eq_some_iff.mp hi;have hb:(bs.map V.bl)[i]? =some (.bl bs[i]):=by rw[List.getElem?_map,List.getElem?_eq_getElem (by omega)];rfl
  obtain⟨u',e',r'⟩:=rv.get hb;rw[hi] at e';cases e';obtain rfl:v=Value.bool bs[i]:=r';refine wpAny_truthy_bool ?_;have z:bs.getD i false=bs[i]:=by rw[List.getD_eq_getElem?_getD,List.getElem?_eq_getElem (by omega)];rfl
  rw[←z];exact hQ
 ·have e:((List.range its.toArray.size).all fun i=>bs.getD i false)=bs.all id:=by rw[List.size_toArray,←hl,zhp]
  rw[e];refine⟨.bl _,H,I.kept (t':=tk) fun b o hb=>hk b o (fun z=> ?_) (Heap.get?_push_of_some _ hb),rfl,q⟩;have z':b=s.heap.objs.size:=by simpa using z
  exact absurd (z' ▸ Heap.lt_size hb) (Nat.lt_irrefl _)
end
inductive D where
 |non
 |bl (b:Bool)
 |int (i:Int)
 |str (cs:List Nat)
 |tup (ds:List D)
 |lst (ds:List D)
def zc1(f:D→V→Prop):List D→List V→Prop
 | [], []=>True
 |d::ds,x::xs=>f d x∧zc1 f ds xs
 |_,_=>False
def Dp(K:Fg)(H:Hp):Nat→D→V→Prop
 |_, .non,v=>v= .non
 |_, .bl b,v=>v= .bl b
 |_, .int i,v=>v= .int i
 |_, .str cs,v=>v= .str (SL cs)
 |n+1, .tup ds,v=> ∃a xs,v= .ref a∧SqT K H a xs∧zc1 (Dp K H n) ds xs
 |n+1, .lst ds,v=> ∃a xs,v= .ref a∧SqL K H a xs∧zc1 (Dp K H n) ds xs
 |0, .tup _,_=>False
 |0, .lst _,_=>False
theorem zcD{f:D→V→Prop}: ∀{ds:List D} {xs:List V},zc1 f ds xs→ds.length=xs.length
 | [], [],_=>rfl
 |_::_,_::_,h=>by rw[List.length_cons,List.length_cons,zcD h.2]
 | [],_::_,h=>h.elim
 |_::_, [],h=>h.elim
theorem zfZ{f:D→V→Prop}: ∀{ds:List D} {xs:List V} {j:Nat} {d:D} {x:V},zc1 f ds xs→ds[j]? =some d→xs[j]? =some x→f d x
 | [], [],_,_,_,_,h,_=>by simp at h
 |a::r,b::t,0,d,x,h,h1,h2=>by
  simp at h1 h2;rw[←h1,←h2];exact h.1
 |a::r,b::t,j+1,d,x,h,h1,h2=>zfZ h.2 (by simpa using h1) (by simpa using h2)
 | [],_::_,_,_,_,h,_,_=>h.elim
 |_::_, [],_,_,_,h,_,_=>h.elim
theorem zc5{f g:D→V→Prop}: ∀{ds:List D} {xs:List V},(∀d∈ds,∀x,f d x→g d x)→zc1 f ds xs→zc1 g ds xs
 | [], [],_,_=>trivial
 |d::r,x::t,h,q=>⟨h d List.mem_cons_self x q.1,zc5 (fun d hd=>h d (List.mem_cons_of_mem _ hd)) q.2⟩
 | [],_::_,_,h=>h.elim
 |_::_, [],_,h=>h.elim
theorem Dp.same{K:Fg}{H H':Hp}(sm:zau H H'): ∀{n:Nat} {d:D} {v:V},Dp K H n d v→Dp K H' n d v
 |_, .non,_,h=>by unfold Dp at h ⊢;exact h
 |_, .bl _,_,h=>by unfold Dp at h ⊢;exact h
 |_, .int _,_,h=>by unfold Dp at h ⊢;exact h
 |_, .str _,_,h=>by unfold Dp at h ⊢;exact h
 |n+1, .tup ds,v,h=>by
  unfold Dp at h ⊢;obtain⟨a,xs,e,hq,hs⟩:=h;exact⟨a,xs,e,sm.sqT hq,zc5 (fun d _ x q=>Dp.same sm q) hs⟩
 |n+1, .lst ds,v,h=>by
  unfold Dp at h ⊢;obtain⟨a,xs,e,hq,hs⟩:=h;exact⟨a,xs,e,sm.seq hq,zc5 (fun d _ x q=>Dp.same sm q) hs⟩
 |0, .tup _,_,h=>by unfold Dp at h;exact h.elim
 |0, .lst _,_,h=>by unfold Dp at h;exact h.elim
def sc:D→Option V
 | .non=>some .non
 | .bl b=>some (.bl b)
 | .int i=>some (.int i)
 | .str cs=>some (.str (SL cs))
 |_=>none
section
variable {X:Cx} {pins:List (Addr×Obj)} {σ:St} {H:Hp} {s:Shared}
end
section
variable {X:Cx}
end
theorem zgq{K:Fg}{H:Hp}{n:Nat}{a:Addr}{ds:List D}{xs:List V}(h:SqT K H a xs)(q:zc1 (Dp K H n) ds xs):Dp K H (n+1) (.tup ds) (.ref a):=by
 unfold Dp;exact⟨a,xs,rfl,h,q⟩
theorem zjU{K:Fg}{H:Hp}{n:Nat}{a:Addr}{ds:List D}{xs:List V}(h:SqL K H a xs)(q:zc1 (Dp K H n) ds xs):Dp K H (n+1) (.lst ds) (.ref a):=by
 unfold Dp;exact⟨a,xs,rfl,h,q⟩
theorem zfy{K:Fg}{H:Hp}{n:Nat}{i:Int}:Dp K H n (.int i) (.int i):=by unfold Dp;rfl
theorem zh4{K:Fg}{H:Hp}{n:Nat}{cs:List Nat}:Dp K H n (.str cs) (.str (SL cs)):=by unfold Dp;rfl
end L2
namespace L2
open PySem PySem.Spec PyProof.Rows
def New(H:Hp)(o:HO)(Q:VK):Prop:= ∀p H',H p=none→zau H H'→H' p=some o→Q (.ref p) H'
theorem New.at{H:Hp}{o:HO}{Q:VK}(h:New H o Q){p:Addr}(hp:H p=none):Q (.ref p) (upd H p o):=h p _ hp (zcb hp o) zat
section
variable {X:Cx} {es:List Expr} {t:TA} {pos:Pos}
def zbl(t:TA):TE:=fun σ H Q=>t σ H fun xs H1=>xs.length≤sizeLine∧New H1 (.tup xs) Q
def zbt(t:TA):TE:=fun σ H Q=>t σ H fun xs H1=>xs.length≤sizeLine∧New H1 (.lst xs) Q
theorem zcc{x1}(h:PA X es t):PE X (.Tuple es x1 pos) (zbl t):=by
 intro pins s σ H Q I hq;refine wpAny_Tuple_spliced (thn (h pos pins s σ H _ I hq) fun us s1 ⟨xs,H1,I1,r,z,q⟩=>⟨by rw[←r.length];exact z,?_⟩);have hf:H1 s1.heap.objs.size=none:=I1.hok.fresh (Nat.le_refl _);refine⟨.ref s1.heap.objs.size,upd H1 s1.heap.objs.size (.tup xs),I1.laid (t':=s1.toks) (fun b u e=>Heap.get?_push_of_some _ e) (Nat.le_refl _) ?_,rfl,q.at hf⟩;exact⟨z,us,r,⟨_,Heap.get?_push_size _ rfl,rfl,_,rfl⟩⟩
theorem zbE(h:PA X es t):PE X (.List es pos) (zbt t):=by
 intro pins s σ H Q I hq;refine wpAny_List_spliced (thn (h pos pins s σ H _ I hq) fun us s1 ⟨xs,H1,I1,r,z,q⟩=>⟨by rw[←r.length];exact z,?_⟩);have hf:H1 s1.heap.objs.size=none:=I1.hok.fresh (Nat.le_refl _);refine⟨.ref s1.heap.objs.size,upd H1 s1.heap.objs.size (.lst xs),I1.laid (t':=s1.toks) (fun b u e=>Heap.get?_push_of_some _ e) (Nat.le_refl _) ?_,rfl,q.at hf⟩;exact⟨z,us,0,r,Heap.get?_push_size _ rfl⟩
theorem OpR.imp{f:Value→Value→Sem Value}{r r':R2}(h:OpR X f r)(i: ∀x y H Q,r' x y H Q→r x y H Q):OpR X f r':=fun pins s σ H x y v u Q I rx ry q=>h pins s σ H x y v u Q I rx ry (i _ _ _ _ q)
theorem SlR.imp{r r':V→Option Int→Option Int→Hp→VK→Prop}(h:SlR X r)(i: ∀x lo hi H Q,r' x lo hi H Q→r x lo hi H Q):SlR X r':=
 fun pins s σ H x v vl vu lo hi sl Q I rx hs pl pu q=>h pins s σ H x v vl vu lo hi sl Q I rx hs pl pu (i _ _ _ _ _ q)
theorem zbI.imp{f:Value}{r r':List V→Hp→VK→Prop}(h:zbI X f r)(i: ∀xs H Q,r' xs H Q→r xs H Q):zbI X f r':=fun pins s σ H xs us Q I rx q=>h pins s σ H xs us Q I rx (i _ _ _ q)
def zkF:R2:=fun x y H Q=> ∃p q xs ys,x= .ref p∧y= .ref q∧H p=some (.lst xs)∧H q=some (.lst ys)∧xs.length+ys.length≤sizeLine∧New H (.lst (xs++ys)) Q
theorem zgW:OpR X (binaryOp .Add) zkF:=zjN.imp fun _ _ _ _ ⟨p,q,xs,ys,e1,e2,h1,h2,hz,hq⟩=>⟨p,q,xs,ys,e1,e2,h1,h2,hz,fun _ hp=>hq.at hp⟩
def zkG(K:Fg):V→Option Int→Option Int→Hp→VK→Prop:=fun x lo hi H Q=> ∃a xs,x= .ref a∧SqL K H a xs∧New H (.lst (zgk xs lo hi)) Q
theorem zf0:SlR X (zkG X.K):=ziQ.imp fun _ _ _ _ _ ⟨a,xs,e,h,q⟩=>⟨a,xs,e,h,fun _ hp=>q.at hp⟩
end
end L2
namespace L2
open PySem PySem.Spec PyProof.Rows
theorem zhq{n:Nat}(h:n≤1000):n<sizeLine:=Nat.lt_of_le_of_lt h (by decide)
theorem zaz{n:Nat}(h:n≤1000):n≤sizeLine:=Nat.le_of_lt (zhq h)
end L2
namespace L2
open PySem PySem.Spec PyProof.Rows
def zaJ(t u:TE):TE:=fun σ H Q=>t σ H Q∨u σ H Q
end L2
namespace L2
open PySem PySem.Spec PyProof.Rows
def zk1(g:TG)(tb:TS)(D:Ends)(σ:St)(J:It)(H1:Hp):Prop:= ∃W:Nat→Nat→St→Hp→Prop,(∃m,W 0 m σ H1)∧ ∀i m σ H,W i m σ H→
 (J.stop i H∧D.nx σ H)∨(J.go i H∧ ∃N:St→Hp→Prop,(∀σ' H',N σ' H'→ ∃m',m'<m∧W (i+1) m' σ' H')∧ ∀x H',J.yld i H x H'→g x σ H' fun σ2 H2=>tb {D with nx:=N,ct:=N,bk:=D.nx} σ2 H2)
theorem zex{wi:TI}{g:TG}{tb:TS}{D:Ends}{σ:St}{H:Hp}(k: ∀R:It→Hp→Prop,(∀J H1,zk1 g tb D σ J H1→R J H1)→wi σ H R):zkx wi g tb D σ H:=k _ fun _ _ h=>h
def Itz(K:Fg)(a b:Addr):It:=
 ⟨fun i H=> ∃xs ys x y,SqL K H a xs∧SqL K H b ys∧xs[i]? =some x∧ys[i]? =some y,
  fun i H v H'=> ∃p,v= .ref p∧H p=none∧zau H H'∧ ∃x y,H' p=some (.tup [x,y])∧(∀xs,SqL K H a xs→xs[i]? =some x)∧ ∀ys,SqL K H b ys→ys[i]? =some y,
  fun i H=> ∃xs ys,SqL K H a xs∧SqL K H b ys∧(xs.length≤i∨ys.length≤i)⟩
section
variable {X:Cx} {pins:List (Addr×Obj)} {σ:St} {H:Hp} {s:Shared} {h':Heap} {ch:List Addr} {t':Nat}
theorem Inv.turnedL(I:Inv X pins σ H s)(hf: ∀b∈ch,zdn X pins H b)(k: ∀b o,b∉ch→s.heap.get? b=some o→h'.get? b=some o):Inv X pins σ H {s with heap:=h',toks:=t'}:=by
 have nit: ∀b u,H b=some u→b∉ch:=fun b u e z=>by rw[(hf b z).1] at e;cases e
 refine I.step (g':=s.gens) (d':=s.drawn) (ch:=ch) (fun b hb=> ?_) (fun b o _ _ hc e _=>k b o hc e) (fun b o _ _ hc e _=>⟨o.slots,k b o hc e⟩) (fun _ _ _ _ n=>n)
  (fun b o hc e=>⟨o,k b o hc e⟩) (fun _ _ e=>e) (fun _ _ _ e=>e) (fun b ps e=>⟨#[],by rw[e];simp⟩) (fun m hm=> ?_) (fun b u e=> ?_) I.bare
 ·obtain⟨_,f1,_,f3,f4,f5⟩:=hf b hb;exact⟨f3,f1,f4,f5⟩
 ·obtain⟨o,es,ep,ho,r⟩:=hm;exact⟨o,es,ep,k _ o (fun z=>(hf _ z).2.1 rfl) ho,r⟩
 ·refine(I.hok b u e).stay (fun c v hc q=>k c v ?_ q) (fun _ q=>q) fun _ _ q=>q;rcases hc with z|z
  ·rw[z];exact nit b u e
  ·exact nit c _ z
theorem Inv.laidL{a:Addr}{o:HO}(I:Inv X pins σ H s)(hf: ∀b∈ch,zdn X pins H b)(k: ∀b o,b∉ch→s.heap.get? b=some o→h'.get? b=some o)(hp:s.heap.objs.size≤a)(new:zbm X.prog X.w (upd H a o) h' a o):
  Inv X pins σ (upd H a o) {s with heap:=h',toks:=t'}:=by
 have hn:=I.hok.fresh hp;have nit: ∀b u,H b=some u→b∉ch:=fun b u e z=>by rw[(hf b z).1] at e;cases e
 refine I.step (g':=s.gens) (d':=s.drawn) (ch:=ch) (fun b hb=> ?_) (fun b o _ _ hc e _=>k b o hc e) (fun b o _ _ hc e _=>⟨o.slots,k b o hc e⟩)
  (fun b u _ e n=>by rw[zaO (Nat.ne_of_lt (Nat.lt_of_lt_of_le (Heap.lt_size e) hp))];exact n)
  (fun b o hc e=>⟨o,k b o hc e⟩) (fun b xs e=>by rw[zaO (zbg e hn)];exact e) (fun b o u e=>by rw[zaO (zbg e hn)];exact e) (fun b ps e=>⟨#[],by rw[zaO (zbg e hn),e];simp⟩) (fun m hm=> ?_) (fun b u e=> ?_) I.bare
 ·obtain⟨_,f1,_,f3,f4,f5⟩:=hf b hb;exact⟨f3,f1,f4,f5⟩
 ·obtain⟨o,es,ep,ho,r⟩:=hm;exact⟨o,es,ep,k _ o (fun z=>(hf _ z).2.1 rfl) ho,r⟩
 ·by_cases hb:b=a
  ·subst hb;rw[zat] at e;cases e;exact new
  ·rw[zaO hb] at e;refine(I.hok b u e).stay (fun c v hc q=>k c v ?_ q) (fun c q=>by rw[zaO (zbg q hn)];exact q) fun c xs q=>by rw[zaO (zbg q hn)];exact q
   rcases hc with z|z
   ·rw[z];exact nit b u e
   ·exact nit c _ z
end
def zjV(K:Fg)(ta:TA):TI:=fun σ H R=>ta σ H fun vs H1=> ∃a b,vs= [.ref a, .ref b]∧(∃xs,SqL K H1 a xs)∧(∃ys,SqL K H1 b ys)∧R (Itz K a b) H1
theorem zd3{K:Fg}:PySem.W.kitOne K (.type "list") (.type "list")=some true:=by
 unfold PySem.W.kitOne;rw[if_pos (by decide)]
theorem zf1(xs:List V){k:Int}(h0:0≤k)(h1:k≤xs.length):zgk xs (some k) none=xs.drop k.toNat:=by
 obtain⟨j,rfl⟩:=Int.eq_ofNat_of_zero_le h0;unfold zgk;rw[HT.sIx_none,HT.sIx_nat,Int.toNat_natCast,Nat.min_eq_left (by omega),List.take_of_length_le (by rw[List.length_drop];omega)]
section
variable {X:Cx}
end
section
variable {X:Cx} {Ek:St→XK} {k:Nat} {f:Addr} {fd:FuncData} {ps ks:List Str} {sp:Sp} {x:Str} {p pos:Pos} {e:Expr} {es:List Expr} {kws:List Keyword} {t tk:TA} {g:List Value→List Value→List Value} {gV:List V→List V→List V}
def zaK(sp:Sp)(gV:List V→List V→List V)(Ek:St→XK)(t tk:TA):TE:=fun σ H Q=>t σ H fun vs H1=>tk σ H1 fun zs H2=>sp (gV vs zs) H2 Q (Ek σ)
end
structure FunD (K:Fg) (x qual:Str) (st:Stmt) (f:Addr) (fd:FuncData):Prop where
 ex: ∃(dV oc:Value) (od:Option Addr) (kV doc pm:Value) (an:Option Addr) (cdv ct:Value) (osl:Array (Option Value)),
  fd=PySem.W.fnOf x qual (zcF st) (zbM st) (zai st) dV kV doc pm an cdv ct∧K.lookup f=some ⟨oc,od, .func fd,osl⟩∧PySem.W.codeIn K cdv qual=true
 kp:PySem.W.keepIn K (.ref f)=true
theorem FunD.okX{P:Program}{w:World}{K:Fg}{mg:Str→Option Value}{base:Heap}{x qual:Str}{st:Stmt}{f:Addr}{fd:FuncData}{N ps:List Str}{k:Nat}{sp:Sp}(F:FunD K x qual st f fd)(S:FnScope N ps (zai st))(len: ∀vs H Q E,sp vs H Q E→vs.length=ps.length)
  (hbody: ∀(cdv:Value) (A:Around) (outer:List Env) (s:Shared) (H:Hp) (vs:List V) (Q:VK) (E:XK),LvR (zcM (CXE P w) P w K mg base N qual (zai st) f cdv A outer s H E) (fun _=>E)→Room k (A.deeper (envOfC qual (zai st) s.heap.objs.size f cdv))→sp vs H Q E→
   ∃t,PSs (zcM (CXE P w) P w K mg base N qual (zai st) f cdv A outer s H E) (zbM st) t∧t {nx:=fun _ H'=>Q .non H',rt:=Q} (start N vs) H):FnOk P w K mg base (CXE P w) (k+1) f fd ps sp:=by
 obtain⟨dV,oc,od,kV,doc,pm,an,cdv,ct,osl,rfl,lk,hcd⟩:=F.ex;exact zhV lk hcd S len fun A outer s H vs Q E hr hsp=>hbody cdv A outer s H vs Q E zfr hr hsp
theorem zgX{K:Fg}{x qual:Str}{st:Stmt}{f:Addr}{oc dV:Value}{od an:Option Addr}{osl:Array (Option Value)}{kV doc pm cdv ct:Value}(l:K.lookup f=some ⟨oc,od, .func (PySem.W.fnOf x qual (zcF st) (zbM st) (zai st) dV kV doc pm an cdv ct),osl⟩)
  (c:PySem.W.codeIn K cdv qual=true) (k:PySem.W.keepIn K (.ref f)=true):FunD K x qual st f (PySem.W.fnOf x qual (zcF st) (zbM st) (zai st) dV kV doc pm an cdv ct):=⟨⟨dV,oc,od,kV,doc,pm,an,cdv,ct,osl,rfl,l,c⟩,k⟩
def kwG{α:Type}(us ws:List α):List α:=match us,ws with
 | [a], [b]=> [a,b]
 |_,_=> []
theorem zaL{α:Type}(a b:α):kwG [a] [b]= [a,b]:=rfl
theorem zey{K:Fg}{fd:FuncData}{p0 p1:Str}(h: ∀(s:Shared) (u v:Value),K.In s.heap→BindsTo s fd ⟨[u], [(p1,v)]⟩ [(p0,u),(p1,v)]):KBinds K fd [p0,p1] [p1] kwG kwG where
 to:=fun s us ws hk hl=>by
  match us,ws,hl with
  | [u], [v],_=>exact h s u v hk
  | [], [],hl=>cases hl
  | [],_::_,hl=>cases hl
  | [_], [],hl=>cases hl
  | [_],_::_::_,hl=>cases hl
  |_::_::_, [],hl=>cases hl
  |_::_::_,_::_,hl=>cases hl
 rel:=fun r q=>by
  cases r with
  |nil=>exact .nil
  |cons r rr=>
   cases rr with
   |nil=>
    cases q with
    |nil=>exact .nil
    |cons q qq=>
     cases qq with
     |nil=>exact .cons r (.cons q .nil)
     |cons _ _=>exact .nil
   |cons _ _=>exact .nil
theorem ze7{K:Fg}{fd:FuncData}{p0 p1:Str}(h: ∀(s:Shared) (u v:Value),K.In s.heap→BindsTo s fd ⟨[u,v], []⟩ [(p0,u),(p1,v)]):zaA K fd [p0,p1] []:=fun s us hk hl=>by
 match us,hl with
 | [u,v],_=>exact h s u v hk
 | [],hl=>cases hl
 | [_],hl=>cases hl
 |_::_::_::_,hl=>simp at hl
theorem zez{K:Fg}{fd:FuncData}{p0 p1:Str}{d:Value}(h: ∀(s:Shared) (u:Value),K.In s.heap→BindsTo s fd ⟨[u], []⟩ [(p0,u),(p1,d)]):zaA K fd [p0,p1] [d]:=fun s us hk hl=>by
 match us,hl with
 | [u],_=>exact h s u hk
 | [],hl=>cases hl
 |_::_::_,hl=>simp at hl
end L2
namespace Parts
variable {A s:Int}
theorem sum_le{b:Int}: ∀(ws:List Int),(∀w∈ws,w≤b)→ws.sum≤ws.length*b
 | [],_=>by
  show (0:Int)≤((0:Nat):Int)*b;rw[Int.natCast_zero,Int.zero_mul];exact Int.le_refl 0
 |x::r,h=>by
  have h1:=sum_le r fun w hw=>h w (List.mem_cons_of_mem _ hw);have h2:=h x List.mem_cons_self;show x+r.sum≤((r.length+1:Nat):Int)*b;rw[Int.natCast_add,Int.add_mul];show x+r.sum≤(r.length:Int)*b+1*b;omega
end Parts
namespace L2
open PySem
section
variable {env:Env} {es:List Expr} {p:Pos}
theorem zac{c:Const}{j:Nat}:starEach (.Constant c j p::es) env=(false,eval (.Constant c j p) env)::starEach es env:=rfl
theorem zab{x:Str}:starEach (.Name x p::es) env=(false,eval (.Name x p) env)::starEach es env:=rfl
theorem za0{a b:Expr}{o:Operator}:starEach (.BinOp a o b p::es) env=(false,eval (.BinOp a o b p) env)::starEach es env:=rfl
theorem zdr{xs:List Expr}{k}:starEach (.Tuple xs k p::es) env=(false,eval (.Tuple xs k p) env)::starEach es env:=rfl
theorem za7{a b:Expr}:starEach (.Subscript a b p::es) env=(false,eval (.Subscript a b p) env)::starEach es env:=rfl
theorem zbN{f:Expr}{xs:List Expr}{ks:List Keyword}:starEach (.Call f xs ks p::es) env=(false,eval (.Call f xs ks p) env)::starEach es env:=rfl
end
end L2
namespace L2
open PySem PySem.Spec PyProof.Rows
theorem zdR{α:Type}{t:Sem α}{Q Q':α→Shared→Prop}{M:Model}{A:Around}{E:Value→Shared→Prop}{s:Shared}(h0:0<s.toks)(h:wpAny M A t Q E s)(hQ: ∀a s,0<s.toks→Q a s→Q' a s):wpAny M A t Q' E s:=
 wpAny_mono (wpAny_toks_of (n:=1) h0 h) (fun a s x=>hQ a s x.1 x.2) fun _ _ x=>x.2
def PSt(X:Cx)(st:Stmt)(t:TS):Prop:=
 ∀(pins:List (Addr×Obj)) (s:Shared) (σ:St) (H:Hp) (D:Ends),0<s.toks→Inv X pins σ H s→t D σ H→wpAny (model X.prog X.w) X.A (exec st X.env) (SP X pins D) X.xe s
def PTt(X:Cx)(e:Expr)(t:TT):Prop:=
 ∀(pins:List (Addr×Obj)) (s:Shared) (σ:St) (H:Hp) (Q:Bool→Hp→Prop),0<s.toks→Inv X pins σ H s→t σ H Q→wpAny (model X.prog X.w) X.A (isTrue e X.env (eval e X.env)) (TP X pins σ Q) X.xe s
def PWt(X:Cx)(e:Expr)(t:TT):Prop:=
 ∀(whole:Sem Value) (pins:List (Addr×Obj)) (s:Shared) (σ:St) (H:Hp) (Q:Bool→Hp→Prop),0<s.toks→Inv X pins σ H s→t σ H Q→wpAny (model X.prog X.w) X.A (isTrue e X.env whole) (TP X pins σ Q) X.xe s
theorem PWt.pt{X:Cx}{e:Expr}{t:TT}(h:PWt X e t):PTt X e t:=h _
section
variable {X:Cx} {st:Stmt} {sts rest:List Stmt} {e a b:Expr} {es:List Expr} {u v:TS} {te ta tb to:TE} {tc tA tB':TT} {tl:TA} {pos:Pos}
theorem PE.t(h:PE X e te):PEt X e te:=fun pins s σ H Q _ I q=>h pins s σ H Q I q
theorem PA.t(h:PA X es tl):PAt X es tl:=fun ps pins s σ H Q _ I q=>h ps pins s σ H Q I q
theorem PS.t(h:PS X st u):PSt X st u:=fun pins s σ H D _ I q=>h pins s σ H D I q
theorem PSs.t(h:PSs X sts u):PSst X sts u:=fun pins s σ H D _ I q=>h pins s σ H D I q
theorem PT.t(h:PT X e tc):PTt X e tc:=fun pins s σ H Q _ I q=>h pins s σ H Q I q
theorem PW.t(h:PW X e tc):PWt X e tc:=fun wh pins s σ H Q _ I q=>h wh pins s σ H Q I q
theorem zbc(h1:PSt X st u)(h2:PSst X rest v):PSst X (st::rest) (zbT u v):=by
 intro pins s σ H D h0 I h;refine wpAny_execs_cons (zdR h0 (h1 pins s σ H {D with nx:=v D} h0 I h) fun f s1 l1 q=> ?_);cases f with
 |next=>
  obtain⟨σ',H',I',q⟩:=q;exact h2 pins s1 σ' H' D l1 I' q
 |ret v=>exact q
 |brk=>exact q
 |cont=>exact q
theorem zeA(h1:PSt X st u):PSst X [st] u:=by
 intro pins s σ H D h0 I h;refine wpAny_execs_cons (thn (h1 pins s σ H D h0 I h) fun f s1 q=> ?_);cases f with
 |next=>exact wpAny_execs_nil q
 |ret v=>exact q
 |brk=>exact q
 |cont=>exact q
theorem zgY(he:PEt X e te):PSt X (.Return (some e) pos) (zbU te):=by
 intro pins s σ H D h0 I h;exact wpAny_Return_some (thn (he pins s σ H _ h0 I h) fun v s1 ⟨x,H1,I1,r1,q1⟩=>⟨x,σ,H1,I1,r1,q1⟩)
theorem zjW{c:Expr}{a b:List Stmt}(hc:PTt X c tc)(ha:PSst X a u)(hb:PSst X b v):PSt X (.If c a b pos) (zbQ tc u v):=by
 intro pins s σ H D h0 I h;refine wpAny_If (zdR h0 (hc pins s σ H _ h0 I h) fun d s1 l1 ⟨H1,I1,q1⟩=> ?_);cases d with
 |true=>exact ha pins s1 σ H1 D l1 I1 q1
 |false=>exact hb pins s1 σ H1 D l1 I1 q1
theorem zfz{i:Nat}{x:Str}{pos':Pos}(hN:X.N.Nodup)(hi:X.N[i]? =some x)(hx:Loc X.env.scope x)(he:PEt X e te)(hs:swapsWith e (some (.Name x pos')) pos.line X.env=pure false:=by rfl)(hf:X.fn x=true∨X.env.scope.names.lookup x=some .local:=by first|exact .inl rfl|exact .inr rfl|assumption):
  PSt X (.Assign [.Name x pos'] e pos) (zbL te (zbd i)):=by
 intro pins s σ H D h0 I h;refine wpAny_Assign_Name (thn (he pins s σ H _ h0 I h) fun v s1 ⟨y,H1,I1,r1,q1⟩=> ?_) hs;exact zdx I1 hN hi hx r1 (fun s2 I2=>⟨_,H1,I2,q1⟩) hf
theorem ziX(h:PEt X e te)(he: ∀whole,isTrue e X.env whole=(do let v←whole;standAt e.pos;holding [v] (truthy v)):=by intro _;rfl):PTt X e (tB te):=by
 intro pins s σ H Q h0 I hw
 refine isTrue_plain (thn (h pins s σ H _ h0 I hw) fun v s1 ⟨x,H1,I1,r1,q1⟩=> ?_) (he _)
 obtain⟨d,rfl,q⟩:=q1
 cases r1
 exact wpAny_truthy_bool ⟨H1,I1,q⟩
theorem ziY(ha:PTt X a tA):PWt X (.BoolOp .Or [a] pos) tA:=by
 intro wh pins s σ H Q h0 I h;refine isTrue_or (thn (ha pins s σ H Q h0 I h) fun c s1 e=> ?_);cases c with
 |false=>exact isTrue_or_nil e
 |true=>exact e
theorem ziZ(ha:PTt X a tA):PTt X (.UnaryOp .Not a pos) (zbS tA):=by
 intro pins s σ H Q h0 I h;exact isTrue_not (ha pins s σ H (fun c H1=>Q (!c) H1) h0 I h)
theorem zdh(ha:PEt X e te)(hr:PAt X es tl)(hs:starEach (e::es) X.env=(false,eval e X.env)::starEach es X.env:=by rfl):PAt X (e::es) (zbk te tl):=by
 intro pos pins s σ H Q h0 I h;rw[hs];show wpAny _ _ (spliced ((false,eval e X.env)::backTo pos (starEach es X.env))) _ _ s;refine Calls.spliced_cons (zdR h0 (ha pins s σ H _ h0 I h) fun u s1 l1 ⟨x,H1,I1,r1,q1⟩=> ?_);exact thn (hr pos pins s1 σ H1 _ l1 I1 q1) fun us s2 ⟨xs,H2,I2,r2,q2⟩=>⟨x::xs,H2,I2, .cons r1 r2,q2⟩
def zaD(c:Nat)(to:TE):TE:=fun σ H Q=>to σ H fun x H1=> ∃cs,x= .str (SL cs)∧cs.length≤sizeLine∧Q (.str (SL (cs.filter (· !=c)))) H1
theorem zgr(cs:List Nat)(c:Nat):Txt.replace (SL cs) (SL [c]) (SL [])=SL (cs.filter (· !=c)):=by
 rw[zgT (Txt.replace (SL cs) (SL [c]) (SL []))];exact congrArg SL (replace_strikes (SL cs) c)
theorem zeB{o:Expr}{y z:Str}{c:Nat}{j k:Nat}{p1 p2 apos cpos:Pos}(hy:y=SL [c])(hz:z=SL [])(ho:PEt X o to)
  (hbase:attributeBase o "replace" X.env (eval o X.env)=eval o X.env:=by rfl)
  (hfew:((backTo cpos (starEach [.Constant (.str y) j p1, .Constant (.str z) k p2] X.env)).all (fun x=> !x.1) && (backToKw cpos (keywordEach [] X.env)).all (fun x=>x.1.isSome)
   && decide (([.Constant (.str y) j p1, .Constant (.str z) k p2]:List Expr).length+([]:List Keyword).length+(if ([]:List Keyword).isEmpty then 0 else 1)<30))=true:=by rfl)
  (hline:(apos.endLine==cpos.line)=true:=by rfl)
  (hs:starEach [.Constant (.str y) j p1, .Constant (.str z) k p2] X.env= [(false,eval (.Constant (.str y) j p1) X.env),(false,eval (.Constant (.str z) k p2) X.env)]:=by rfl):
  PEt X (.Call (.Attribute o "replace" apos) [.Constant (.str y) j p1, .Constant (.str z) k p2] [] cpos) (zaD c to):=by
 intro pins s σ H Q h0 I h;refine wpAny_Call_method_late hbase hfew hline rfl (wpAny_mono (wpAny_toks_of (n:=1) h0 (ho pins s σ H _ h0 I h)) (fun v s1 hv=> ?_) fun _ _ z=>z.2);obtain⟨l1,x,H1,I1,r1,cs,rfl,hl,q1⟩:=hv;have ty:tyV X.K "str" (.str (SL cs)) H1:=rfl;obtain⟨h1,h2⟩:=zgm I1 r1 ty;refine⟨"str","str.replace",PySem.F.plainAttrs_str,PySem.F.slot_str_replace,PySem.F.type_str_replace,h1,h2,?_⟩;obtain⟨t,rfl⟩:=r1;rw[hs];refine Calls.callWith_builtin rfl (Calls.evalArgs_plain ?_);refine Calls.spliced_cons (Calls.Constant_str (k:=j) (pos:=p1) ?_);refine Calls.spliced_cons (Calls.Constant_str (k:=k) (pos:=p2) ?_);refine Calls.spliced_nil ?_;have hyz:(y==z)=false:=by
  rw[hy,hz];refine Bool.eq_false_iff.mpr fun q=> ?_;have e:=eq_of_beq q;rw[zaQ] at e;cases e
 have hb:(SL cs).length+((SL cs).length+1)*z.length≤16777216:=by
  rw[hz,zbz,zbz];simp only[List.length_nil,Nat.mul_zero,Nat.add_zero];rw[←sizeLine_eq];exact hl
 refine SC.replace (by show s1.toks≠0;omega) (by show s1.toks+1≠0;omega) (by show s1.toks≠s1.toks+1;omega) hyz hb fun t' k=> ?_;rw[hy,hz,zgr];exact⟨.str _,H1,I1.tok _,⟨t',rfl⟩,q1⟩
end
def PEm(X:Cx)(e:Expr)(t:TE):Prop:=
 ∀(pins:List (Addr×Obj)) (s:Shared) (σ:St) (H:Hp) (Q:VK),Inv X pins σ H s→t σ H Q→wpAny (model X.prog X.w) X.A (eval e X.env) (fun v s'=>0<s'.toks∧EP X pins σ Q v s') X.xe s
def PSm(X:Cx)(st:Stmt)(t:TS):Prop:=
 ∀(pins:List (Addr×Obj)) (s:Shared) (σ:St) (H:Hp) (D:Ends),Inv X pins σ H s→t D σ H→wpAny (model X.prog X.w) X.A (exec st X.env) (fun f s'=>0<s'.toks∧SP X pins D f s') X.xe s
section
variable {X:Cx} {st:Stmt} {rest:List Stmt} {e a:Expr} {t u:TS} {te ta:TE} {pos cp:Pos}
end
structure FnOkT (P:Program) (w:World) (K:Fg) (mg:Str→Option Value) (base:Heap) (CX:CXT) (k:Nat) (f:Addr) (fd:FuncData) (ps:List Str) (sp:Sp):Prop where
 len: ∀vs H Q E,sp vs H Q E→vs.length=ps.length
 run: ∀(A:Around) (outer:List Env) (s:Shared) (H:Hp) (args:Args) (us:List Value) (vs:List V) (Q:VK) (E:XK),0<s.toks→Room k A→Env0 P w K mg base A outer s H→BindsTo s fd args (ps.zip us)→zaP vs us→sp vs H Q E→
  codeAny (model P w) A (.call (.ref f) args) (CR CX outer P w H s Q E) s
theorem zh5{CX:CXT}{P:Program}{w:World}{K:Fg}{mg:Str→Option Value}{base:Heap}{k:Nat}{f:Addr}{name qual:Str}{params:Arguments}{body:List Stmt}{scope:Scope}{dV kV doc pm cdv ct oc:Value}{an od:Option Addr}
  {osl:Array (Option Value)} {N ps:List Str} {sp:Sp} (lk:K.lookup f=some ⟨oc,od, .func (PySem.W.fnOf name qual params body scope dV kV doc pm an cdv ct),osl⟩) (hcd:PySem.W.codeIn K cdv qual=true) (S:FnScope N ps scope)
  (len: ∀vs H Q E,sp vs H Q E→vs.length=ps.length)
  (hbody: ∀(A:Around) (outer:List Env) (s:Shared) (H:Hp) (vs:List V) (Q:VK) (E:XK),Room k (A.deeper (envOfC qual scope s.heap.objs.size f cdv))→sp vs H Q E→
   ∃t,PSst (zcM CX P w K mg base N qual scope f cdv A outer s H E) body t∧t {nx:=fun _ H'=>Q .non H',rt:=Q} (start N vs) H):
  FnOkT P w K mg base CX (k+1) f (PySem.W.fnOf name qual params body scope dV kV doc pm an cdv ct) ps sp:=by
 refine⟨len,fun A outer s H args us vs Q E h0 hr e0 hb r hsp=> ?_⟩;have hl:=len _ _ _ _ hsp;have KX:K.In s.heap:=e0.mod.kin.keeps fun b o e=>(e0.bs b o e).1;have lim:s.heap.NoLimit:=e0.mod.nolimit.keeps fun b o e=>(e0.bs b o e).1;have hkind: ∀y∈ps.zip us,scope.names.lookup y.1=some .local∨(scope.names.lookup y.1=some .cell∧((cellsFrom (s.heap.objs.size+1) scope.names []).lookup y.1).isSome=true):=fun⟨n,v⟩ hy=>by
  rcases S.par n (List.of_mem_zip hy).1 with q|q
  ·exact .inl q
  ·exact .inr ⟨q,PySem.W.cellsFrom_some _ _ _ (.inl q)⟩
 refine codeAny_call_function hr.depth (KX _ _ lk) rfl S.co S.gen rfl (PySem.W.codeRec_of KX hcd) (hb _ _ _ _ ?_);refine wpAny_with_toks (n:=1) h0 (wpAny_newFunctionEnv_cells S.kind hkind fun env he s1 x l1=> ?_);subst he;refine⟨lim.keeps x.toInCall.keep,codeAny_func ?_⟩;obtain⟨t,ht,hq⟩:=hbody A outer s H vs Q E (hr.deeper _) hsp;have I:Inv (zcM CX P w K mg base N qual scope f cdv A outer s H E) [] (start N vs) H s1:=ze1 S hr.hd e0 hl r x;refine wpAny_mono (ht [] s1 (start N vs) H _ l1 I hq) (fun fl s' hs=> ?_) fun e s' hs=>hs;have fin: ∀{σ':St} {H':Hp} {v:V} {u:Value},Inv (zcM CX P w K mg base N qual scope f cdv A outer s H E) [] σ' H' s'→zaB v u→Q v H'→CE outer P w H s Q u s':=
  fun {σ' H' v u} J rv q=>⟨v,H',J.os,J.bare,J.base,J.hok,rv,q⟩
 cases fl with
 |ret u=>
  obtain⟨v,σ',H',J,rv,q⟩:=hs;exact fin J rv q
 |next=>
  obtain⟨σ',H',J,q⟩:=hs;exact fin (v:=V.non) (u:=Value.none) J rfl q
 |brk=>
  obtain⟨_,_,_,q⟩:=hs;exact False.elim q
 |cont=>
  obtain⟨_,_,_,q⟩:=hs;exact False.elim q
section
variable {P:Program} {w:World} {K:Fg} {mg:Str→Option Value} {base:Heap} {x qual:Str} {st:Stmt} {f:Addr} {fd:FuncData} {N ps:List Str} {k:Nat} {sp:Sp}
theorem Fun.okXT(F:Fun K x qual st f fd)(S:FnScope N ps (zai st))(len: ∀vs H Q E,sp vs H Q E→vs.length=ps.length)
  (hbody: ∀(cdv:Value) (A:Around) (outer:List Env) (s:Shared) (H:Hp) (vs:List V) (Q:VK) (E:XK),LvR (zcM (CXE P w) P w K mg base N qual (zai st) f cdv A outer s H E) (fun _=>E)→Room k (A.deeper (envOfC qual (zai st) s.heap.objs.size f cdv))→sp vs H Q E→
   ∃t,PSst (zcM (CXE P w) P w K mg base N qual (zai st) f cdv A outer s H E) (zbM st) t∧t {nx:=fun _ H'=>Q .non H',rt:=Q} (start N vs) H):FnOkT P w K mg base (CXE P w) (k+1) f fd ps sp:=by
 obtain⟨oc,od,kV,doc,pm,an,cdv,ct,osl,rfl,lk,hcd⟩:=F.ex;exact zh5 lk hcd S len fun A outer s H vs Q E hr hsp=>hbody cdv A outer s H vs Q E zfr hr hsp
theorem FunD.okXT(F:FunD K x qual st f fd)(S:FnScope N ps (zai st))(len: ∀vs H Q E,sp vs H Q E→vs.length=ps.length)
  (hbody: ∀(cdv:Value) (A:Around) (outer:List Env) (s:Shared) (H:Hp) (vs:List V) (Q:VK) (E:XK),LvR (zcM (CXE P w) P w K mg base N qual (zai st) f cdv A outer s H E) (fun _=>E)→Room k (A.deeper (envOfC qual (zai st) s.heap.objs.size f cdv))→sp vs H Q E→
   ∃t,PSst (zcM (CXE P w) P w K mg base N qual (zai st) f cdv A outer s H E) (zbM st) t∧t {nx:=fun _ H'=>Q .non H',rt:=Q} (start N vs) H):FnOkT P w K mg base (CXE P w) (k+1) f fd ps sp:=by
 obtain⟨dV,oc,od,kV,doc,pm,an,cdv,ct,osl,rfl,lk,hcd⟩:=F.ex;exact zh5 lk hcd S len fun A outer s H vs Q E hr hsp=>hbody cdv A outer s H vs Q E zfr hr hsp
end
section
variable {X:Cx} {Ek:St→XK} {k:Nat} {f:Addr} {fd:FuncData} {ps ks:List Str} {sp:Sp} {x:Str} {p pos:Pos} {e:Expr} {es:List Expr} {kws:List Keyword} {t tk:TA} {g:List Value→List Value→List Value} {gV:List V→List V→List V} {dvs:List V} {ds:List Value}
theorem zh6{pins:List (Addr×Obj)}{σ:St}{H:Hp}{s:Shared}{Q:VK}{us:List Value}{vs:List V}(L:Lv X Ek)(F:FnOkT X.prog X.w X.K X.mg X.base (CXE X.prog X.w) k f fd ps sp)(hr:Room k X.A)(hb:zaA X.K fd ps ds)(hd:zaP dvs ds)(h0:0<s.toks)
  (I:Inv X pins σ H s) (r:zaP vs us) (h:sp (vs++dvs) H Q (Ek σ)):wpAny (model X.prog X.w) X.A (call (.ref f) us) (EP X pins σ Q) X.xe s:=by
 have r2:zaP (vs++dvs) (us++ds):=r.append hd;have hl:(us++ds).length=ps.length:=by rw[←r2.length];exact F.len _ _ _ _ h
 refine wpAny_call (codeAny_mono (F.run X.A X.stack s H ⟨us, []⟩ (us++ds) (vs++dvs) Q (Ek σ) h0 hr I.env0 (hb s us I.kIn hl) r2 h) fun r s' hq=> ?_);cases r with
 |error e=>
  obtain⟨ea,cls,H',rfl,fl,q⟩:=hq;exact L.call pins σ ea cls H H' s s' I fl q
 |ok fl=>
  cases fl with
  |ret u=>exact I.after hq
  |next=>exact False.elim hq
  |brk=>exact False.elim hq
  |cont=>exact False.elim hq
theorem zcB(L:Lv X Ek)(F:FnOkT X.prog X.w X.K X.mg X.base (CXE X.prog X.w) k f fd ps sp)(hr:Room k X.A)(hg:Gl X x)(hm:X.mg x=some (.ref f))(hk:PySem.W.keepIn X.K (.ref f)=true)(hb:zaA X.K fd ps ds)(hd:zaP dvs ds)
  (ha:PAt X (e::es) t) (hdb:(x==("__debug__":Str))=false:=by decide) (he:starEach (e::es) X.env=(false,eval e X.env)::starEach es X.env:=by rfl) (hpl:(backTo pos (starEach es X.env)).any (·.1)=false:=by rfl):
  PEt X (.Call (.Name x p) (e::es) [] pos) (zaX sp dvs Ek t):=by
 intro pins s σ H Q h0 I h;refine wpAny_Call_Name_kw (zec I hg hm ?_ hdb);refine PySem.W.callWith_K (h₀:=X.base) I.ok.mod.kin hk (zdR h0 (ha pos pins s σ H _ h0 I h) fun us s1 l1 ⟨vs,H1,I1,r,q⟩=>⟨I1.kIn,?_⟩) he hpl;exact zh6 L F hr hb hd l1 I1 r q
end
section
variable {X:Cx} {body suite:List Stmt} {b₀:Stmt} {n xn:Str} {i:Nat} {C:Addr} {tb:(St→XK)→TS} {ts:TS} {np hpos pos:Pos}
end
end L2
namespace L2
open PySem PySem.Spec PyProof.Rows
theorem zhr(cs:List Nat)(c:Nat):Txt.startswith (SL cs) (SL [c])=decide (cs.head? =some c):=by
 unfold Txt.startswith Builtin.Str.subAt;rw[zbz,zbz];cases cs with
 |nil=>rfl
 |cons a r=>
  have e:(SL (a::r)).cps.extract 0 (0+ [c].length)= #[a]:=by
   show (a::r).toArray.extract 0 1= #[a];simp
  rw[e];have l:decide (0+ [c].length≤(a::r).length)=true:=decide_eq_true (by simp);rw[l,Bool.true_and];show (#[a]== #[c])=decide ((a::r).head? =some c);rw[List.head?_cons,Bool.eq_iff_iff,beq_iff_eq,decide_eq_true_eq];constructor
  ·intro h
   have:=congrArg Array.toList h;simpa using this
  ·intro h;rw[Option.some.inj h]
section
variable {X:Cx}
theorem zdm:MtR X "str.startswith" (fun x vs H Q=> ∃cs c,x= .str (SL cs)∧vs= [.str (SL [c])]∧Q (.bl (decide (cs.head? =some c))) H):=by
 intro pins s σ H x vs v us Q I rx rv h;obtain⟨cs,c,rfl,rfl,q⟩:=h;obtain⟨t,rfl⟩:=rx;obtain⟨u,rfl,t',rfl⟩:=zcL rv;refine SC.startswith ?_;rw[zhr];exact⟨.bl _,H,I,rfl,q⟩
end
end L2
namespace L2
open PySem PySem.NumText
theorem zcn: ∀(p m:Nat),zf (dg m) (p+1)=dg (m / 10 ^ p)++fig p (m:Int)
 |0,m=>by
  rw[Nat.pow_zero,Nat.div_one];unfold zf
  have:=zfx m;rw[show 0+1 - (dg m).length=0 by omega];show dg m=dg m++ [];rw[List.append_nil]
 |p+1,m=>by
  rw[zc3];have e:((m:Int) / 10)=((m / 10:Nat):Int):=by omega
  have e2:((m:Int) % 10).toNat=m % 10:=by omega
  have e3:m / 10 ^ (p+1)=m / 10 / 10 ^ p:=by rw[Nat.pow_succ,Nat.mul_comm,Nat.div_div_eq_div_mul]
  rw[e,e2,e3,←List.append_assoc,←zcn p (m / 10)];by_cases c:m<10
  ·rw[zd1 c,show m / 10=0 by omega,show m % 10=m by omega,zd1 (show 0<10 by decide)];unfold zf;rw[List.length_singleton,List.length_singleton,Nat.add_sub_cancel,Nat.add_sub_cancel,List.replicate_succ']
  ·rw[ze5 (n:=m) (by omega)];unfold zf;rw[List.length_append,List.length_singleton,←List.append_assoc];congr 3;omega
def zcd(n:Int)(p:Nat):List Nat:=
 (if n<0 then [45] else [])++(dg (n.natAbs / 10 ^ p)++(if p=0 then [] else 46::fig p (n.natAbs:Int)))
def zf2(n:Int)(p:Nat):Nat:=(dg (n.natAbs / 10 ^ p)).length+p
theorem zh7: ∀(k n:Nat),0<k→n<10 ^ k→(dg n).length≤k
 |0,_,h,_=>absurd h (by decide)
 |k+1,n,_,h=>by
  by_cases c:n<10
  ·rw[zd1 c,List.length_singleton];omega
  ·rw[ze5 (by omega),List.length_append,List.length_singleton];have k0:0<k:=by
    rcases k with _|k
    ·simp at h;omega
    ·omega
   have:=zh7 k (n / 10) k0 (by rw[Nat.pow_succ] at h;omega);omega
theorem zck{cs:List Nat}(h:AllDigits cs)(c:Nat)(hc:c<48):cs.filter (· !=c)=cs:=by
 rw[List.filter_eq_self];intro a ha
 have:=h a ha;simp;omega
theorem zc6(n:Int)(p:Nat):((zcd n p).filter (· !=45)).filter (· !=46)=zf (dg n.natAbs) (p+1):=by
 rw[zcn];have d1:=zdd (n.natAbs / 10 ^ p);have d2:=zb6 p (n.natAbs:Int);unfold zcd;rw[List.filter_append,List.filter_append,List.filter_append,List.filter_append];rw[zck d1 45 (by decide),zck d1 46 (by decide)];have e1:(List.filter (· !=46) (List.filter (· !=45) (if n<0 then [45] else [])))= []:=by split<;>rfl
 rw[e1,List.nil_append];congr 1;by_cases z:p=0
 ·subst z;rfl
 ·rw[if_neg z,List.filter_cons,if_pos (by decide),List.filter_cons,if_neg (by decide),zck d2 45 (by decide),zck d2 46 (by decide)]
theorem zdS(n:Int)(p:Nat):(zcd n p).head? =some 45↔n<0:=by
 unfold zcd;by_cases h:n<0
 ·rw[if_pos h];simp [h]
 ·rw[if_neg h,List.nil_append];have d1:=zdd (n.natAbs / 10 ^ p);cases e:dg (n.natAbs / 10 ^ p) with
  |nil=>have:=zfx (n.natAbs / 10 ^ p);rw[e] at this;cases this
  |cons c r=>
   rw[e] at d1
   have:=d1 c List.mem_cons_self;simp only[List.cons_append,List.head?_cons,Option.some.injEq];constructor
   ·intro z;omega
   ·intro z;exact absurd z h
theorem zjX(n:Nat):digitsVal (dg n)=n:=by
 induction n using Nat.strongRecOn with
 |_ n ih=>
  by_cases h:n<10
  ·rw[zd1 h]
   have:=digitsVal_snoc [] (48+n);simp at this;rw[this];simp [digitsVal]
  ·rw[ze5 (by omega),digitsVal_snoc,ih (n / 10) (by omega)];omega
theorem zh8(m:Nat): ∀k,digitsVal (zf (dg m) (k+1))=m:=by
 intro k;induction k generalizing m with
 |zero=>rw[zcn,Nat.pow_zero,Nat.div_one];show digitsVal (dg m++ [])=m;rw[List.append_nil,zjX]
 |succ k ih=>
  rw[zcn,zc3];have e:((m:Int) / 10)=((m / 10:Nat):Int):=by omega
  have e2:((m:Int) % 10).toNat=m % 10:=by omega
  have e3:m / 10 ^ (k+1)=m / 10 / 10 ^ k:=by rw[Nat.pow_succ,Nat.mul_comm,Nat.div_div_eq_div_mul]
  rw[e,e2,e3,←List.append_assoc,←zcn k (m / 10),digitsVal_snoc,ih (m / 10)];omega
theorem ze8(m k:Nat):AllDigits (zf (dg m) (k+1)):=by
 rw[zcn];intro c hc;rcases List.mem_append.mp hc with h|h
 ·exact zdd _ c h
 ·exact zb6 _ _ c h
theorem zfA(m k:Nat):(zf (dg m) (k+1)).length=(dg (m / 10 ^ k)).length+k:=by
 rw[zcn,List.length_append,zcx]
def zdi(cs:List Nat)(p:Nat)(n:Int):Prop:=cs=zcd n p∧zf2 n p≤60
theorem zh9{n n':Int}{p:Nat}(h:zcd n p=zcd n' p):n=n':=by
 have h1:=congrArg (fun cs=>digitsVal ((cs.filter (· !=45)).filter (· !=46))) h;simp only[zc6,zh8] at h1;have h2:=zdS n p;have h3:=zdS n' p;rw[h,h3] at h2;omega
theorem zfB{n:Int}{p:Nat}(hn:n.natAbs<10 ^ 60)(hp:p≤6):zf2 n p≤60:=by
 unfold zf2;have h:n.natAbs / 10 ^ p<10 ^ (60 - p):=by
  refine Nat.div_lt_of_lt_mul ?_;rw[←Nat.pow_add,show p+(60 - p)=60 by omega];exact hn
 have:=zh7 (60 - p) _ (by omega) h;omega
theorem zia(n:Int)(p:Nat):(zcd n p).length≤zf2 n p+2:=by
 unfold zcd zf2;rw[List.length_append,List.length_append];have e1:(if n<0 then [45] else ([]:List Nat)).length≤1:=by split<;>simp
 have e2:(if p=0 then [] else 46::fig p (n.natAbs:Int)).length≤p+1:=by
  split
  ·simp
  ·rw[List.length_cons,zcx];exact Nat.le_refl _
 omega
theorem ze9(cs:List Nat){k:Int}(h0:0≤k)(h1:k≤cs.length):zdp cs none (some k)=cs.take k.toNat:=by
 obtain⟨j,rfl⟩:=Int.eq_ofNat_of_zero_le h0;unfold zdp;rw[HT.sIx_none,HT.sIx_nat,Int.toNat_natCast,List.drop_zero,Nat.sub_zero,Nat.min_eq_left (by omega)]
theorem zhs(cs:List Nat){k:Int}(h0:0≤k)(h1:k≤cs.length):zdp cs (some k) none=cs.drop k.toNat:=by
 obtain⟨j,rfl⟩:=Int.eq_ofNat_of_zero_le h0;unfold zdp;rw[HT.sIx_none,HT.sIx_nat,Int.toNat_natCast,Nat.min_eq_left (by omega),List.take_of_length_le (by rw[List.length_drop];omega)]
theorem zdi.one{cs:List Nat}{p:Nat}{n n':Int}(h:zdi cs p n)(g:zdi cs p n'):n=n':=zh9 (h.1.symm.trans g.1)
theorem zgZ{n:Int}{p:Nat}(hn:n.natAbs<10 ^ 60)(hp:p≤6):zdi (zcd n p) p n:=⟨rfl,zfB hn hp⟩
theorem zcE{n:Int}{p:Nat}(hn:n.natAbs<10 ^ 60)(hp:p≤6):(zcd n p).length≤62:=by
 have:=zia n p
 have:=zfB hn hp;omega
theorem zi0{i:Int}(h:i.natAbs<10 ^ 60):i.natAbs.log2<1920:=zgV (Nat.lt_trans h (by decide))
theorem zi1{P:List Nat→Prop}(h0:P [])(h1: ∀r c,P r→P (r++ [c]))(cs:List Nat):P cs:=by
 have: ∀n (cs:List Nat),cs.length=n→P cs:=by
  intro n;induction n with
  |zero=>
   intro cs e;rw[List.length_eq_zero_iff.mp e];exact h0
  |succ n ih=>
   intro cs e;have ne:cs≠ []:=fun z=>by rw[z] at e;cases e
   rw[←List.dropLast_concat_getLast ne];exact h1 _ _ (ih _ (by rw[List.length_dropLast,e];rfl))
 exact this _ cs rfl
theorem zgs{a b:List Nat}:AllDigits (a++b)↔AllDigits a∧AllDigits b:=
 ⟨fun h=>⟨fun c hc=>h c (List.mem_append_left _ hc),fun c hc=>h c (List.mem_append_right _ hc)⟩,fun h c hc=>(List.mem_append.mp hc).elim (h.1 c) (h.2 c)⟩
def Sh(r:List Nat)(pt:Option Nat)(num fg:Nat):Prop:=
 match pt with
 |none=>AllDigits r∧num=digitsVal r∧fg=r.length
 |some a=> ∃A B,r=A++46::B∧A.length=a∧AllDigits A∧AllDigits B∧num=digitsVal (A++B)∧fg=A.length+B.length
theorem Sh.nil:Sh [] none 0 0:=⟨(fun c h=>nomatch h),rfl,rfl⟩
theorem zht(cs:List Nat):AllDigits cs→digitsVal cs<10 ^ cs.length:=by
 refine zi1 (P:=fun cs=>AllDigits cs→digitsVal cs<10 ^ cs.length) (fun _=>by decide) (fun r c ih hB=> ?_) cs;obtain⟨h1,h2⟩:=zgs.mp hB;have hc:=h2 c List.mem_cons_self
 have:=ih h1;rw[digitsVal_snoc,List.length_append,List.length_singleton,Nat.pow_succ];omega
theorem zfC(cs:List Nat)(h:AllDigits cs)(hl:cs.length≤60):digitsVal cs<10 ^ 60:=
 Nat.lt_of_lt_of_le (zht cs h) (Nat.pow_le_pow_right (by decide) hl)
theorem zib(n:Int)(p:Nat):1≤(zcd n p).length:=by
 have:=zfx (n.natAbs / 10 ^ p);unfold zcd;rw[List.length_append,List.length_append];omega
theorem za8{c A B:Prop}[Decidable c](h1:c→A)(h2: ¬c→B):if c then A else B:=by
 by_cases h:c
 ·rw[if_pos h];exact h1 h
 ·rw[if_neg h];exact h2 h
end L2
namespace L2
open PySem PySem.Spec PyProof.Rows
section
variable {κ:Type} [DecidableEq κ]
def zdE(kvs:List (κ×V))(k:κ):Option V:=(kvs.find? fun kv=>decide (kv.1=k)).map (·.2)
def zdF(kvs:List (κ×V))(k:κ)(v:V):List (κ×V):=
 if (kvs.any fun kv=>decide (kv.1=k))=true then kvs.map (fun kv=>if kv.1=k then (kv.1,v) else kv) else kvs++ [(k,v)]
def zic(kvs:List (κ×V))(k:κ):List (κ×V):=kvs.filter fun kv=>decide (kv.1≠k)
theorem zdG{p:κ×V}{r:List (κ×V)}{k:κ}(e:p.1=k):zdE (p::r) k=some p.2:=by simp [zdE,List.find?_cons,e]
theorem zdH{p:κ×V}{r:List (κ×V)}{k:κ}(e: ¬p.1=k):zdE (p::r) k=zdE r k:=by simp [zdE,List.find?_cons,e]
theorem zeC(k:κ): ∀kvs:List (κ×V),(kvs.any fun kv=>decide (kv.1=k))=(zdE kvs k).isSome
 | []=>rfl
 |p::r=>by
  rw[List.any_cons];by_cases e:p.1=k
  ·simp only[zdG e,decide_eq_true e,Bool.true_or,Option.isSome_some]
  ·rw[zdH e,decide_eq_false e,Bool.false_or];exact zeC k r
theorem zd4(kvs:List (κ×V))(k:κ)(v:V):(zdF kvs k v).length≤kvs.length+1:=by
 unfold zdF;split
 ·rw[List.length_map];omega
 ·rw[List.length_append,List.length_cons,List.length_nil];omega
theorem zek.isSome_eq{o:Option V}{u:Option Value}(r:zek o u):o.isSome=u.isSome:=by
 cases o with
 |none=>cases u with
  |none=>rfl
  |some _=>exact(show False from r).elim
 |some _=>cases u with
  |none=>exact(show False from r).elim
  |some _=>rfl
theorem zek.getD{o:Option V}{u:Option Value}{d:V}{d':Value}(r:zek o u)(rd:zaB d d'):zaB (o.getD d) (u.getD d'):=by
 cases o with
 |none=>cases u with
  |none=>exact rd
  |some _=>exact(show False from r).elim
 |some _=>cases u with
  |none=>exact(show False from r).elim
  |some _=>exact r
theorem KV.val{kvs:List (κ×V)}{vs:List (κ×Value)}(r:KV kvs vs)(k:κ):zek (zdE kvs k) (valueAt vs k):=by
 unfold KV at r;induction r with
 |nil=>exact True.intro
 | @cons p q ps qs h t ih=>
  obtain⟨h1,h2⟩:=h;by_cases e:p.1=k
  ·have e':q.1=k:=h1.symm.trans e;have b:valueAt (q::qs) k=some q.2:=by simp [valueAt,List.find?_cons,e']
   rw[zdG e,b];exact h2
  ·have e': ¬q.1=k:=fun z=>e (h1.trans z);have b:valueAt (q::qs) k=valueAt qs k:=by simp [valueAt,List.find?_cons,e']
   rw[zdH e,b];exact ih
theorem KV.any{kvs:List (κ×V)}{vs:List (κ×Value)}(r:KV kvs vs)(k:κ):(kvs.any fun kv=>decide (kv.1=k))=vs.any fun kv=>decide (kv.1=k):=by
 unfold KV at r;induction r with
 |nil=>rfl
 |cons h t ih=>rw[List.any_cons,List.any_cons,ih,h.1]
theorem KV.repl{kvs:List (κ×V)}{vs:List (κ×Value)}(r:KV kvs vs)(k:κ){y:V}{u:Value}(ry:zaB y u):
  KV (kvs.map fun kv=>if kv.1=k then (kv.1,y) else kv) (vs.map fun kv=>if kv.1=k then (kv.1,u) else kv):=by
 unfold KV at r ⊢;induction r with
 |nil=>exact .nil
 | @cons p q ps qs h t ih=>
  rw[List.map_cons,List.map_cons];refine .cons ?_ ih;obtain⟨h1,h2⟩:=h;by_cases e:p.1=k
  ·rw[if_pos e,if_pos (h1.symm.trans e)];exact⟨h1,ry⟩
  ·rw[if_neg e,if_neg (fun z=>e (h1.trans z))];exact⟨h1,h2⟩
theorem KV.put{kvs:List (κ×V)}{vs:List (κ×Value)}(r:KV kvs vs)(k:κ){y:V}{u:Value}(ry:zaB y u):KV (zdF kvs k y) (stored vs k u):=by
 unfold zdF stored;rw[r.any k];by_cases e:(vs.any fun kv=>decide (kv.1=k))=true
 ·rw[if_pos e,if_pos e];exact r.repl k ry
 ·rw[if_neg e,if_neg e];exact Paired.snoc r ⟨rfl,ry⟩
theorem KV.drop{kvs:List (κ×V)}{vs:List (κ×Value)}(r:KV kvs vs)(k:κ):KV (zic kvs k) (without vs k):=by
 unfold KV at r ⊢;unfold zic without;induction r with
 |nil=>exact .nil
 | @cons p q ps qs h t ih=>
  obtain⟨h1,h2⟩:=h;rw[List.filter_cons,List.filter_cons];by_cases e:p.1=k
  ·have a: ¬decide (p.1≠k)=true:=by simp [e]
   have b: ¬decide (q.1≠k)=true:=by simp [h1.symm.trans e]
   rw[if_neg a,if_neg b];exact ih
  ·have e': ¬q.1=k:=fun z=>e (h1.trans z);have a:decide (p.1≠k)=true:=by simp [e]
   have b:decide (q.1≠k)=true:=by simp [e']
   rw[if_pos a,if_pos b];exact .cons ⟨h1,h2⟩ ih
theorem KV.length{kvs:List (κ×V)}{vs:List (κ×Value)}(r:KV kvs vs):kvs.length=vs.length:=Paired.length r
end
theorem zid{P:Program}{w:World}{k:Key}{u:Value}(r:zaB (kV k) u):(zbK P w).is k u=true:=by
 cases k with
 |inl i=>obtain⟨t,e⟩:=(show∃t,u=Value.int i t from r);subst e;exact zfN P w i t
 |inr x=>obtain⟨t,e⟩:=(show∃t,u=Value.str x t from r);subst e;exact zfO P w x t
theorem zfa{P:Program}{w:World}: ∀{ks:List Key} {us:List Value},zaP (ks.map kV) us→ItemsAre (zbK P w) ks us
 | [],_,r=>by rw[List.map_nil] at r;cases r;exact .nil
 |k::ks,_,r=>by
  rw[List.map_cons] at r;cases r with
  |cons h t=>exact .cons (zid h) (zfa t)
abbrev KT(H:Hp):List (List Key×V)→List (List Key×Addr×Value)→Prop:=Paired fun p q=>p.1=q.1∧H q.2.1=some (.tup (p.1.map kV))∧zaB p.2 q.2.2
theorem KT.val{H:Hp}{kvs:List (List Key×V)}{xs:List (List Key×Addr×Value)}(r:KT H kvs xs)(k:List Key):zek (zdE kvs k) ((atKey xs k).map (·.2)):=by
 induction r with
 |nil=>exact True.intro
 | @cons p q ps qs h t ih=>
  obtain⟨h1,_,h2⟩:=h;by_cases e:p.1=k
  ·have e':q.1=k:=h1.symm.trans e;have b:atKey (q::qs) k=some q.2:=by simp [atKey,List.find?_cons,e']
   rw[zdG e,b];exact h2
  ·have e': ¬q.1=k:=fun z=>e (h1.trans z);have b:atKey (q::qs) k=atKey qs k:=by simp [atKey,List.find?_cons,e']
   rw[zdH e,b];exact ih
theorem KT.repl{H:Hp}{kvs:List (List Key×V)}{xs:List (List Key×Addr×Value)}(r:KT H kvs xs)(k:List Key){y:V}{u:Value}(ry:zaB y u):
  KT H (kvs.map fun kv=>if kv.1=k then (kv.1,y) else kv) (xs.map (putAt k u)):=by
 induction r with
 |nil=>exact .nil
 | @cons p q ps qs h t ih=>
  rw[List.map_cons,List.map_cons];refine .cons ?_ ih;obtain⟨h1,h2,h3⟩:=h;unfold putAt;by_cases e:p.1=k
  ·rw[if_pos e,if_pos (h1.symm.trans e)];exact⟨h1,h2,ry⟩
  ·rw[if_neg e,if_neg (fun z=>e (h1.trans z))];exact⟨h1,h2,h3⟩
theorem KT.put{H:Hp}{kvs:List (List Key×V)}{xs:List (List Key×Addr×Value)}(r:KT H kvs xs)(k:List Key){b:Addr}{y:V}{u:Value}(hb:H b=some (.tup (k.map kV)))(ry:zaB y u):
  KT H (zdF kvs k y) (storedH xs k b u):=by
 have e:(kvs.any fun kv=>decide (kv.1=k))=(atKey xs k).isSome:=by
  rw[zeC,(r.val k).isSome_eq,Option.isSome_map]
 unfold zdF storedH;rw[e];by_cases q:(atKey xs k).isSome=true
 ·rw[if_pos q,if_pos q];exact r.repl k ry
 ·rw[if_neg q,if_neg q];exact Paired.snoc r ⟨rfl,hb,ry⟩
theorem KT.keeps{H H':Hp}{kvs:List (List Key×V)}{xs:List (List Key×Addr×Value)}(r:KT H kvs xs)(ht: ∀b ys,H b=some (.tup ys)→H' b=some (.tup ys)):KT H' kvs xs:=
 Paired.mapP r fun _ _ z=>⟨z.1,ht _ _ z.2.1,z.2.2⟩
section
variable {P:Program} {w:World} {H:Hp} {h:Heap} {a:Addr}
theorem zjp{u:HO}(ok:HOk P w H h)(e:Rd H a u):zbm P w H h a u:=e.ok ok
theorem zjq{kvs:List (Key×V)}(ok:HOk P w H h)(e:Rd H a (.dK kvs)):kvs.length≤sizeLine∧(a==sysModules)=false∧ ∃vs,KV kvs vs∧h.DictOf (zbK P w) a vs:=
 show zbm P w H h a (.dK kvs) from zjp ok e
theorem zkH{kvs:List (Key×V)}(ok:HOk P w H h)(e:H a=some (.dK kvs)):kvs.length≤sizeLine∧(a==sysModules)=false∧ ∃vs,KV kvs vs∧h.DictOf (zbK P w) a vs:=zjq ok (.inl e)
theorem zgt{ks:List Key}(ok:HOk P w H h)(e:H a=some (.tup (ks.map kV))):(tupleKind (zbK P w)).is h ks a:=by
 obtain⟨_,its,r,o,h1,h2,n,h3⟩:=(show zbm P w H h a (.tup (ks.map kV)) from ok a _ e)
 exact⟨o,its.toArray,n,h1,h2,h3,by simpa using zfa r⟩
theorem zjr{kvs:List (List Key×V)}(ok:HOk P w H h)(e:Rd H a (.dT kvs)):kvs.length≤sizeLine∧(a==sysModules)=false∧
  ∃xs,KT H kvs xs∧h.DictOfH (tupleKind (zbK P w)) a xs:=by
 obtain⟨z,y,xs,r,o,es,ep,h1,h2,h3,h4,h5⟩:=(show zbm P w H h a (.dT kvs) from zjp ok e)
 refine⟨z,y,xs,r,o,es,ep,h1,h2,h3,h4,fun x hx=> ?_,h5⟩;have all: ∀{l:List (List Key×V)} {m:List (List Key×Addr×Value)},KT H l m→ ∀x∈m,(tupleKind (zbK P w)).is h x.1 x.2.1:=by
  intro l m q;induction q with
  |nil=>intro x hx;exact nomatch hx
  | @cons p q ps qs hq t ih=>
   intro x hx;rcases List.mem_cons.mp hx with e|hx
   ·subst e;exact zgt ok (by rw[←hq.1];exact hq.2.1)
   ·exact ih x hx
 exact all r x hx
theorem zkI{kvs:List (List Key×V)}(ok:HOk P w H h)(e:H a=some (.dT kvs)):kvs.length≤sizeLine∧(a==sysModules)=false∧
  ∃xs,KT H kvs xs∧h.DictOfH (tupleKind (zbK P w)) a xs:=zjr ok (.inl e)
end
def zeR(H:Hp)(a:Addr)(y:V)(r:Option V):Prop:=
 (∃kvs k,Rd H a (.dK kvs)∧y=kV k∧r=zdE kvs k)∨ ∃kvs k b,Rd H a (.dT kvs)∧y= .ref b∧H b=some (.tup (k.map kV))∧r=zdE kvs k
def zgu(H:Hp)(a:Addr)(y v:V)(H':Hp):Prop:=
 (∃kvs k,H a=some (.dK kvs)∧y=kV k∧kvs.length<sizeLine∧H'=upd H a (.dK (zdF kvs k v)))∨
 ∃kvs k b,H a=some (.dT kvs)∧y= .ref b∧H b=some (.tup (k.map kV))∧kvs.length<sizeLine∧H'=upd H a (.dT (zdF kvs k v))
theorem zeR.k{H:Hp}{a:Addr}{kvs:List (Key×V)}{k:Key}(e:H a=some (.dK kvs)):zeR H a (kV k) (zdE kvs k):= .inl ⟨kvs,k, .inl e,rfl,rfl⟩
theorem zeR.t{H:Hp}{a b:Addr}{kvs:List (List Key×V)}{k:List Key}(e:H a=some (.dT kvs))(eb:H b=some (.tup (k.map kV))):zeR H a (.ref b) (zdE kvs k):= .inr ⟨kvs,k,b, .inl e,rfl,eb,rfl⟩
theorem zgu.k{H:Hp}{a:Addr}{kvs:List (Key×V)}{k:Key}{v:V}(e:H a=some (.dK kvs))(hl:kvs.length<sizeLine):zgu H a (kV k) v (upd H a (.dK (zdF kvs k v))):= .inl ⟨kvs,k,e,rfl,hl,rfl⟩
theorem zgu.t{H:Hp}{a b:Addr}{kvs:List (List Key×V)}{k:List Key}{v:V}(e:H a=some (.dT kvs))(eb:H b=some (.tup (k.map kV)))(hl:kvs.length<sizeLine):
  zgu H a (.ref b) v (upd H a (.dT (zdF kvs k v))):= .inr ⟨kvs,k,b,e,rfl,eb,hl,rfl⟩
section
variable {X:Cx} {pins:List (Addr×Obj)} {σ:St} {H:Hp} {s:Shared} {a:Addr} {y v:V} {u r:Value} {o:Option V} {A:Around} {E:Value→Shared→Prop}
theorem Inv.big(I:Inv X pins σ H s):sysModules<s.heap.objs.size:=by
 have h:mainGlobals<s.heap.objs.size:=(I.mod.glob.keeps I.bk).lt;exact Nat.lt_trans (by decide) h
theorem zk2{Q:Value→Shared→Prop}(hu:A.units+1<cLine)(I:Inv X pins σ H s)(g:zeR H a y o)(ry:zaB y u)(h: ∀s',Inv X pins σ H s'→Q (.bool o.isSome) s'):
  wpAny (model X.prog X.w) A (compareOp .In u (.ref a)) Q E s:=by
 rcases g with⟨kvs,k,e,ey,l⟩|⟨kvs,k,b,e,ey,eb,l⟩
 ·subst ey;obtain⟨z,hd,vs,rel,dd⟩:=zjq I.hok e;refine wpAny_in_of (zid ry) hd dd.mapOf ?_;rw[←(rel.val k).isSome_eq,←l];exact h _ (I.tok _)
 ·subst ey;cases (show u=Value.ref b from ry);obtain⟨z,hd,xs,rel,dd⟩:=zjr I.hok e;refine wpAny_in_heap (tupleKind_room_in1 hu) (zgt I.hok eb) hd dd ?_;have q:=(rel.val k).isSome_eq;rw[Option.isSome_map] at q;rw[←q,←l];exact h _ (I.tok _)
theorem zg0{h':Heap}{t':Nat}{ob:HO}(I:Inv X pins σ H s)(mu:Mut (H a))(hs:Heap.SameBut a s.heap h')(he: ∃q,h'.get? a=some q)(new:zbm X.prog X.w (upd H a ob) h' a ob):
  Inv X pins σ (upd H a ob) {s with heap:=h',toks:=t'}:=
 I.write (x:=a) (e:=a) mu (.inl rfl) (fun b q hb z=>(hs.2 b hb).trans z) he new
theorem zjY{P:Program}{w:World}{H':Hp}{h':Heap}{kvs:List (Key×V)}{vs:List (Key×Value)}(z:kvs.length≤sizeLine)(hd:(a==sysModules)=false)(rel:KV kvs vs)(dd:h'.DictOf (zbK P w) a vs):
  zbm P w H' h' a (.dK kvs):=⟨z,hd,vs,rel,dd⟩
theorem zhu{H':Hp}{Q:Unit→Shared→Prop}(hu:A.units+1<cLine)(I:Inv X pins σ H s)(g:zgu H a y v H')(ry:zaB y u)(rv:zaB v r)(h: ∀s',Inv X pins σ H' s'→Q () s'):
  wpAny (model X.prog X.w) A (setItem (.ref a) u r) Q E s:=by
 rcases g with⟨kvs,k,e,ey,l,eH⟩|⟨kvs,k,b,e,ey,eb,l,eH⟩
 ·subst ey eH;obtain⟨z,hd,vs,rel,dd⟩:=zkH I.hok e;have hz:vs.length≤sizeLine:=by rw[←rel.length];exact z
  have hl:(zdF kvs k v).length≤sizeLine:=by have:=zd4 kvs k v;omega
  refine wpAny_setItem_pairs (hsz:=hz) (zid ry) dd fun h' dd' hs=>h _ ?_;have he: ∃q,h'.get? a=some q:=let ⟨q,_,_,hq,_⟩:=dd';⟨q,hq⟩;exact zg0 I (by rw[e];exact True.intro) hs he (zjY hl hd (rel.put k rv) dd')
 ·subst ey eH;cases (show u=Value.ref b from ry);obtain⟨z,hd,xs,rel,dd⟩:=zkI I.hok e;have hz:xs.length≤sizeLine:=by rw[←Paired.length rel];exact z
  have hl:(zdF kvs k v).length≤sizeLine:=by have:=zd4 kvs k v;omega
  refine wpAny_setItem_heap (hsz:=hz) (tupleKind_room_in1 hu) (zgt I.hok eb) dd fun h' dd' hs=>h _ ?_;obtain⟨q,es,ep,hq,h2,h3,h4,_,h5⟩:=dd';refine zg0 I (by rw[e];exact True.intro) hs ⟨q,hq⟩ ⟨hl,hd,_,(rel.put k eb rv).keeps fun c ys ec=> ?_,q,es,ep,hq,h2,h3,h4,h5⟩;rw[zaO (zkt ec e (fun z=>nomatch z))];exact ec
end
section
variable {X:Cx} {pins:List (Addr×Obj)} {σ:St} {H:Hp} {s:Shared} {a:Addr} {kvs:List (Key×V)} {k:Key} {u:Value} {A:Around} {E:Value→Shared→Prop}
end
def zbw(td ty:TE):TE:=fun σ H Q=>td σ H fun x H1=>ty σ H1 fun y H2=> ∃a v,x= .ref a∧zeR H2 a y (some v)∧Q v H2
def zb7(ty td:TE):TE:=fun σ H Q=>ty σ H fun y H1=>td σ H1 fun x H2=> ∃a o,x= .ref a∧zeR H2 a y o∧Q (.bl o.isSome) H2
def zaM(ty td:TE):TE:=fun σ H Q=>ty σ H fun y H1=>td σ H1 fun x H2=> ∃a o,x= .ref a∧zeR H2 a y o∧Q (.bl (!o.isSome)) H2
def zbu(td ty tv:TE):TS:=fun D σ H=>tv σ H fun v H1=>td σ H1 fun x H2=>ty σ H2 fun y H3=> ∃a H4,x= .ref a∧zgu H3 a y v H4∧D.nx σ H4
section
variable {X:Cx} {o i e value:Expr} {pos pos' tpos:Pos} {td ty tv:TE}
theorem zjZ(hu:X.A.units+1<cLine)(hi:PE X i ty)(ho:PE X o td):PC X .In i o (zb7 ty td):=by
 intro pins s σ H Q I h;refine thn (hi pins s σ H _ I h) fun iv s1 ⟨y,H1,I1,ry,q1⟩=>thn (ho pins s1 σ H1 _ I1 q1) fun u s2 ⟨x,H2,I2,rx,a,ov,ex,g,q2⟩=> ?_;subst ex;obtain rfl:u=Value.ref a:=rx;exact zk2 hu I2 g ry fun s3 I3=>⟨.bl ov.isSome,H2,I3,rfl,q2⟩
theorem zi2(hu:X.A.units+1<cLine)(ho:PE X o td)(hi:PE X i ty)(hv:PE X value tv)(hs:swapsWith value (some (.Subscript o i pos')) pos.line X.env=pure false):
  PS X (.Assign [.Subscript o i pos'] value pos) (zbu td ty tv):=by
 intro pins s σ H D I h;refine wpAny_Assign_Subscript (thn (hv pins s σ H _ I h) fun r s1 ⟨v,H1,I1,rv,q1⟩=>thn (ho pins s1 σ H1 _ I1 q1) fun u s2 ⟨x,H2,I2,rx,q2⟩=>thn (hi pins s2 σ H2 _ I2 q2) fun iv s3 ⟨y,H3,I3,ry,a,H4,ex,g,q3⟩=> ?_) hs;subst ex;obtain rfl:u=Value.ref a:=rx;exact zhu hu I3 g ry rv fun s4 I4=>⟨σ,H4,I4,q3⟩
end
theorem zie{P:Program}{w:World}{H:Hp}(h:Heap)(hb:sysModules<h.objs.size):zbm P w H (h.push {cls:= .type "dict",data:= .dict #[]}) h.objs.size (.dK []):=
 ⟨Nat.zero_le _,beq_eq_false_iff_ne.mpr (Ne.symm (Nat.ne_of_lt hb)), [], .nil,Heap.DictOf.new h⟩
def zj0:TE:=fun _ H Q=> ∀p,H p=none→Q (.ref p) (upd H p (.dK []))
section
variable {X:Cx} {pos:Pos}
theorem zif:PE X (.Dict [] [] pos) zj0:=fun pins s σ H Q I h=>
 wpAny_Dict_empty ⟨.ref s.heap.objs.size,_,I.laid (a:=s.heap.objs.size) (o:= .dK []) (t':=s.toks) (fun _ _ q=>Heap.get?_push_of_some _ q) (Nat.le_refl _) (zie s.heap I.big),rfl,h _ (I.hok.fresh (Nat.le_refl _))⟩
end
structure M1 (X:Cx) (o:Expr) (m:Str) (apos:Pos) (e:Expr) (cpos:Pos):Prop where
 base:attributeBase o m X.env (eval o X.env)=eval o X.env
 few:((backTo cpos (starEach [e] X.env)).all (fun x=> !x.1) && (backToKw cpos (keywordEach [] X.env)).all (fun x=>x.1.isSome)
  && decide (([e]:List Expr).length+([]:List Keyword).length+(if ([]:List Keyword).isEmpty then 0 else 1)<30))=true
 line:(apos.endLine==cpos.line)=true
 trees:backTo cpos (starEach [e] X.env)= [(false,eval e X.env)]
structure M2 (X:Cx) (o:Expr) (m:Str) (apos:Pos) (e f:Expr) (cpos:Pos):Prop where
 base:attributeBase o m X.env (eval o X.env)=eval o X.env
 few:((backTo cpos (starEach [e,f] X.env)).all (fun x=> !x.1) && (backToKw cpos (keywordEach [] X.env)).all (fun x=>x.1.isSome)
  && decide (([e,f]:List Expr).length+([]:List Keyword).length+(if ([]:List Keyword).isEmpty then 0 else 1)<30))=true
 line:(apos.endLine==cpos.line)=true
 trees:backTo cpos (starEach [e,f] X.env)= [(false,eval e X.env),(false,eval f X.env)]
def IsD(H:Hp)(a:Addr):Prop:=(∃kvs,Rd H a (.dK kvs))∨ ∃kvs,Rd H a (.dT kvs)
section
variable {X:Cx} {pins:List (Addr×Obj)} {σ:St} {H:Hp} {s:Shared} {a:Addr} {y d:V} {u r:Value} {o:Option V} {A:Around} {E:Value→Shared→Prop}
end
def za5(td ty tx:TE):TE:=fun σ H Q=>td σ H fun x H1=> ∃a,x= .ref a∧IsD H1 a∧ty σ H1 fun y H2=>tx σ H2 fun z H3=> ∃o,zeR H3 a y o∧Q (o.getD z) H3
def za6(td ty:TE):TE:=fun σ H Q=>td σ H fun x H1=> ∃a,x= .ref a∧IsD H1 a∧ty σ H1 fun y H2=> ∃kvs k v,H2 a=some (.dK kvs)∧y=kV k∧zdE kvs k=some v∧Q v (upd H2 a (.dK (zic kvs k)))
section
variable {X:Cx} {o e f:Expr} {apos cpos:Pos} {td ty tx:TE}
end
end L2
namespace L2
open PySem PySem.Spec PyProof.Rows
def za1:TE:=fun _ H Q=>New H (.dK []) Q
theorem zig{X:Cx}{pos:Pos}:PE X (.Dict [] [] pos) za1:=fun pins s σ H Q I h=>zif pins s σ H Q I fun p hp=>h.at hp
def zk3(ns:List (List Nat)):HO:= .dK (ns.map fun nm=>(Sum.inr (SL nm),V.bl true))
theorem zfD(x:List Nat): ∀ns:List (List Nat),(zdE (ns.map fun nm=>((Sum.inr (SL nm):Key),V.bl true)) (Sum.inr (SL x))).isSome=decide (x∈ns)
 | []=>rfl
 |n::r=>by
  rw[List.map_cons];by_cases e:n=x
  ·subst e;rw[zdG rfl,decide_eq_true List.mem_cons_self];rfl
  ·have ne: ¬((Sum.inr (SL n):Key)=Sum.inr (SL x)):=fun z=>by
    have:=Sum.inr.inj z;rw[zaQ] at this;exact e this
   rw[zdH ne,zfD x r,Bool.eq_iff_iff,decide_eq_true_eq,decide_eq_true_eq,List.mem_cons];constructor
   ·exact .inr
   ·rintro(z|z)
    ·exact absurd z.symm e
    ·exact z
theorem zi3{x:List Nat}{ns:List (List Nat)}(h:x∉ns):zdF (ns.map fun nm=>((Sum.inr (SL nm):Key),V.bl true)) (Sum.inr (SL x)) (.bl true)=(ns++ [x]).map fun nm=>((Sum.inr (SL nm):Key),V.bl true):=by
 unfold zdF;rw[zeC,zfD,decide_eq_false h,List.map_append];rfl
theorem zf3{K:Fg}:PySem.W.kitOne K (.type "str") (.type "int")=some false:=by
 unfold PySem.W.kitOne;rw[if_neg (by decide)];kernel_rfl
theorem zd5{K:Fg}:PySem.W.kitOne K (.type "int") (.type "str")=some false:=by
 unfold PySem.W.kitOne;rw[if_neg (by decide)];kernel_rfl
def sv:D→V
 | .int i=> .int i
 | .str cs=> .str (SL cs)
 |_=> .non
def zeD(d:D):Prop:=(∃i,d= .int i)∨ ∃cs:List Nat,d= .str cs∧cs.length≤sizeLine
theorem zih{K:Fg}{H:Hp}{n:Nat}: ∀{ds:List D} {xs:List V},zc1 (Dp K H n) ds xs→(∀d∈ds,zeD d)→xs=ds.map sv
 | [], [],_,_=>rfl
 |d::r,x::t,h,q=>by
  rw[List.map_cons,zih h.2 fun e he=>q e (List.mem_cons_of_mem _ he)];congr 1;have h1:=h.1;rcases q d List.mem_cons_self with⟨i,rfl⟩|⟨cs,rfl,_⟩
  ·unfold Dp at h1;exact h1
  ·unfold Dp at h1;exact h1
 | [],_::_,h,_=>h.elim
 |_::_, [],h,_=>h.elim
def isI:D→Bool
 | .int _=>true
 |_=>false
def btw(lo hi:Int):D→Bool
 | .int i=>decide (lo≤i) && decide (i≤hi)
 |_=>false
def zhv:D→Bool
 | .str cs=>decide (1≤cs.length) && decide (cs.length≤8) && cs.all fun c=>decide (97≤c∧c≤122)
 |_=>false
def zcU:List D→Bool
 | [n,p,c]=>zhv n && (btw 0 (10 ^ 30 - 1) p && btw 0 400 c)
 |_=>false
def zfb:List D→Bool
 | [.str w,m]=>if w= [100,97,121,115] then btw 1 400 m else if w= [109,111,110,116,104,115] then btw 1 12 m else false
 |_=>false
def zgv:List D→List Nat
 | .str cs::_=>cs
 |_=> []
def zeg(dss:List (List D)):Prop:=1≤dss.length∧dss.length≤8∧(∀ds∈dss,zcU ds=true)∧(dss.map zgv).Nodup
def zjs(dss:List (List D))(f:Int)(cds:List D):Prop:=zeg dss∧0≤f∧f≤3500000∧zfb cds=true
theorem zdI{ds:List D}(h:zcU ds=true): ∃nm p c,ds= [.str nm,p,c]:=by
 match ds,h with
 | [.str nm,p,c],_=>exact⟨nm,p,c,rfl⟩
 | [.int _,_,_],h=>cases h
 | [.bl _,_,_],h=>cases h
 | [.non,_,_],h=>cases h
 | [.tup _,_,_],h=>cases h
 | [.lst _,_,_],h=>cases h
theorem zii{f:D→V→Prop}{g:List D→D}: ∀{dss:List (List D)} {xs:List V},zc1 f (dss.map g) xs→ ∀{i:Nat} {x:V},xs[i]? =some x→ ∃ds,dss[i]? =some ds∧f (g ds) x:=by
 intro dss xs h i x e;have hl:=zcD h;rw[List.length_map] at hl;have hi:i<dss.length:=by rw[hl];exact(List.getElem?_eq_some_iff.mp e).1
 refine⟨dss[i],List.getElem?_eq_getElem hi,?_⟩;exact zfZ h (by rw[List.getElem?_map,List.getElem?_eq_getElem hi];rfl) e
end L2
namespace L2
open PySem PySem.Spec PyProof.Rows
theorem zg1{J:It}{H1:Hp}{ys:List V}{σ0:St}{g:TG}{tc:TT}{te:TE}{l:Addr}{Q:VK}(Pv:Nat→List V→Hp→Prop)(L:Lists J H1 ys)(hl:H1 l=none)(hz:ys.length<sizeLine)
  (h0: ∀H,zau H1 H→Pv 0 [] H)
  (hs: ∀i x xs H (K1:VK) (K0:Hp→Prop),ys[i]? =some x→zau H1 H→Pv i xs H→H l=some (.lst xs)→
   (∀v H4,zau H H4→(∀H5,(∀b o,b≠l→H4 b=some o→H5 b=some o)→Pv (i+1) (xs++ [v]) H5)→K1 v H4)→(∀H3,zau H H3→Pv (i+1) xs H3→K0 H3)→
   g x σ0 H fun σ2 H2=>Sub σ0 σ2∧tc σ2 H2 fun b H3=>if b=true then te σ2 H3 K1 else K0 H3)
  (hd: ∀xs H,zau H1 H→Pv ys.length xs H→xs.length≤ys.length→H l=some (.lst xs)→Q (.ref l) H):zeu J σ0 g tc te l Q H1:=by
 refine⟨fun i m xs H=>i≤ys.length∧m=ys.length - i∧zau H1 H∧Pv i xs H∧xs.length≤i∧H l=some (.lst xs),⟨ys.length,Nat.zero_le _,by omega,zcb hl _,h0 _ (zcb hl _),Nat.le_refl _,zat⟩,?_⟩;rintro i m xs H ⟨hi,rfl,sm,pv,hx,e⟩;refine⟨e,Nat.lt_of_le_of_lt hx (by omega),?_⟩;by_cases hlt:i<ys.length
 ·refine .inr ⟨L.go i H sm hlt,fun x H' y=> ?_⟩;obtain⟨rfl,hx'⟩:=L.yld i H x H' sm y hlt;refine hs i x xs H' _ _ hx' sm pv e (fun v H4 s4 p4=> ?_) (fun H3 s3 p3=> ?_)
  ·exact⟨s4 _ _ e,ys.length - (i+1),by omega,hlt,rfl,zcO (sm.trans s4) hl,p4 _ fun b o hb q=>by rw[zaO hb];exact q,by rw[List.length_append];simp only[List.length_cons,List.length_nil];omega,zat⟩
  ·exact⟨ys.length - (i+1),by omega,hlt,rfl,sm.trans s3,p3,by omega,s3 _ _ e⟩
 ·have ei:i=ys.length:=by omega
  subst ei;exact .inl ⟨L.stop H sm,hd xs H sm pv hx e⟩
end L2
namespace L2
open PySem PySem.Spec PyProof.Rows
abbrev azL:List Nat:= [97,98,99,100,101,102,103,104,105,106,107,108,109,110,111,112,113,114,115,116,117,118,119,120,121,122]
theorem at_az{r:Int}(h0:0≤r)(h1:r<26):atI azL r=some (97+r.toNat):=by
 obtain⟨n,rfl⟩:=Int.eq_ofNat_of_zero_le h0
 have: ∀n:Nat,n<26→atI azL (n:Int)=some (97+n):=by decide
 exact this n (by omega)
theorem zjt(c:Nat):c∈azL↔97≤c∧c≤122:=by
 have e:azL=(List.range 26).map (97+ ·):=by decide
 rw[e,List.mem_map];exact⟨fun⟨a,h1,h2⟩=>by have:=List.mem_range.mp h1;omega,fun h=>⟨c - 97,List.mem_range.mpr (by omega),by omega⟩⟩
abbrev Pl:=List Nat×Int×Int
def plD(x:Pl):List D:= [.str x.1, .int x.2.1, .int x.2.2]
def zi4(w:List Nat):Prop:=1≤w.length∧w.length≤8∧ ∀c∈w,97≤c∧c≤122
def zdT(x:Pl):Prop:=zi4 x.1∧0≤x.2.1∧x.2.1<10 ^ 30∧0≤x.2.2∧x.2.2≤400
def zij(xs:List Pl):Prop:=1≤xs.length∧xs.length≤8∧(∀x∈xs,zdT x)∧(xs.map (·.1)).Nodup
def zi5(K:Fg)(H:Hp)(z:V×Pl):Prop:= ∃p,z.1= .ref p∧SqT K H p [.str (SL z.2.1), .int z.2.2.1, .int z.2.2.2]
def zik(K:Fg)(H:Hp)(zs:List (V×Pl)):Prop:= ∀z∈zs,zi5 K H z
theorem zi5.same{K:Fg}{H H':Hp}{z:V×Pl}(h:zi5 K H z)(s:zau H H'):zi5 K H' z:=let ⟨p,e,q⟩:=h;⟨p,e,s.sqT q⟩
theorem zik.same{K:Fg}{H H':Hp}{zs:List (V×Pl)}(h:zik K H zs)(s:zau H H'):zik K H' zs:=fun z hz=>(h z hz).same s
theorem zkJ{x:Pl}(h:x.1.length≤sizeLine): ∀d∈plD x,zeD d:=fun d hd=>by
 unfold plD at hd;simp only[List.mem_cons,List.not_mem_nil,or_false] at hd;rcases hd with rfl|rfl|rfl
 ·exact .inr ⟨_,rfl,h⟩
 ·exact .inl ⟨_,rfl⟩
 ·exact .inl ⟨_,rfl⟩
theorem zdT.len{x:Pl}(h:zdT x):x.1.length≤sizeLine:=zaz (by have:=h.1.2.1;omega)
theorem zdT.ok{x:Pl}(h:zdT x):zcU (plD x)=true:=by
 obtain⟨⟨h1,h2,h3⟩,h4,h5,h6,h7⟩:=h;show (zhv (.str x.1) && (btw 0 (10 ^ 30 - 1) (.int x.2.1) && btw 0 400 (.int x.2.2)))=true;have e1:zhv (.str x.1)=true:=by
  show (decide (1≤x.1.length) && decide (x.1.length≤8) && x.1.all fun c=>decide (97≤c∧c≤122))=true;rw[decide_eq_true h1,decide_eq_true h2,List.all_eq_true.mpr fun c hc=>decide_eq_true (h3 c hc)];rfl
 have e2:btw 0 (10 ^ 30 - 1) (.int x.2.1)=true:=by
  show (decide (0≤x.2.1) && decide (x.2.1≤10 ^ 30 - 1))=true;rw[decide_eq_true h4,decide_eq_true (by omega)];rfl
 have e3:btw 0 400 (.int x.2.2)=true:=by
  show (decide (0≤x.2.2) && decide (x.2.2≤400))=true;rw[decide_eq_true h6,decide_eq_true h7];rfl
 rw[e1,e2,e3];rfl
theorem zij.ok{xs:List Pl}(h:zij xs):zeg (xs.map plD):=by
 obtain⟨h1,h2,h3,h4⟩:=h;refine⟨by rw[List.length_map];exact h1,by rw[List.length_map];exact h2,fun ds hd=> ?_,?_⟩
 ·obtain⟨x,hx,rfl⟩:=List.mem_map.mp hd;exact(h3 x hx).ok
 ·rw[List.map_map];exact h4
def accD(xs:List Pl)(f:Int)(w:List Nat)(c:Int):D:= .tup [.lst ((xs.map plD).map D.tup), .int f, .tup [.str w, .int c]]
theorem zeE(w:List Nat): ∀ws:List (List Nat),inV (.str (SL w)) (ws.map fun x=>V.str (SL x))=decide (w∈ws)
 | []=>rfl
 |x::r=>by
  have ih:=zeE w r;unfold inV at ih ⊢;rw[List.map_cons,List.any_cons,ih];show ((SL x==SL w)||decide (w∈r))=decide (w∈x::r);have e:(SL x==SL w)=decide (x=w):=by
   rw[Bool.eq_iff_iff,beq_iff_eq,decide_eq_true_eq,zaQ]
  rw[e,Bool.eq_iff_iff,Bool.or_eq_true,decide_eq_true_eq,decide_eq_true_eq,decide_eq_true_eq,List.mem_cons];constructor
  ·rintro(h|h)
   ·exact .inl h.symm
   ·exact .inr h
  ·rintro(h|h)
   ·exact .inl h.symm
   ·exact .inr h
theorem zhw{ds:List D}(h:ds.length≠2):zfb ds=false:=by
 match ds,h with
 | [],_=>rfl
 | [_],_=>cases ‹D› <;>rfl
 | [.str _,_],h=>exact absurd rfl h
 | [.int _,_],h=>exact absurd rfl h
 | [.bl _,_],h=>exact absurd rfl h
 | [.non,_],h=>exact absurd rfl h
 | [.tup _,_],h=>exact absurd rfl h
 | [.lst _,_],h=>exact absurd rfl h
 |a::_::_::_,_=>cases a<;>rfl
theorem zgw{f:D→V→Prop}{d e g:D}: ∀{xs:List V},zc1 f [d,e,g] xs→ ∃x y z,xs= [x,y,z]∧f d x∧f e y∧f g z
 | [x,y,z],⟨h1,h2,h3,_⟩=>⟨x,y,z,rfl,h1,h2,h3⟩
end L2
namespace L2
open PySem PySem.Spec PyProof.Rows
def spl(c:Nat):List Nat→List (List Nat)
 | []=> [[]]
 |x::r=>if x=c then []::spl c r else (x::(spl c r).headD [])::(spl c r).tail
theorem zil(c:Nat): ∀cs,spl c cs≠ []
 | []=>nofun
 |x::r=>by
  unfold spl;split<;>exact List.cons_ne_nil _ _
theorem zf4{c:Nat}: ∀{w:List Nat},c∉w→spl c w= [w]
 | [],_=>rfl
 |x::r,h=>by
  rw[List.mem_cons,not_or] at h;rw[spl,if_neg (fun e=>h.1 e.symm),zf4 h.2];rfl
theorem zg2{c:Nat}: ∀{w:List Nat} (r:List Nat),c∉w→spl c (w++c::r)=w::spl c r
 | [],r,_=>by rw[List.nil_append,spl,if_pos rfl]
 |x::w,r,h=>by
  rw[List.mem_cons,not_or] at h;rw[List.cons_append,spl,if_neg (fun e=>h.1 e.symm),zg2 r h.2];rfl
theorem zfE{c:Nat}: ∀{ys:List (List Nat)},ys≠ []→(∀y∈ys,c∉y)→spl c (jn [c] ys)=ys
 | [],h,_=>absurd rfl h
 | [y],_,h=>zf4 (h y List.mem_cons_self)
 |y::z::r,_,h=>by
  have e:jn [c] (y::z::r)=y++c::jn [c] (z::r):=by rw[jn,List.append_assoc];rfl
  rw[e,zg2 _ (h y List.mem_cons_self),zfE (List.cons_ne_nil _ _) fun w hw=>h w (List.mem_cons_of_mem _ hw)]
theorem zim(cs:List Nat)(c:Nat):Txt.split (SL cs) (SL [c])=(spl c cs).map SL:=by
 have e: ∀ps:List Str,ps=(ps.map fun p=>p.cps.toList).map SL:=fun ps=>by
  rw[List.map_map];exact((List.map_congr_left fun p _=>(zgT p).symm).trans (List.map_id ps)).symm
 have h1:=StrLaws.join_split (SL cs) (SL [c]);have h2:=StrLaws.split_free (SL cs) c;have h3:Txt.split (SL cs) (SL [c])≠ []:=by
  unfold Txt.split;split
  ·exact List.cons_ne_nil _ _
  ·split
   ·exact List.cons_ne_nil _ _
   ·intro q
    have:=congrArg List.length q;simp [Builtin.Str.partsBetween] at this
 generalize hp:Txt.split (SL cs) (SL [c])=ps at h1 h3;rw[show (⟨#[c]⟩:Str)=SL [c] from rfl,hp] at h2;rw[e ps,zfv,zaQ] at h1;rw[←h1,zfE (fun q=>h3 (List.map_eq_nil_iff.mp q)) (fun y hy=> ?_)]
 ·exact e ps
 ·obtain⟨p,hp',rfl⟩:=List.mem_map.mp hy;exact h2 p hp'
theorem zfF(c:Nat): ∀cs:List Nat,(spl c cs).length≤cs.length+1
 | []=>Nat.le_refl _
 |x::r=>by
  have:=zfF c r;unfold spl;split
  ·rw[List.length_cons,List.length_cons];omega
  ·rw[List.length_cons,List.length_tail,List.length_cons]
   have:=List.length_pos_iff.mpr (zil c r);omega
theorem zfc: ∀{ws:List (List Nat)} {l:List (Str×Tok)},l.map (·.1)=ws.map SL→zaP (ws.map fun w=>V.str (SL w)) (strValues l)
 | [], [],_=> .nil
 |w::ws,p::l,h=>by
  rw[List.map_cons,List.map_cons] at h;injection h with h1 h2
  exact .cons ⟨p.2,by rw[←h1]⟩ (zfc h2)
section
variable {X:Cx}
open Builtin Builtin.Str in
theorem zgx{prog:Program}{w:World}{A:Around}{E:Value→Shared→Prop}{s:Shared}{x y:Str}{t u:Tok}{Q:Value→Shared→Prop}(hy:(y.length==0)=false)
  (hq: ∀l k,l.map (·.1)=Txt.split x y→Q (.ref s.heap.objs.size) {s with heap:=s.heap.push {cls:= .type "list",data:= .seq (strValues l).toArray},toks:=k})
  (hsz:x.length≤sizeLine) (hsz2:(partsBetween x (occurrences x y 0 x.length (x.length+1)) y.length).length≤sizeLine):
  wpAny (model prog w) A (call (.builtin "str.split") [.str x t, .str y u]) Q E s:=by
 cases h1:(decide (x.length<y.length)||decide (strKind x<strKind y))
 ·cases hf:(occurrences x y 0 x.length (x.length+1)).isEmpty
  ·refine call_meets F.slot_str_split (typeIs_str _ _ _) F.entry_str_split (F.args_str_split_2 _ _) (meets_str_split_sep x y t u h1 hy hf hsz hsz2) ?_;show wants Q E _ {s with toks:=_,heap:=s.heap.push {cls:= .type "list",data:= .seq (strsFrom s.toks (partsBetween x (occurrences x y 0 x.length (x.length+1)) y.length)).toArray} };rw[strsFrom_eq];exact hq (numbered s.toks _) _ ((numbered_texts _ _).trans ((if_neg (ne_true_of_eq_false h1)).trans (if_neg (ne_true_of_eq_false hf))).symm)
  ·exact call_meets F.slot_str_split (typeIs_str _ _ _) F.entry_str_split (F.args_str_split_2 _ _) (meets_str_split_not_found x y t u h1 hy hf)
    (hq [(x,t)] s.toks ((if_neg (ne_true_of_eq_false h1)).trans (if_pos hf)).symm)
 ·exact call_meets F.slot_str_split (typeIs_str _ _ _) F.entry_str_split (F.args_str_split_2 _ _) (meets_str_split_cannot_occur x y t u h1) (hq [(x,t)] s.toks (if_pos h1).symm)
theorem zhx(x y:Str)(h:x.length≤100000):(Builtin.Str.partsBetween x (Builtin.Str.occurrences x y 0 x.length (x.length+1)) y.length).length≤sizeLine:=by
 have h1:=StrLaws.occ_length_le x y 0 x.length (x.length+1);rw[sizeLine_eq];simp only[Builtin.Str.partsBetween,List.length_map,List.length_zip,List.length_append,List.length_cons,List.length_nil];omega
theorem zeF:MtR X "str.split" (fun x vs H Q=> ∃cs c,x= .str (SL cs)∧vs= [.str (SL [c])]∧cs.length≤100000∧New H (.lst ((spl c cs).map fun w=>V.str (SL w))) Q):=by
 intro pins s σ H x vs v us Q I rx rv h;obtain⟨cs,c,rfl,rfl,hz,q⟩:=h;obtain⟨t,rfl⟩:=rx;obtain⟨u,rfl,t',rfl⟩:=zcL rv;refine zgx rfl (fun l k hl=> ?_) (by rw[zbz,sizeLine_eq];omega) (zhx _ _ (by rw[zbz];exact hz));rw[zim] at hl;refine⟨.ref s.heap.objs.size,_,I.laid (t':=k) (o:= .lst ((spl c cs).map fun w=>V.str (SL w))) (fun b ob q=>Heap.get?_push_of_some _ q) (Nat.le_refl _) ?_,rfl,q.at (I.hok.fresh (Nat.le_refl _))⟩;refine⟨?_,_,0,zfc hl,Heap.get?_push_size _ rfl⟩
 have:=zfF c cs;rw[List.length_map,sizeLine_eq];omega
theorem zgy:MtR X "str.isupper" (fun x vs H Q=> ∃cs,x= .str (SL cs)∧vs= []∧Q (.bl (PySem.Txt.isupper (SL cs))) H):=by
 intro pins s σ H x vs v us Q I rx rv h;obtain⟨cs,rfl,rfl,q⟩:=h;obtain⟨t,rfl⟩:=rx;cases rv;exact SC.isupper ⟨.bl _,H,I,rfl,q⟩
def zkK(te:TE):TE:=fun σ H Q=>te σ H fun x H1=>(∃i:Int,x= .int i∧0≤i∧i.natAbs.log2<1920∧Q (.str (SL (dg i.toNat))) H1)∨ ∃cs:List Nat,x= .str (SL cs)∧cs.length≤100000∧Q (.str (SL cs)) H1
theorem zgz{e:Expr}{te:TE}{pos:PySem.Pos}(he:PE X e te):PE X (.FormattedValue e (-1) none pos) (zkK te):=by
 intro pins s σ H Q I h;refine wpAny_FormattedValue_plain (thn (he pins s σ H _ I h) fun v s1 ⟨x,H1,I1,r1,q1⟩=> ?_);rcases q1 with⟨i,rfl,h0,hz,q⟩|⟨cs,rfl,hz,q⟩
 ·obtain⟨t,rfl⟩:=r1;obtain⟨n,rfl⟩:=Int.eq_ofNat_of_zero_le h0;refine wpAny_formatField_int hz ?_;rw[show (toString ((n:Nat):Int):Str)=SL (dg n) from zgU n];exact⟨.str _,H1,I1.tok _,⟨_,rfl⟩,q⟩
 ·obtain⟨t,rfl⟩:=r1;exact wpAny_formatField_str ⟨.str _,H1,I1,⟨_,rfl⟩,q⟩ ⟨.str _,H1,I1.tok _,⟨_,rfl⟩,q⟩ (by rw[zbz,sizeLine_eq];omega)
def jsT:List TE→List Nat→TE
 | [],acc=>fun _ H Q=>Q (.str (SL acc)) H
 |t::r,acc=>fun σ H Q=>t σ H fun x H1=> ∃cs:List Nat,x= .str (SL cs)∧acc.length+cs.length≤100000∧jsT r (acc++cs) σ H1 Q
inductive PEs (X:Cx):List Expr→List TE→Prop
 |nil:PEs X [] []
 |cons {e:Expr} {t:TE} {es:List Expr} {ts:List TE} (h:PE X e t) (r:PEs X es ts):PEs X (e::es) (t::ts)
theorem zf5: ∀{es:List Expr} {ts:List TE},PEs X es ts→ ∀{pins:List (Addr×Obj)} {s:Shared} {σ:St} {H:Hp} {Q:VK} {acc:List Nat},acc.length≤100000→Inv X pins σ H s→jsT ts acc σ H Q→
  Joins (model X.prog X.w) X.A X.xe (evalEach es X.env) (SL acc) (fun out s₁=>out.length≤sizeLine∧EP X pins σ Q (.str out s₁.toks) {s₁ with toks:=s₁.toks+1}) s
 | [],_,h,pins,s,σ,H,Q,acc,ha,I,q=>by
  cases h;exact⟨by rw[zbz,sizeLine_eq];omega, .str (SL acc),H,I.tok _,⟨_,rfl⟩,q⟩
 |e::es,_,h,pins,s,σ,H,Q,acc,ha,I,q=>by
  cases h with
  |cons he hr=>
   refine wpAny_mono (he pins s σ H _ I q) (fun v s1 h1=> ?_) fun _ _ x=>x;obtain⟨x,H1,I1,r1,cs,rfl,hz,q1⟩:=h1;obtain⟨t,rfl⟩:=r1;refine⟨SL cs,t,rfl,by rw[zes,zbz,List.length_append,sizeLine_eq];omega,?_⟩;rw[zes];exact zf5 hr (by rw[List.length_append];exact hz) I1 q1
theorem zg3{e1 e2:Expr}{es:List Expr}{ts:List TE}{pos:PySem.Pos}(h:PEs X (e1::e2::es) ts):PE X (.JoinedStr (e1::e2::es) pos) (jsT ts []):=by
 intro pins s σ H Q I q;exact wpAny_JoinedStr (zf5 h (Nat.zero_le _) I q)
end
end L2
namespace L2
open PySem PySem.Spec PyProof.Rows
section
variable {X:Cx} {tg elt iter:Expr} {ifs:List Expr} {scope:Scope} {pos:PySem.Pos} {N:List Str} {n:Nat} {js:List Nat} {g:CA→TG} {tc:CA→TT} {te:CA→TE}
theorem zgA{pins:List (Addr×Obj)}{σ:St}{H₁:Hp}{s₂:Shared}{E:Value→Shared→Prop}(cap:zdC X.env.scope.names X.N scope.names N n js=true)(hkind:scope.kind= .function)(hcalm:X.calm=true)
  (hg: ∀a,PG (X.comp scope N a) tg (g a)) (hc: ∀a,PIf (X.comp scope N a) ifs (tc a)) (he: ∀a,PEt (X.comp scope N a) elt (te a)) (tk0:0<s₂.toks)
  (I:Inv X pins σ H₁ s₂) {it:Addr} {fp:List Addr} {tn:Nat→Heap→Prop} {J:It} (T:Turn X.prog X.w X.K tg J fp it tn) (h0:tn 0 s₂.heap) (hf: ∀b∈fp,zdn X pins H₁ b)
  {cl:List (Str×Addr)} (hc1: ∀x c,cl.lookup x=some c→X.env.cells.lookup x=some c) (hc2: ∀p∈scope.names,p.2=NameKind.free→ ∃c,cl.lookup p.1=some c)
  {Q:VK} (hq: ∀l,H₁ l=none→ ∀a,zeu J (zaW σ n js) (g a) (tc a) (te a) l Q H₁)
  {RR:Value→Addr→Result→Shared→Prop}
  (hRR: ∀l C H' s' m,Inv X pins σ H' s'→s'.heap.Ns C m→H' C=none→C≠X.env.locals→X.s₀.heap.objs.size≤C→(∀x c,X.env.cells.lookup x=some c→c≠C)→(∀p∈X.pn++pins,p.1≠C)→C∉X.fs→Q (.ref l) H'→RR (.ref l) C (.ok .next) s'):
  wpAny (model X.prog X.w) X.A (newList []) (fun acc s₃=>wpAny (model X.prog X.w) X.A (newFunctionEnv scope X.env.globals cl [] X.env.qual none .none (some X.env)) (fun cenv s₄=>
   codeAny (model X.prog X.w) X.A (.compStart (.ListComp elt [⟨tg,iter,ifs,0⟩] scope pos) 0 (.ref it) acc {cenv with scope:=relabel scope X.env}) (RR acc cenv.locals) s₄) E s₃) E s₂:=by
 obtain⟨k1,k2,k3,k4,k5⟩:=zci cap;refine wpAny_newObj_type (wpAny_newFunctionEnv k2 (by intro y hy;simp at hy) (fun h₁ hns₁ hsb₁=> ?_) hkind);dsimp only at hns₁ hsb₁ ⊢;obtain⟨s3,hs3⟩: ∃s3:Shared,s3={s₂ with heap:=s₂.heap.push {cls:= .type "list",dict:=none,data:= .seq ([]:List Value).toArray} }:=⟨_,rfl⟩
 have eh:s₂.heap.push {cls:= .type "list",dict:=none,data:= .seq ([]:List Value).toArray}=s3.heap:=by rw[hs3]
 rw[eh] at hns₁ hsb₁ ⊢;have kp3: ∀b o,s₂.heap.get? b=some o→s3.heap.get? b=some o:=fun b o e=>by rw[←eh];exact Heap.get?_push_of_some _ e
 have hl0:H₁ s₂.heap.objs.size=none:=I.hok.fresh (Nat.le_refl _);have I3:Inv X pins σ (upd H₁ s₂.heap.objs.size (.lst [])) s3:=by
  rw[hs3];exact I.laid (t':=s₂.toks) (fun b u e=>Heap.get?_push_of_some _ e) (Nat.le_refl _) ⟨Nat.zero_le _, [],0, .nil,Heap.get?_push_size _ rfl⟩
 have fpo: ∀b∈fp,∃o,s₂.heap.get? b=some o:=fun b hb=>let ⟨o,e,_⟩:=T.obj _ _ h0 b hb;⟨o,e⟩;have fpl: ∀b∈fp,b≠s₂.heap.objs.size:=fun b hb z=>let ⟨o,e⟩:=fpo b hb;Nat.lt_irrefl _ (z ▸ Heap.lt_size e);have hf3: ∀b∈fp,zdn X pins (upd H₁ s₂.heap.objs.size (.lst [])) b:=fun b hb=>⟨by rw[zaO (fpl b hb)];exact(hf b hb).1,(hf b hb).2⟩
 have hlt3: ∀b∈fp,b<s3.heap.objs.size:=fun b hb=>let ⟨o,e⟩:=fpo b hb;Heap.lt_size (kp3 b o e);have kp1: ∀b o,s3.heap.get? b=some o→h₁.get? b=some o:=fun b o e=>hsb₁.extBut b o (Nat.ne_of_lt (Heap.lt_size e)) (Heap.get?_push_of_some _ e);have IC:=zfY (t:=s3.toks) cap hkind I3 hc1 hc2 hf3 hlt3 hns₁ kp1;have hCl:X.env.locals<s3.heap.objs.size:=I3.lt;obtain⟨a,ha⟩: ∃a:CA,a=⟨cl,s3.heap.objs.size,s3,upd H₁ s₂.heap.objs.size (.lst []),fp⟩:=⟨_,rfl⟩
 rw[←ha] at IC;have aC:a.C=s3.heap.objs.size:=by rw[ha]
 obtain⟨W,⟨m0,w0⟩,turn⟩:=hq _ hl0 a;have tn1:tn 0 h₁:=T.keep _ _ _ h0 fun b _ o e=>kp1 b o (kp3 b o e);have stat: ∀{H':Hp},(∀b∈fp,H' b=none)→ ∀b∈fp,zdn (X.comp scope N a) [] H' b:=fun {H'} hn b hb=>
  ⟨hn b hb,by show b≠a.C;rw[aC];exact Nat.ne_of_lt (hlt3 b hb),fun hz=>by
    rcases List.mem_cons.mp (I3.stkSub b hz) with z|z
    ·exact(hf b hb).2.1 z
    ·exact(hf b hb).2.2.1 z, .inl (by show b∈a.fp;rw[ha];exact hb),fun x c e=>(hf b hb).2.2.2.2.1 x c (hc1 x c (by rw[ha] at e;exact e)),fun p hp=>absurd hp (by simp [Cx.comp])⟩
 have loop: ∀s4:Shared,s4={s3 with heap:=h₁,toks:=s3.toks}→
   codeAny (model X.prog X.w) X.A (.compLoop (.ListComp elt [⟨tg,iter,ifs,0⟩] scope pos) 0 (.ref it) (.ref s₂.heap.objs.size) (X.comp scope N a).env) (RR (.ref s₂.heap.objs.size) s3.heap.objs.size) s4:=by
  rintro s4 rfl;refine zd2 (fun k s'=>0<s'.toks∧ ∃i xs H',Inv (X.comp scope N a) [] (zaW σ n js) H' s'∧tn i s'.heap∧(∀b∈fp,H' b=none)∧W i k xs H') ?_ m0 ⟨by rw[hs3];exact tk0,0, [],_,IC,tn1,fun b hb=>(hf3 b hb).1,w0⟩;rintro k s5 ⟨l5,i,xs,H5,I5,t5,f5,w5⟩;obtain⟨hl5,hz5,alt⟩:=turn i k xs H5 w5;rcases alt with⟨stop,qn⟩|⟨go,step⟩
  ·refine thn (T.done (X.comp scope N a) rfl rfl rfl hcalm i [] s5 _ H5 NoE I5 (stat f5) t5 stop) fun r s6 ⟨hr,I6⟩=> ?_;subst hr;obtain⟨m6,hn6,_⟩:=I6.loc;have hn6':s6.heap.Ns s3.heap.objs.size m6:=by rw[←aC];exact hn6
   have u6:Un (frs X.stack) fp (upd H₁ s₂.heap.objs.size (.lst [])) H5 s3.heap s6.heap:=by
    have z:=I6.base;rw[ha] at z;exact z
   have os6:s6.os=s3.os:=by
    have z:=I6.os;rw[ha] at z;exact z
   have I7:Inv X pins σ H5 s6:=I3.call' os6 u6 I6.hok I6.bare fun b hb=>⟨(hf b hb).2.2.2.1,(hf b hb).2.1,(hf b hb).2.2.2.2.1,(hf b hb).2.2.2.2.2⟩
   refine hRR _ _ H5 s6 m6 I7 hn6' (by have z:=I6.free;rw[show (X.comp scope N a).env.locals=s3.heap.objs.size from aC] at z;exact z) (Nat.ne_of_gt hCl) I3.sz (fun x c e z=> ?_) (fun p hp z=> ?_) (I3.nofs (Nat.le_refl _)) qn
   ·obtain⟨v,q⟩:=I3.cell x c e;exact Nat.lt_irrefl _ (z ▸ q.lt)
   ·exact Nat.lt_irrefl _ (z ▸ Heap.lt_size (I3.pin p hp).1)
  ·refine zdR l5 (T.item (X.comp scope N a) rfl rfl rfl hcalm i [] s5 _ H5 NoE I5 (stat f5) t5 go) fun r s6 l6 ⟨u,hr,h6⟩=> ?_;subst hr;refine zdR l6 h6 fun _ s7 l7 ⟨x,H7,I7,r7,y7,t7,f7⟩=> ?_;have I7':=I7.pinned (stat f7) (T.obj _ _ t7);rw[List.nil_append] at I7';refine zdR l7 (hg a _ s7 _ H7 x u _ I7' r7 (step x H7 y7)) fun _ s8 l8 ⟨σ8,H8,I8,sub8,q8⟩=> ?_;refine zdR l8 (hc a _ s8 σ8 H8 _ I8 q8) fun ok s9 l9 ⟨H9,I9,q9⟩=> ?_;have back: ∀{σ':St} {H':Hp} {s':Shared},Inv (X.comp scope N a) (zdN fp s7.heap) σ' H' s'→Sub (zaW σ n js) σ'→Inv (X.comp scope N a) [] (zaW σ n js) H' s'∧tn (i+1) s'.heap∧ ∀b∈fp,H' b=none:=fun {σ' H' s'} I' sb=>by
    refine⟨(I'.pins_of fun p hp=>absurd hp (by simp)).weak sb.1 sb.2,T.keep _ _ _ t7 fun b hb o e=>(I'.pin (b,o) (List.mem_append_right _ (zch hb e))).1,fun b hb=> ?_⟩;obtain⟨o,e,d⟩:=T.obj _ _ t7 b hb;exact(I'.pin (b,o) (List.mem_append_right _ (zch hb e))).2.1
   cases ok with
   |false=>
    obtain⟨m',lt,w'⟩:=q9;obtain⟨b1,b2,b3⟩:=back I9 sub8;exact⟨m',lt,l9,i+1,xs,H9,b1,b2,b3,w'⟩
   |true=>
    refine zdR l9 (he a _ s9 σ8 H9 _ l9 I9 q9) fun y s10 l10 ⟨v,H10,I10,r10,hl10,m',lt,w'⟩=> ?_;refine zdR l10 (zcN (X:=X.comp scope N a) _ s10 σ8 H10 (.ref s₂.heap.objs.size) [v] _ [y] (fun _ H'=>H'=upd H10 s₂.heap.objs.size (.lst (xs++ [v]))) I10 rfl (.cons r10 .nil) ⟨_,xs,v,rfl,rfl,hl10,hz5,rfl⟩) fun _ s11 l11 ⟨_,H11,I11,_,e11⟩=> ?_;subst e11;obtain⟨b1,b2,b3⟩:=back I11 sub8;exact⟨m',lt,l11,i+1,_,_,b1,b2,b3,w'⟩
 have eE:{newEnv scope s3.heap.objs.size X.env.globals cl X.env.qual none Value.none (some X.env) builtinsNs with scope:=relabel scope X.env}=(X.comp scope N a).env:=by rw[ha];rfl
 have lp:=loop _ rfl;rw[←eE] at lp;have sf:=T.self X.A 0 {s3 with heap:=h₁,toks:=s3.toks} (fun it' s'=>codeAny (model X.prog X.w) X.A (.compLoop (.ListComp elt [⟨tg,iter,ifs,0⟩] scope pos) 0 it' (.ref s₂.heap.objs.size) {newEnv scope s3.heap.objs.size X.env.globals cl X.env.qual none Value.none (some X.env) builtinsNs with scope:=relabel scope X.env}) (RR (.ref s₂.heap.objs.size) s3.heap.objs.size) s')
  (notedBy (model X.prog X.w) X.A {newEnv scope s3.heap.objs.size X.env.globals cl X.env.qual none Value.none (some X.env) builtinsNs with scope:=relabel scope X.env} fun x s'=>RR (.ref s₂.heap.objs.size) s3.heap.objs.size (.error x) s') tn1 lp
 have fin:=codeAny_compStart_list lp sf;rw[hs3] at fin ⊢;exact fin
theorem zin{wi:TI}(cap:zdC X.env.scope.names X.N scope.names N n js=true)(hkind:scope.kind= .function)(hcalm:X.calm=true)(hi:PI X tg iter wi)
  (hg: ∀a,PG (X.comp scope N a) tg (g a)) (hc: ∀a,PIf (X.comp scope N a) ifs (tc a)) (he: ∀a,PEt (X.comp scope N a) elt (te a))
  (hs: ∀x,foldedSetIterable iter X.env x=pure x:=by intro _;rfl):PEt X (.ListComp elt [⟨tg,iter,ifs,0⟩] scope pos) (zdD n js wi g tc te):=by
 intro pins s σ H Q h0 I h;obtain⟨cl,hclos,hc1,hc2⟩:=zcT cap I;rw[eval_ListComp];refine wpAny_comprehension_free (use:=none) rfl hs hclos hkind (zci cap).2.2.1 (zdR h0 (hi pins s σ H _ I h) fun v s1 l1 h1=>zdR l1 h1 fun itv s2 l2 h2=> ?_);obtain⟨it,fp,tn,J,H2,rfl,I2,T,st2,f2,q⟩:=h2;refine zgA (RR:=fun acc C=>compPost (model X.prog X.w) X.A X.xe none (EP X pins σ Q) acc C) cap hkind hcalm hg hc he l2 I2 T st2 f2 hc1 hc2 q ?_;intro l C H' s' m I' hn hC hL hs0 hcell hpin hfs hq;exact⟨m,hn,fun h' hsb=>⟨.ref l,H',I'.turned (t':=s'.toks) (fun b o hb e=>(hsb.2 b hb).trans e) hC hL (.inr hs0) hcell hpin,rfl,hq⟩⟩
end
theorem FnOk.t{P:Program}{w:World}{K:Fg}{mg:Str→Option Value}{base:Heap}{CX:CXT}{k:Nat}{f:Addr}{fd:FuncData}{ps:List Str}{sp:Sp}(h:FnOk P w K mg base CX k f fd ps sp):FnOkT P w K mg base CX k f fd ps sp:=⟨h.len,fun A outer s H args us vs Q E _ r e b v q=>h.run A outer s H args us vs Q E r e b v q⟩
def PTm(X:Cx)(e:Expr)(t:TT):Prop:=
 ∀(pins:List (Addr×Obj)) (s:Shared) (σ:St) (H:Hp) (Q:Bool→Hp→Prop),Inv X pins σ H s→t σ H Q→wpAny (model X.prog X.w) X.A (isTrue e X.env (eval e X.env)) (fun b s'=>0<s'.toks∧TP X pins σ Q b s') X.xe s
section
variable {X:Cx} {a b c:Expr} {ta:TE} {tA tB' tc:TT} {u v:TS} {pos:PySem.Pos} {rest:List Expr}
theorem zi6{op:CmpOp}{r:R2}{n:Int}{j:Nat}{cp:PySem.Pos}(ho:OpR X (compareOp op) r)(ha:PE X a ta)(hm:behindInMarks op (.Constant (.int n) j cp)=false):PTm X (.Compare a [op] [.Constant (.int n) j cp] pos) (zbj (tOp r ta (tC (.int n)))):=by
 intro pins s σ H Q I h;refine wpAny_isTrue_Compare1 (thn (ha pins s σ H _ I h) fun v s1 ⟨x,H1,I1,r1,q1⟩=> ?_) hm;refine wpAny_Constant_int ?_;have I2:Inv X pins σ H1 {s1 with toks:=s1.toks+1}:=I1.tok _;refine wpAny_with_toks (n:=1) (by show 1≤s1.toks+1;omega) (wpAny_mono (ho pins _ σ H1 x (.int n) v _ _ I2 r1 ⟨_,rfl⟩ q1) (fun c s3 hc l3=> ?_) fun _ _ z _=>z);obtain⟨z,H3,I3,r3,k,e,q3⟩:=hc;subst e;cases r3;exact wpAny_truthy_bool ⟨by omega,H3,I3,q3⟩
theorem zj1(ha:PTm X a tA)(hb:PWt X (.BoolOp .Or (b::rest) pos) tB'):PTm X (.BoolOp .Or (a::b::rest) pos) (tOr tA tB'):=by
 intro pins s σ H Q I h;refine isTrue_or (thn (ha pins s σ H _ I h) fun c s1 ⟨l1,H1,I1,q1⟩=> ?_);cases c with
 |true=>exact⟨l1,H1,I1,q1⟩
 |false=>exact zdR l1 (hb _ pins s1 σ H1 Q l1 I1 q1) fun _ _ l2 z=>⟨l2,z⟩
theorem zj2{a b:List Stmt}(hc:PTm X c tc)(ha:PSst X a u)(hb:PSst X b v):PS X (.If c a b pos) (zbQ tc u v):=by
 intro pins s σ H D I h;refine wpAny_If (thn (hc pins s σ H _ I h) fun d s1 ⟨l1,H1,I1,q1⟩=> ?_);cases d with
 |true=>exact ha pins s1 σ H1 D l1 I1 q1
 |false=>exact hb pins s1 σ H1 D l1 I1 q1
theorem zf6{es:List Expr}{tl:TA}{x1}(h:PAt X es tl):PEt X (.Tuple es x1 pos) (zbl tl):=by
 intro pins s σ H Q h0 I hq;refine wpAny_Tuple_spliced (thn (h pos pins s σ H _ h0 I hq) fun us s1 ⟨xs,H1,I1,r,z,q⟩=>⟨by rw[←r.length];exact z,?_⟩);have hf:H1 s1.heap.objs.size=none:=I1.hok.fresh (Nat.le_refl _);refine⟨.ref s1.heap.objs.size,upd H1 s1.heap.objs.size (.tup xs),I1.laid (t':=s1.toks) (fun b u e=>Heap.get?_push_of_some _ e) (Nat.le_refl _) ?_,rfl,q.at hf⟩;exact⟨z,us,r,⟨_,Heap.get?_push_size _ rfl,rfl,_,rfl⟩⟩
end
end L2
namespace L2
open PySem PySem.Spec PyProof.Rows
def ItK(b:Bool)(h:Heap)(i l:Addr)(k:Nat):Prop:= ∃o,h.get? i=some o∧o.cls= .type (cond b "tuple_iterator" "list_iterator")∧o.data= .fields #[.ref l, .int k 0]
def SeK(b:Bool)(h:Heap)(l:Addr)(xs:Array Value):Prop:= ∃o,h.get? l=some o∧o.cls= .type (cond b "tuple" "list")∧ ∃n,o.data= .seq xs n
theorem ItK.at{b:Bool}{h h':Heap}{a l:Addr}{i:Nat}(x:ItK b h a l i)(e: ∀o,h.get? a=some o→h'.get? a=some o):ItK b h' a l i:=let ⟨o,ho,r⟩:=x;⟨o,e _ ho,r⟩
theorem SeK.at{b:Bool}{h h':Heap}{a:Addr}{xs:Array Value}(x:SeK b h a xs)(e: ∀o,h.get? a=some o→h'.get? a=some o):SeK b h' a xs:=let ⟨o,ho,r⟩:=x;⟨o,e _ ho,r⟩
theorem SeK.push{b:Bool}{h:Heap}{a:Addr}{xs:Array Value}(x:SeK b h a xs)(o:Obj):SeK b (h.push o) a xs:=x.at fun _ e=>Heap.get?_push_of_some o e
theorem ItK.lt{b:Bool}{h:Heap}{a l:Addr}{i:Nat}(x:ItK b h a l i):a<h.objs.size:=let ⟨_,e,_⟩:=x;Heap.lt_size e
section
variable {prog:Program} {w:World} {A:Around} {E:Value→Shared→Prop} {s:Shared} {b:Bool}
theorem zju{l:Addr}{xs:Array Value}{Q:Value→Shared→Prop}(hl:SeK b s.heap l xs)
  (hQ:Q (.ref s.heap.objs.size) {s with heap:=s.heap.push {cls:= .type (cond b "tuple_iterator" "list_iterator"),data:= .fields #[.ref l, .int 0 0]} }):wpAny (model prog w) A (pyIter (.ref l)) Q E s:=by
 cases b with
 |true=>exact wpAny_pyIter_tuple hl hQ
 |false=>exact wpAny_pyIter_list hl hQ
theorem zeG{it l:Addr}{i:Nat}{xs:Array Value}{x:Value}{Q:Value→Shared→Prop}(hit:ItK b s.heap it l i)(hl:SeK b s.heap l xs)(hx:xs[i]? =some x)
  (hQ: ∀h',ItK b h' it l (i+1)→Heap.SameBut it s.heap h'→Q x {s with heap:=h'}):wpAny (model prog w) A (Builtin.SmallTypes.nextOf (.ref it)) Q E s:=by
 cases b with
 |false=>exact wpAny_nextOf_list_item hit hl hx hQ
 |true=>
  have ty:s.TypeIs (.ref it) "tuple_iterator":=Heap.IsTupleIter.typeIs hit;obtain⟨o,ho,hc,hd⟩:=id hit;obtain⟨ol,hol,_,nl,hdl⟩:=hl;unfold Builtin.SmallTypes.nextOf;refine wpAny_bind (wpAny_callSpecial?_slot (name:=Str.ofString "__next__") ty F.slot_tuple_iterator_next (wpAny_call_entry F.slot_tuple_iterator_next ty F.entry_tuple_iterator_next ?_ (F.args_tuple_iterator_next_1 _)));show wpAny _ _ (field (.ref it) 0>>=_) _ _ s;refine wpAny_bind (wpAny_field ho hd (x:= .ref l) rfl ?_);show wpAny _ _ (if (Value.ref l==Value.none)=true then _ else _) _ _ s;rw[if_neg (show¬((Value.ref l==Value.none)=true) from Bool.false_ne_true)];show wpAny _ _ (field (.ref it) 1>>=_) _ _ s;refine wpAny_bind (wpAny_field ho hd (x:= .int i 0) rfl ?_);show wpAny _ _ (seqItems? (.ref l)>>=_) _ _ s;refine wpAny_bind (wpAny_seqItems hol hdl ?_);simp only[Int.toNat_natCast,hx];refine wpAny_bind (wpAny_setField ho hd (by simp) (wpAny_pure ⟨x,rfl,wpAny_pure (hQ _ ?_ (Heap.SameBut.update ..))⟩));exact⟨_,Heap.get?_update_self _ ho (Obj.isFreed_of_fields (Obj.data_mapFields hd _)),(Obj.cls_mapFields ..).trans hc,by rw[Obj.data_mapFields hd];simp [rawInt]⟩
theorem zhy{it l:Addr}{i:Nat}{xs:Array Value}{Q:Value→Shared→Prop}(hh:A.handled=none)(hit:ItK b s.heap it l i)(hl:SeK b s.heap l xs)(hx:xs[i]? =none)
  (hE: ∀h' e,Heap.ExtBut it s.heap h'→(∃o,h'.get? e=some o∧o.cls= .type "StopIteration")→E (.ref e) {s with heap:=h'}):wpAny (model prog w) A (Builtin.SmallTypes.nextOf (.ref it)) Q E s:=by
 cases b with
 |false=>exact wpAny_nextOf_list_end hh hit hl hx hE
 |true=>
  have ty:s.TypeIs (.ref it) "tuple_iterator":=Heap.IsTupleIter.typeIs hit;obtain⟨o,ho,hc,hd⟩:=id hit;obtain⟨ol,hol,_,nl,hdl⟩:=hl;unfold Builtin.SmallTypes.nextOf;refine wpAny_bind (wpAny_callSpecial?_slot (name:=Str.ofString "__next__") ty F.slot_tuple_iterator_next (wpAny_call_entry F.slot_tuple_iterator_next ty F.entry_tuple_iterator_next ?_ (F.args_tuple_iterator_next_1 _)));show wpAny _ _ (field (.ref it) 0>>=_) _ _ s;refine wpAny_bind (wpAny_field ho hd (x:= .ref l) rfl ?_);show wpAny _ _ (if (Value.ref l==Value.none)=true then _ else _) _ _ s;rw[if_neg (show¬((Value.ref l==Value.none)=true) from Bool.false_ne_true)];show wpAny _ _ (field (.ref it) 1>>=_) _ _ s;refine wpAny_bind (wpAny_field ho hd (x:= .int i 0) rfl ?_);show wpAny _ _ (seqItems? (.ref l)>>=_) _ _ s;refine wpAny_bind (wpAny_seqItems hol hdl ?_);simp only[Int.toNat_natCast,hx];refine wpAny_bind (wpAny_rule (wpAny_bind (wpAny_setField ho hd (by simp) ?_)));show wpAny _ _ (newExc (.type "StopIteration") []>>=_) _ _ _;refine wpAny_bind ?_;simp only[newExc,newTuple];refine wpAny_bind (wpAny_newObj_type ?_ (by size_fits));refine wpAny_bind (m:=firstArgMember _ _) (wpAny_of_eq (a:=Value.none) (by first|rfl|(simp only[firstArgMember];rfl)) ?_);refine wpAny_newObj_type ?_ (by size_fits);simp only[raiseNew];refine wpAny_bind (wpAny_handled ?_);first|rw[show A.in1.handled=none from hh]|rw[hh]
  refine wpAny_bind (wpAny_pure (wpAny_throw ?_));exact hE _ _ (((Heap.SameBut.update ..).extBut.push _).push _) ⟨_,Heap.get?_push_size _ rfl,rfl⟩
theorem zhz{z TI TO i1 i2 l1 l2:Addr}{k:Nat}{xs ys:Array Value}{x y u v:Value}{Q:Value→Shared→Prop}(D:ZipApart z TI TO i1 i2 l1 l2)
  (hz:IsZip s.heap z TI TO .none) (hTI:IsPair s.heap TI (.ref i1) (.ref i2)) (hTO:IsPair s.heap TO u v)
  (h1:ItK b s.heap i1 l1 k) (h2:ItK b s.heap i2 l2 k) (hl1:SeK b s.heap l1 xs) (hl2:SeK b s.heap l2 ys) (hx:xs[k]? =some x) (hy:ys[k]? =some y)
  (hQ: ∀h',IsZip h' z TI TO (rawInt s.heap.objs.size)→IsPair h' TO x y→ItK b h' i1 l1 (k+1)→ItK b h' i2 l2 (k+1)→IsPair h' s.heap.objs.size x y→
   (∀c o,c≠z→c≠TO→c≠i1→c≠i2→s.heap.get? c=some o→h'.get? c=some o)→Q (.ref s.heap.objs.size) {s with heap:=h'}):
  wpAny (model prog w) A (Builtin.«zip.__next__» ⟨[.ref z], []⟩) (fun fin s'=> ∃v,fin= .done (.ret v)∧Q v s') E s:=by
 show wpAny _ _ (field (.ref z) 2>>=_) _ _ _;refine wpAny_bind (wpAny_field hz rfl (x:= .bool false) rfl ?_);show wpAny _ _ (field (.ref z) 3>>=_) _ _ _;refine wpAny_bind (wpAny_field hz rfl (x:= .ref TI) rfl (wpAny_bind (wpAny_seqItems hTI rfl ?_)));show wpAny _ _ (Builtin.SmallTypes.ownedTupleIsFree (.ref z)>>=_) _ _ _;refine wpAny_bind ?_;unfold Builtin.SmallTypes.ownedTupleIsFree;refine wpAny_bind (wpAny_field hz rfl (x:= .none) rfl (wpAny_pure ?_));simp only[if_true];refine wpAny_bind (wpAny_rule (wpAny_bind (wpAny_field hz rfl (x:= .ref TO) rfl (wpAny_bind (wpAny_setField_rec hz (by simp) fun h₁ hz₁ hs₁=> ?_)))));replace hz₁:IsZip h₁ z TI TO .ellipsis:=hz₁;refine wpAny_bind ?_;simp only[List.zipIdx_cons,List.zipIdx_nil,List.forIn_cons,List.forIn_nil];refine wpAny_bind (wpAny_bind (wpAny_onRaise ?_));show wpAny _ _ (Builtin.SmallTypes.nextOf (.ref i1)>>=_) _ _ _;refine wpAny_bind (zeG (h1.at fun o=>hs₁.extBut _ o D.i1z) (hl1.at fun o=>hs₁.extBut _ o D.l1z) hx fun h₂ h1₂ hs₂=>wpAny_pure ?_);have hTO₂:IsPair h₂ TO u v:=hs₂.extBut _ _ D.TOi1 (hs₁.extBut _ _ D.TOz hTO);refine wpAny_bind (wpAny_seqItems hTO₂ rfl (wpAny_bind (wpAny_updateSeq_pair hTO₂ fun h₃ hTO₃ hs₃=> ?_)));replace hTO₃:IsPair h₃ TO x v:=hTO₃;refine wpAny_bind (wpAny_letGo (wpAny_pure (wpAny_bind (wpAny_bind (wpAny_onRaise ?_)))));show wpAny _ _ (Builtin.SmallTypes.nextOf (.ref i2)>>=_) _ _ _;have up3: ∀c o,c≠z→c≠i1→c≠TO→s.heap.get? c=some o→h₃.get? c=some o:=fun c o c1 c2 c3 e=>hs₃.extBut _ _ c3 (hs₂.extBut _ _ c2 (hs₁.extBut _ _ c1 e));refine wpAny_bind (zeG (h2.at fun o=>up3 _ o D.i2z D.i12.symm D.TOi2.symm) (hl2.at fun o=>up3 _ o D.l2z D.l2i1 D.l2TO) hy fun h₄ h2₄ hs₄=>wpAny_pure ?_);have hTO₄:IsPair h₄ TO x v:=hs₄.extBut _ _ D.TOi2 hTO₃;refine wpAny_bind (wpAny_seqItems hTO₄ rfl (wpAny_bind (wpAny_updateSeq_pair hTO₄ fun h₅ hTO₅ hs₅=> ?_)));replace hTO₅:IsPair h₅ TO x y:=hTO₅;refine wpAny_bind (wpAny_letGo (wpAny_pure (wpAny_pure (wpAny_bind (wpAny_seqItems hTO₅ rfl (wpAny_bind (wpAny_newTuple ?_)))))));have hsz:h₅.objs.size=s.heap.objs.size:=by rw[hs₅.1,hs₄.1,hs₃.1,hs₂.1,hs₁.1]
 have hz₅:IsZip h₅ z TI TO .ellipsis:=hs₅.extBut _ _ D.TOz.symm (hs₄.extBut _ _ D.i2z.symm (hs₃.extBut _ _ D.TOz.symm (hs₂.extBut _ _ D.i1z.symm hz₁)));have hk₅: ∀c o,c≠z→c≠TO→c≠i1→c≠i2→s.heap.get? c=some o→h₅.get? c=some o:=fun c o c1 c2 c3 c4 e=>hs₅.extBut _ _ c2 (hs₄.extBut _ _ c4 (up3 c o c1 c3 c2 e));have h1₅:ItK b h₅ i1 l1 (k+1):=h1₂.at fun o e=>hs₅.extBut _ _ D.TOi1.symm (hs₄.extBut _ _ D.i12 (hs₃.extBut _ _ D.TOi1.symm e));have h2₅:ItK b h₅ i2 l2 (k+1):=h2₄.at fun o e=>hs₅.extBut _ _ D.TOi2.symm e;have hzlt:z<h₅.objs.size:=Heap.lt_size hz₅;show wpAny _ _ (Builtin.SmallTypes.ownedTupleHandOut (.ref z) (.ref h₅.objs.size)>>=_) _ _ _;refine wpAny_bind ?_;unfold Builtin.SmallTypes.ownedTupleHandOut;have hz₆:IsZip (h₅.push {cls:= .type "tuple",data:= .seq #[x,y]}) z TI TO .ellipsis:=Heap.get?_push_of_some _ hz₅;refine wpAny_bind (wpAny_setField_rec hz₆ (by simp) fun h₇ hz₇ hs₇=> ?_);replace hz₇:IsZip h₇ z TI TO (rawInt h₅.objs.size):=hz₇;refine wpAny_setField_rec hz₇ (by simp) fun h₈ hz₈ hs₈=> ?_;replace hz₈:IsZip h₈ z TI TO (rawInt h₅.objs.size):=hz₈;have up: ∀c o,c≠z→h₅.get? c=some o→h₈.get? c=some o:=fun c o c1 e=>hs₈.extBut _ _ c1 (hs₇.extBut _ _ c1 (Heap.get?_push_of_some _ e));have hT₈:IsPair h₈ h₅.objs.size x y:=hs₈.extBut _ _ (Nat.ne_of_gt hzlt) (hs₇.extBut _ _ (Nat.ne_of_gt hzlt) (Heap.get?_push_size _ rfl));rw[hsz] at hz₈ hT₈;refine wpAny_pure ⟨_,rfl,?_⟩;show Q (.ref h₅.objs.size) _;rw[hsz];exact hQ h₈ hz₈ (up _ _ D.TOz hTO₅) (h1₅.at fun o e=>up _ o D.i1z e) (h2₅.at fun o e=>up _ o D.i2z e) hT₈ fun c o c1 c2 c3 c4 e=>up c o c1 (hk₅ c o c1 c2 c3 c4 e)
theorem zio{z TI TO i1 i2 l1 l2:Addr}{k:Nat}{xs:Array Value}{Q:Fin→Shared→Prop}(hh:A.handled=none)(D:ZipApart z TI TO i1 i2 l1 l2)
  (hz:IsZip s.heap z TI TO .none) (hTI:IsPair s.heap TI (.ref i1) (.ref i2)) (h1:ItK b s.heap i1 l1 k) (hl1:SeK b s.heap l1 xs) (hend:xs[k]? =none)
  (hE: ∀h' e,(∀c o,c≠z→c≠i1→s.heap.get? c=some o→h'.get? c=some o)→(∃o,h'.get? e=some o∧o.cls= .type "StopIteration")→E (.ref e) {s with heap:=h'}):
  wpAny (model prog w) A (Builtin.«zip.__next__» ⟨[.ref z], []⟩) Q E s:=by
 show wpAny _ _ (field (.ref z) 2>>=_) _ _ _;refine wpAny_bind (wpAny_field hz rfl (x:= .bool false) rfl ?_);show wpAny _ _ (field (.ref z) 3>>=_) _ _ _;refine wpAny_bind (wpAny_field hz rfl (x:= .ref TI) rfl (wpAny_bind (wpAny_seqItems hTI rfl ?_)));show wpAny _ _ (Builtin.SmallTypes.ownedTupleIsFree (.ref z)>>=_) _ _ _;refine wpAny_bind ?_;unfold Builtin.SmallTypes.ownedTupleIsFree;refine wpAny_bind (wpAny_field hz rfl (x:= .none) rfl (wpAny_pure ?_));simp only[if_true];refine wpAny_bind (wpAny_rule (wpAny_bind (wpAny_field hz rfl (x:= .ref TO) rfl (wpAny_bind (wpAny_setField_rec hz (by simp) fun h₁ hz₁ hs₁=> ?_)))));replace hz₁:IsZip h₁ z TI TO .ellipsis:=hz₁;refine wpAny_bind ?_;simp only[List.zipIdx_cons,List.zipIdx_nil,List.forIn_cons,List.forIn_nil];refine wpAny_bind (wpAny_bind (wpAny_onRaise ?_));show wpAny _ _ (Builtin.SmallTypes.nextOf (.ref i1)>>=_) _ _ _;refine wpAny_bind (zhy hh (h1.at fun o=>hs₁.extBut _ o D.i1z) (hl1.at fun o=>hs₁.extBut _ o D.l1z) hend fun h₂ e hs₂ he=> ?_);obtain⟨oe,hoe,hce⟩:=he;have hz₂:IsZip h₂ z TI TO .ellipsis:=hs₂ _ _ D.i1z.symm hz₁;have hez:e≠z:=fun x=>by subst x;rw[hz₂] at hoe;cases hoe;simp at hce
 exact wpAny_setField_rec hz₂ (by simp) fun h₃ _ hs₃=>hE h₃ e (fun c o c1 c3 x=>hs₃.extBut _ _ c1 (hs₂ _ _ c3 (hs₁.extBut _ _ c1 x))) ⟨oe,hs₃.extBut _ _ hez hoe,hce⟩
end
theorem zgB(b:Bool)(l1 l2:Addr)(xs ys:Array Value):
  Meets (Builtin.«zip.__new__» ⟨[.type "zip", .ref l1, .ref l2], []⟩) (fun _ R s=>SeK b s.heap l1 xs∧SeK b s.heap l2 ys∧
   ∀h',h'=((((s.heap.push {cls:= .type (cond b "tuple_iterator" "list_iterator"),data:= .fields #[.ref l1, .int 0 0]}).push {cls:= .type (cond b "tuple_iterator" "list_iterator"),data:= .fields #[.ref l2, .int 0 0]}).push {cls:= .type "tuple",data:= .seq #[.ref s.heap.objs.size, .ref (s.heap.objs.size+1)]}).push {cls:= .type "tuple",data:= .seq #[.none, .none]}).push {cls:= .type "zip",data:= .fields #[.none, .bool false, .bool false, .ref (s.heap.objs.size+2), .ref (s.heap.objs.size+3)]}→
    R (.ok (.ret (.ref (s.heap.objs.size+4)))) {s with heap:=h'}):=
 .of_wp fun prog w A R s h=>by
  obtain⟨hp,g,d,tk,os⟩:=s;obtain⟨hl1,hl2,h⟩:=h;have hsub:=sub_zip;have hL1:SeK b (Shared.heap ⟨hp,g,d,tk,os⟩) l1 xs:=hl1;have hL2:SeK b (Shared.heap ⟨hp.push {cls:= .type (cond b "tuple_iterator" "list_iterator"),data:= .fields #[.ref l1, .int 0 0]},g,d,tk,os⟩) l2 ys:=hl2.push _;wp_walk using zju hL1,zju hL2
  refine⟨_,rfl,?_⟩;have z:=h _ rfl;simp only[Heap.size_push] at z ⊢;exact z
section
variable {prog:Program} {w:World} {A:Around} {E:Value→Shared→Prop} {s:Shared} {b:Bool}
theorem zhA{l1 l2:Addr}{xs ys:Array Value}{Q:Value→Shared→Prop}(hl1:SeK b s.heap l1 xs)(hl2:SeK b s.heap l2 ys)
  (h: ∀h',IsZip h' (s.heap.objs.size+4) (s.heap.objs.size+2) (s.heap.objs.size+3) .none→IsPair h' (s.heap.objs.size+2) (.ref s.heap.objs.size) (.ref (s.heap.objs.size+1))→
   IsPair h' (s.heap.objs.size+3) .none .none→ItK b h' s.heap.objs.size l1 0→ItK b h' (s.heap.objs.size+1) l2 0→
   (∀c o,s.heap.get? c=some o→h'.get? c=some o)→Q (.ref (s.heap.objs.size+4)) {s with heap:=h'}):
  wpAny (model prog w) A (call (.type "zip") [.ref l1, .ref l2]) Q E s:=by
 refine callType_new F.called_zip (by decide) (F.typeCall_zip_2 _ _) (F.newCall_zip_2 _ _) (fun obj=>F.args_object_init_3 obj _ _) F.entry_zip_new (zgB b l1 l2 xs ys) ⟨hl1,hl2,fun h' e=> ?_⟩;have at_: ∀{hh:Heap} {o:Obj} {n:Nat},hh.objs.size=n→o.isFreed=false→(hh.push o).get? n=some o:=fun {hh o n} e f=>by subst e;exact Heap.get?_push_size _ f
 obtain⟨ha,ea⟩: ∃ha,ha=s.heap.push {cls:= .type (cond b "tuple_iterator" "list_iterator"),data:= .fields #[.ref l1, .int 0 0]}:=⟨_,rfl⟩
 obtain⟨hb,eb⟩: ∃hb,hb=ha.push {cls:= .type (cond b "tuple_iterator" "list_iterator"),data:= .fields #[.ref l2, .int 0 0]}:=⟨_,rfl⟩
 obtain⟨hc,ec⟩: ∃hc,hc=hb.push {cls:= .type "tuple",data:= .seq #[.ref s.heap.objs.size, .ref (s.heap.objs.size+1)]}:=⟨_,rfl⟩
 obtain⟨hd,ed⟩: ∃hd,hd=hc.push {cls:= .type "tuple",data:= .seq #[.none, .none]}:=⟨_,rfl⟩
 rw[←ea,←eb,←ec,←ed] at e;have za:ha.objs.size=s.heap.objs.size+1:=by rw[ea,Heap.size_push]
 have zb:hb.objs.size=s.heap.objs.size+2:=by rw[eb,Heap.size_push,za]
 have zc:hc.objs.size=s.heap.objs.size+3:=by rw[ec,Heap.size_push,zb]
 have zd:hd.objs.size=s.heap.objs.size+4:=by rw[ed,Heap.size_push,zc]
 have kd: ∀c o,hd.get? c=some o→h'.get? c=some o:=fun c o q=>by rw[e];exact Heap.get?_push_of_some _ q
 have kc: ∀c o,hc.get? c=some o→h'.get? c=some o:=fun c o q=>kd c o (by rw[ed];exact Heap.get?_push_of_some _ q);have kb: ∀c o,hb.get? c=some o→h'.get? c=some o:=fun c o q=>kc c o (by rw[ec];exact Heap.get?_push_of_some _ q);have ka: ∀c o,ha.get? c=some o→h'.get? c=some o:=fun c o q=>kb c o (by rw[eb];exact Heap.get?_push_of_some _ q);have g5:IsZip h' (s.heap.objs.size+4) (s.heap.objs.size+2) (s.heap.objs.size+3) .none:=by rw[e];exact at_ zd rfl
 show _∧_;exact⟨⟨_,g5,rfl⟩,h h' g5 (kc _ _ (by rw[ec];exact at_ zb rfl)) (kd _ _ (by rw[ed];exact at_ zc rfl)) ⟨_,ka _ _ (by rw[ea];exact at_ rfl rfl),rfl,rfl⟩ ⟨_,kb _ _ (by rw[eb];exact at_ za rfl),rfl,rfl⟩
  fun c o x=>ka c o (by rw[ea];exact Heap.get?_push_of_some _ x)⟩
end
def SqK(b:Bool)(K:Fg)(H:Hp)(a:Addr)(xs:List V):Prop:=(b=true∧SqT K H a xs)∨(b=false∧SqL K H a xs)
theorem SqK.same{b:Bool}{K:Fg}{H H':Hp}{a:Addr}{xs:List V}(h:SqK b K H a xs)(s:zau H H'):SqK b K H' a xs:=h.imp (fun q=>⟨q.1,s.sqT q.2⟩) fun q=>⟨q.1,s.seq q.2⟩
section
variable {X:Cx} {pins:List (Addr×Obj)} {σ:St} {H:Hp} {s:Shared} {b:Bool} {a:Addr} {xs ys:List V}
theorem Inv.seqK(I:Inv X pins σ H s)(h:SqK b X.K H a xs): ∃its:List Value,zaP xs its∧SeK b s.heap a its.toArray∧xs.length≤sizeLine:=by
 rcases h with⟨rfl,h⟩|⟨rfl,h⟩
 ·exact I.tuple h
 ·obtain⟨its,r,p,z⟩:=I.list h;exact⟨its,r,p.isList,z⟩
theorem Inv.seqK_inj(I:Inv X pins σ H s)(h:SqK b X.K H a xs)(h':SqK b X.K H a ys):xs=ys:=by
 rcases h with⟨rfl,h⟩|⟨rfl,h⟩<;>rcases h' with⟨e,h'⟩|⟨e,h'⟩
 ·exact I.tuple_inj h h'
 ·cases e
 ·cases e
 ·exact I.list_inj h h'
end
def zj3(b:Bool)(K:Fg)(a c:Addr):It:=
 ⟨fun i H=> ∃xs ys x y,SqK b K H a xs∧SqK b K H c ys∧xs[i]? =some x∧ys[i]? =some y,
  fun i H v H'=> ∃p,v= .ref p∧H p=none∧zau H H'∧ ∃x y,H' p=some (.tup [x,y])∧(∀xs,SqK b K H a xs→xs[i]? =some x)∧ ∀ys,SqK b K H c ys→ys[i]? =some y,
  fun i H=> ∃xs,SqK b K H a xs∧xs.length≤i⟩
theorem zhB{P:Program}{w:World}{K:Fg}{es:List Expr}{n:Nat}{ps:Pos}(b:Bool)(z TI TO i1 i2 l1 l2:Addr)(D:ZipApart z TI TO i1 i2 l1 l2):
  Turn P w K (.Tuple es n ps) (zj3 b K l1 l2) [z,TI,TO,i1,i2] z (fun i h=>IsZip h z TI TO .none∧IsPair h TI (.ref i1) (.ref i2)∧(∃a b,IsPair h TO a b)∧ItK b h i1 l1 i∧ItK b h i2 l2 i) where
 mem:=by simp
 obj:=fun i h st b hb=>by
  obtain⟨hz,hTI,⟨a,c,hTO⟩,⟨o1,e1,_,d1⟩,⟨o2,e2,_,d2⟩⟩:=st;have hb':b=z∨b=TI∨b=TO∨b=i1∨b=i2:=by simpa using hb
  rcases hb' with rfl|rfl|rfl|rfl|rfl
  ·exact⟨_,hz,fun v q=>by
    have q':Data.fields _=Data.cell v:=q;cases q'⟩
  ·exact⟨_,hTI,fun v q=>by
    have q':Data.seq _ _=Data.cell v:=q;cases q'⟩
  ·exact⟨_,hTO,fun v q=>by
    have q':Data.seq _ _=Data.cell v:=q;cases q'⟩
  ·exact⟨_,e1,fun v q=>by rw[d1] at q;cases q⟩
  ·exact⟨_,e2,fun v q=>by rw[d2] at q;cases q⟩
 keep:=fun i h h' st k=>by
  obtain⟨hz,hTI,⟨a,c,hTO⟩,h1,h2⟩:=st;exact⟨k z (by simp) _ hz,k TI (by simp) _ hTI,⟨a,c,k TO (by simp) _ hTO⟩,h1.at fun o e=>k i1 (by simp) o e,h2.at fun o e=>k i2 (by simp) o e⟩
 item:=by
  intro X hP hw hK hc i pins s σ H E I hf st hg;subst hP hw hK;obtain⟨xs,ys,x,y,hx,hy,ex,ey⟩:=hg;obtain⟨hz,hTI,⟨a,c,hTO⟩,h1,h2⟩:=st;obtain⟨us,rv,p,_⟩:=I.seqK hx;obtain⟨vs,rw',p',_⟩:=I.seqK hy;obtain⟨u,hu,ru⟩:=rv.get ex;obtain⟨v,hv,rv'⟩:=rw'.get ey;have ty:s.TypeIs (.ref z) "zip":=⟨_,hz,rfl⟩
  unfold pyNext;refine wpAny_bind (wpAny_attempt (wpAny_callSpecial?_slot (name:=Str.ofString "__next__") ty F.slot_zip_next (wpAny_call_entry F.slot_zip_next ty F.entry_zip_next
   (zhz D hz hTI hTO h1 h2 p p' (x:=u) (y:=v) (by simpa using hu) (by simpa using hv) fun h' a1 a2 a3 a4 a5 hk=>wpAny_pure ?_) (F.args_zip_next_1 _))))
  refine⟨_,rfl,wpAny_letOwnedTupleGo_zip (s:={s with heap:=h'}) a1 fun h2' hz' sb=> ?_⟩;have lt: ∀{c o},s.heap.get? c=some o→s.heap.objs.size≠c:=fun e=>Nat.ne_of_gt (Heap.lt_size e);have hp:=I.hok.fresh (Nat.le_refl s.heap.objs.size);have pr:IsPair h2' s.heap.objs.size u v:=sb.extBut _ _ (lt hz) a5;have I1:Inv X pins σ (upd H s.heap.objs.size (.tup [x,y])) {s with heap:=h2'}:=by
   refine I.laidL (ch:= [z,TO,i1,i2]) (t':=s.toks) (fun b hb=>hf b ?_) (fun b o hb e=> ?_) (Nat.le_refl _) ⟨zaz (by simp), [u,v], .cons ru (.cons rv' .nil),⟨_,pr,rfl,_,rfl⟩⟩
   ·have hb':b=z∨b=TO∨b=i1∨b=i2:=by simpa using hb
    rcases hb' with rfl|rfl|rfl|rfl<;>simp
   ·have hb': ¬(b=z∨b=TO∨b=i1∨b=i2):=fun q=>hb (by simpa using q);exact sb.extBut _ _ (fun q=>hb' (.inl q)) (hk b o (fun q=>hb' (.inl q)) (fun q=>hb' (.inr (.inl q))) (fun q=>hb' (.inr (.inr (.inl q)))) (fun q=>hb' (.inr (.inr (.inr q)))) e)
  refine⟨.ref s.heap.objs.size,_,I1,rfl,⟨_,rfl,hp,zcb hp _,x,y,zat,fun ws hw=> ?_,fun ws hw=> ?_⟩,⟨hz',sb.extBut _ _ D.TIz (hk _ _ D.TIz D.TITO D.TIi1 D.TIi2 hTI),⟨_,_,sb.extBut _ _ D.TOz a2⟩,a3.at fun o e=>sb.extBut _ _ D.i1z e,a4.at fun o e=>sb.extBut _ _ D.i2z e⟩,fun b hb=> ?_⟩
  ·rw[I.seqK_inj hw hx];exact ex
  ·rw[I.seqK_inj hw hy];exact ey
  ·have hb':b=z∨b=TI∨b=TO∨b=i1∨b=i2:=by simpa using hb
   have hs: ∃o,s.heap.get? b=some o:=by
    rcases hb' with rfl|rfl|rfl|rfl|rfl
    ·exact⟨_,hz⟩
    ·exact⟨_,hTI⟩
    ·exact⟨_,hTO⟩
    ·exact⟨_,h1.choose_spec.1⟩
    ·exact⟨_,h2.choose_spec.1⟩
   obtain⟨o,e⟩:=hs;rw[zaO (lt e).symm];exact(hf b hb).1
 done:=by
  intro X hP hw hK hc i pins s σ H E I hf st hg;subst hP hw hK;obtain⟨xs,hx,hl⟩:=hg;obtain⟨hz,hTI,⟨a,c,hTO⟩,h1,h2⟩:=st;obtain⟨us,rv,p,_⟩:=I.seqK hx;have e1:=rv.length;have ty:s.TypeIs (.ref z) "zip":=⟨_,hz,rfl⟩
  unfold pyNext;refine wpAny_bind (wpAny_attempt (wpAny_callSpecial?_slot (name:=Str.ofString "__next__") ty F.slot_zip_next (wpAny_call_entry F.slot_zip_next ty F.entry_zip_next
   (zio (I.ok.hd hc) D hz hTI h1 p (by simp;omega) fun h' e hk he=> ?_) (F.args_zip_next_1 _))))
  obtain⟨o,ho,hc'⟩:=he;refine wpAny_bind (wpAny_isInstance (T:="StopIteration") (b:=true) ⟨o,ho,hc'⟩ isSubtype_stop (wpAny_pure ⟨rfl,?_⟩));refine I.turnedL (ch:= [z,i1]) (t':=s.toks) (fun b hb=>hf b ?_) (fun b o hb e=> ?_)
  ·have hb':b=z∨b=i1:=by simpa using hb
   rcases hb' with rfl|rfl<;>simp
  ·have hb': ¬(b=z∨b=i1):=fun q=>hb (by simpa using q);exact hk b o (fun q=>hb' (.inl q)) (fun q=>hb' (.inr q)) e
 self:=fun _ _ _ _ _ st h=>wpAny_pyIter_zip st.1 h
def ziq(K:Fg)(ta:TA):TI:=fun σ H R=>ta σ H fun vs H1=> ∃b a c,vs= [.ref a, .ref c]∧(∃xs,SqK b K H1 a xs)∧(∃ys,SqK b K H1 c ys)∧R (zj3 b K a c) H1
theorem zg4{X:Cx}{es:List Expr}{n:Nat}{ps:Pos}{a b:Expr}{ta:TA}{p pos:Pos}(hg:Gl X "zip")(hm:X.mg "zip"=none)(ha:PA X [a,b] ta)(hs:starEach [a,b] X.env= [(false,eval a X.env),(false,eval b X.env)]:=by rfl)(hs2:starEach [b] X.env= [(false,eval b X.env)]:=by rfl):
  PI X (.Tuple es n ps) (.Call (.Name "zip" p) [a,b] [] pos) (ziq X.K ta):=by
 intro pins s σ H R I h;refine Call_ (zdM I hg hm boot_zip (PyProof.Rows.callWith_type1 (thn (ha pos pins s σ H _ I h) fun us s1 ⟨vs,H1,I1,r1,q1⟩=> ?_) (by rw[hs,hs2]) (by rw[hs2];rfl)));obtain⟨b,i,j,e,⟨xs,hx⟩,⟨ys,hy⟩,q⟩:=q1;subst e;cases r1 with
 |cons r rr=>
  cases rr with
  |cons r' rr=>
   cases rr;cases r;cases r';obtain⟨us,rv,pl,_⟩:=I1.seqK hx;obtain⟨vs,rw',pl',_⟩:=I1.seqK hy;have lt1:i<s1.heap.objs.size:=by
    obtain⟨o,e,_⟩:=pl;exact Heap.lt_size e
   have lt2:j<s1.heap.objs.size:=by
    obtain⟨o,e,_⟩:=pl';exact Heap.lt_size e
   refine zhA pl pl' fun h' hz hTI hTO hi1 hi2 hk=>wpAny_pyIter_zip hz ?_;have D:ZipApart (s1.heap.objs.size+4) (s1.heap.objs.size+2) (s1.heap.objs.size+3) s1.heap.objs.size (s1.heap.objs.size+1) i j:=zipApart_new lt1 lt2;refine⟨_, [s1.heap.objs.size+4,s1.heap.objs.size+2,s1.heap.objs.size+3,s1.heap.objs.size,s1.heap.objs.size+1],_,_,H1,rfl,I1.kept (t':=s1.toks) hk,zhB b _ _ _ _ _ _ _ D,⟨hz,hTI,⟨_,_,hTO⟩,hi1,hi2⟩,fun b hb=> ?_,q⟩;have hb':b=s1.heap.objs.size+4∨b=s1.heap.objs.size+2∨b=s1.heap.objs.size+3∨b=s1.heap.objs.size∨b=s1.heap.objs.size+1:=by simpa using hb
   have le:s1.heap.objs.size≤b:=by
    rcases hb' with rfl|rfl|rfl|rfl|rfl
    ·exact Nat.le_add_right _ _
    ·exact Nat.le_add_right _ _
    ·exact Nat.le_add_right _ _
    ·exact Nat.le_refl _
    ·exact Nat.le_add_right _ _
   exact I1.fpOk le (I1.hok.fresh le)
theorem zdU{b:Bool}{K:Fg}{a c l:Addr}{H1:Hp}{xs ys:List V}{σ0:St}{j k:Nat}{te:TE}{Q:VK}(Pv:Nat→List V→Prop)(hq:SqK b K H1 a xs)(hq':SqK b K H1 c ys)(hlen:xs.length=ys.length)(hl:H1 l=none)(hz:xs.length<sizeLine)
  (hsub: ∀v w:V,Sub σ0 ((σ0.set j (some v)).set k (some w))) (h0:Pv 0 [])
  (hs: ∀i x y ws H (K1:VK),xs[i]? =some x→ys[i]? =some y→zau H1 H→Pv i ws→(∀v H4,zau H H4→Pv (i+1) (ws++ [v])→K1 v H4)→te ((σ0.set j (some x)).set k (some y)) H K1)
  (hd: ∀ws H,zau H1 H→Pv xs.length ws→H l=some (.lst ws)→Q (.ref l) H):zeu (zj3 b K a c) σ0 (zkv K 2 (zbh (zbd j) (zbh (zbd k) zbV))) zbH te l Q H1:=by
 refine⟨fun i m ws H=>i≤xs.length∧m=xs.length - i∧zau H1 H∧Pv i ws∧ws.length≤i∧H l=some (.lst ws),⟨xs.length,Nat.zero_le _,by omega,zcb hl _,h0,Nat.le_refl _,zat⟩,?_⟩;rintro i m ws H ⟨hi,rfl,sm,pv,hx,e⟩;refine⟨e,Nat.lt_of_le_of_lt hx (by omega),?_⟩;by_cases hlt:i<xs.length
 ·have hlt':i<ys.length:=by omega
  refine .inr ⟨⟨xs,ys,xs[i],ys[i],hq.same sm,hq'.same sm,by simp [hlt],by simp [hlt']⟩,fun v H' yl=> ?_⟩;obtain⟨pp,rfl,_,s2,x,y,ep,ex,ey⟩:=yl;refine⟨pp, [x,y],rfl,SqT.of ep,rfl,x, [y],rfl,y, [],rfl,rfl,hsub _ _,?_⟩;refine hs i x y ws H' _ (ex xs (hq.same sm)) (ey ys (hq'.same sm)) (sm.trans s2) pv fun v H4 s4 p4=> ?_;exact⟨s4 _ _ (s2 _ _ e),xs.length - (i+1),by omega,hlt,rfl,zcO ((sm.trans s2).trans s4) hl,p4,by rw[List.length_append];simp only[List.length_cons,List.length_nil];omega,zat⟩
 ·obtain rfl:i=xs.length:=by omega
  exact .inl ⟨⟨xs,hq.same sm,Nat.le_refl _⟩,hd ws H sm pv e⟩
end L2
namespace L2
open PySem PySem.Spec PyProof.Rows
inductive TyV (H:Hp):V→String→Prop where
 |int (i:Int):TyV H (.int i) "int"
 |str (x:Str):TyV H (.str x) "str"
 |lst {a:Addr} {xs:List V} (e:H a=some (.lst xs)):TyV H (.ref a) "list"
 |tup {a:Addr} {xs:List V} (e:H a=some (.tup xs)):TyV H (.ref a) "tuple"
theorem zi7: ∀{ns:List String} {us:List Value},zaP (ns.map V.ty) us→us=ns.map Value.type:=by
 intro ns;induction ns with
 |nil=>intro us r;rw[List.map_nil] at r;cases r;rfl
 |cons C r ih=>
  intro us h;rw[List.map_cons] at h;cases h with
  |cons h1 h2=>
   rw[ih h2,show _=Value.type C from h1];rfl
theorem zfG{X:Cx}:zbI X (.builtin "isinstance") (fun xs H Q=> ∃x p n ns b,xs= [x, .ref p]∧TyV H x n∧H p=some (.tup (List.map V.ty ns))∧PySem.W.kitAny X.K (.type n) (ns.map Value.type)=some b∧Q (.bl b) H):=by
 intro pins s σ H xs us Q I r h;obtain⟨x,p,n,ns,b,rfl,ty,hp,e,q⟩:=h;obtain⟨u,u2,rfl,r1,r2⟩:=zgP r;cases (show u2=Value.ref p from r2);obtain⟨its,rv,⟨o,eo,hc,n',hd⟩,_⟩:=I.tuple (SqT.of (K:=X.K) hp);obtain⟨cls,dd,data,sl⟩:=o;simp only at hc hd;subst hc hd;obtain rfl:=zi7 rv;have fin: ∀tk,EP X pins σ Q (.bool b) {s with toks:=tk}:=fun tk=>⟨.bl b,H,I.tok tk,rfl,q⟩
 cases ty with
 |int i=>
  obtain⟨t,rfl⟩:=(show∃t,u=Value.int i t from r1)
  exact PySem.W.kia_tup PySem.W.kitx_int I.kIn True.intro eo e (fun z=>nomatch z) fin
 |str y=>
  obtain⟨t,rfl⟩:=(show∃t,u=Value.str y t from r1)
  exact PySem.W.kia_tup PySem.W.kitx_str I.kIn True.intro eo e (fun z=>nomatch z) fin
 | @lst a xs ea=>
  cases (show u=Value.ref a from r1);obtain⟨_,_,n,_,h1⟩:=(show zbm X.prog X.w H s.heap a (.lst xs) from I.hok a _ ea)
  exact PySem.W.kia_tup PySem.W.kitx_list I.kIn ⟨_,h1,rfl⟩ eo e (fun z=>nomatch z) fin
 | @tup a xs ea=>
  cases (show u=Value.ref a from r1);obtain⟨_,_,_,o,h1,h2,_⟩:=(show zbm X.prog X.w H s.heap a (.tup xs) from I.hok a _ ea)
  exact PySem.W.kia_tup PySem.W.kitx_tuple I.kIn ⟨o,h1,h2⟩ eo e (fun z=>nomatch z) fin
def Tk(H:Hp):Nat→D→V→Prop
 |0,_,_=>False
 |_+1, .int i,v=>v= .int i
 |_+1, .str cs,v=>v= .str (SL cs)
 |n+1, .tup ds,v=> ∃a xs,v= .ref a∧H a=some (.tup xs)∧xs.length≤100∧zc1 (Tk H n) ds xs
 |n+1, .lst ds,v=> ∃a xs,v= .ref a∧H a=some (.lst xs)∧xs.length≤100∧zc1 (Tk H n) ds xs
 |_+1,_,_=>False
theorem zc7{f:D→V→Prop}: ∀{ds:List D} {xs:List V},zc1 f ds xs→ ∀{i:Nat} {x:V},xs[i]? =some x→ ∃d,ds[i]? =some d∧f d x
 | [], [],_,_,_,e=>by simp at e
 |d::ds,x::xs,q,0,y,e=>⟨d,rfl,by rw[List.getElem?_cons_zero] at e;exact Option.some.inj e ▸ q.1⟩
 |d::ds,x::xs,q,i+1,y,e=>by
  rw[List.getElem?_cons_succ] at e;exact zc7 q.2 e
theorem Tk.same: ∀{n:Nat} {H H':Hp} {d:D} {v:V},Tk H n d v→zau H H'→Tk H' n d v
 |n+1,H,H', .int _,_,h,_=>h
 |n+1,H,H', .str _,_,h,_=>h
 |n+1,H,H', .tup _,_,h,s=>let ⟨a,xs,e,q,z,r⟩:=h;⟨a,xs,e,s _ _ q,z,zc5 (fun _ _ _ k=>Tk.same k s) r⟩
 |n+1,H,H', .lst _,_,h,s=>let ⟨a,xs,e,q,z,r⟩:=h;⟨a,xs,e,s _ _ q,z,zc5 (fun _ _ _ k=>Tk.same k s) r⟩
theorem Tk.int{H:Hp}{n:Nat}{i:Int}:Tk H (n+1) (.int i) (.int i):=rfl
theorem Tk.str{H:Hp}{n:Nat}{cs:List Nat}:Tk H (n+1) (.str cs) (.str (SL cs)):=rfl
theorem Tk.tup{H:Hp}{n:Nat}{a:Addr}{ds:List D}{xs:List V}(h:H a=some (.tup xs))(z:xs.length≤100)(q:zc1 (Tk H n) ds xs):Tk H (n+1) (.tup ds) (.ref a):=⟨a,xs,rfl,h,z,q⟩
theorem Tk.lst{H:Hp}{n:Nat}{a:Addr}{ds:List D}{xs:List V}(h:H a=some (.lst xs))(z:xs.length≤100)(q:zc1 (Tk H n) ds xs):Tk H (n+1) (.lst ds) (.ref a):=⟨a,xs,rfl,h,z,q⟩
end L2
namespace L2
open PySem PySem.Spec PyProof.Rows
theorem zeh{J:It}{H1:Hp}{ys:List V}{σ0:St}{g:TG}{te:TE}{l:Addr}{Q:VK}(us:List V)(L:Lists J H1 ys)(hlen:us.length=ys.length)(hl:H1 l=none)(hz:ys.length<sizeLine)
  (hs: ∀(i:Nat) x u H (K1:VK),ys[i]? =some x→us[i]? =some u→zau H1 H→(∀H4,zau H H4→K1 u H4)→g x σ0 H fun σ2 H2=>Sub σ0 σ2∧te σ2 H2 K1)
  (hd: ∀H,zau H1 H→H l=some (.lst us)→Q (.ref l) H):zeu J σ0 g zbH te l Q H1:=by
 refine zg1 (fun i xs _=>xs=us.take i) L hl hz (fun _ _=>rfl) (fun i x xs H K1 K0 hx sm pv _ k1 _=> ?_) (fun xs H sm pv _ e=>hd H sm ?_)
 ·have hi:i<us.length:=by rw[hlen];exact(List.getElem?_eq_some_iff.mp hx).1
  have hu:=List.getElem?_eq_getElem hi;have z:=hs i x us[i] H K1 hx hu sm fun H4 s4=>k1 _ H4 s4 fun _ _=>by rw[pv,List.take_add_one,hu];rfl
  simp only[zbH,if_true];exact z
 ·rw[e,pv,←hlen,List.take_length]
theorem zg5{J:It}{H1:Hp}{ys:List V}{σ0:St}{g:TG}{te:TE}{l:Addr}{Q:VK}(Φ:Nat→V→Hp→Prop)(L:Lists J H1 ys)(hl:H1 l=none)(hz:ys.length<sizeLine)
  (hs: ∀(i:Nat) x H (K1:VK),ys[i]? =some x→zau H1 H→(∀v H4,zau H H4→(∀H5,(∀b o,b≠l→H4 b=some o→H5 b=some o)→Φ i v H5)→K1 v H4)→H l≠none→g x σ0 H fun σ2 H2=>Sub σ0 σ2∧te σ2 H2 K1)
  (hk: ∀i v H H5,Φ i v H→(∀b o,b≠l→H b=some o→H5 b=some o)→Φ i v H5)
  (hd: ∀vs H,zau H1 H→vs.length=ys.length→(∀(i:Nat) v,vs[i]? =some v→Φ i v H)→H l=some (.lst vs)→Q (.ref l) H):zeu J σ0 g zbH te l Q H1:=by
 refine zg1 (fun i xs H=>xs.length=i∧ ∀(j:Nat) v,xs[j]? =some v→Φ j v H) L hl hz (fun _ _=>⟨rfl,fun j v e=>by simp at e⟩) (fun i x xs H K1 K0 hx sm pv el k1 _=> ?_) (fun xs H sm pv _ e=>hd xs H sm pv.1 pv.2 e);have z:=hs i x H K1 hx sm (fun v H4 s4 hv=>k1 v H4 s4 fun H5 h5=>⟨by rw[List.length_append,pv.1];rfl,fun j w ew=> ?_⟩) (by rw[el];exact fun z=>nomatch z)
 ·simp only[zbH,if_true];exact z
 ·by_cases c:j<xs.length
  ·rw[List.getElem?_append_left c] at ew;exact hk j w H H5 (pv.2 j w ew) fun b o hb e=>h5 b o hb (s4 b o e)
  ·have:j<(xs++ [v]).length:=(List.getElem?_eq_some_iff.mp ew).1;rw[List.length_append] at this;obtain rfl:j=i:=by
    simp only[List.length_cons,List.length_nil] at this;omega
   rw[←pv.1,List.getElem?_concat_length] at ew;cases ew;exact hv H5 h5
end L2
namespace Cal
def lp(y:Int):Int:=if y % 4=0∧(y % 100≠0∨y % 400=0) then 1 else 0
def dim(y m:Int):Int:=if m=2 then 28+lp y else if m=4∨m=6∨m=9∨m=11 then 30 else 31
def ahead(y:Int):Int:=(y - 1)*365+(y - 1) / 4 - (y - 1) / 100+(y - 1) / 400
def cum(y m:Int):Int:=
 if m≤1 then 0 else if m=2 then 31 else if m=3 then 59+lp y else if m=4 then 90+lp y else if m=5 then 120+lp y
 else if m=6 then 151+lp y else if m=7 then 181+lp y else if m=8 then 212+lp y else if m=9 then 243+lp y
 else if m=10 then 273+lp y else if m=11 then 304+lp y else if m=12 then 334+lp y else 365+lp y
def num(y m d:Int):Int:=ahead y+cum y m+d - 1
def Valid(y m d:Int):Prop:=1≤y∧y≤9999∧1≤m∧m≤12∧1≤d∧d≤dim y m
theorem lp_01(y:Int):0≤lp y∧lp y≤1:=by unfold lp;split<;>decide
theorem dim_bounds(y m:Int):28≤dim y m∧dim y m≤31:=by
 have:=lp_01 y;unfold dim;repeat' split
 all_goals omega
theorem cum_one(y:Int):cum y 1=0:=rfl
theorem cum_succ{y m:Int}(h1:1≤m)(h2:m≤12):cum y (m+1)=cum y m+dim y m:=by
 obtain⟨k,rfl⟩:=Int.eq_ofNat_of_zero_le (Int.le_trans (by decide:(0:Int)≤1) h1);match k,h1,h2 with
 |0,h,_=>exact absurd h (by decide)
 |1,_,_=>exact rfl
 |2,_,_=>exact Int.add_assoc 31 28 (lp y)
 |3,_,_=>exact(Int.add_right_comm 59 (lp y) 31).symm
 |4,_,_=>exact(Int.add_right_comm 90 (lp y) 30).symm
 |5,_,_=>exact(Int.add_right_comm 120 (lp y) 31).symm
 |6,_,_=>exact(Int.add_right_comm 151 (lp y) 30).symm
 |7,_,_=>exact(Int.add_right_comm 181 (lp y) 31).symm
 |8,_,_=>exact(Int.add_right_comm 212 (lp y) 31).symm
 |9,_,_=>exact(Int.add_right_comm 243 (lp y) 30).symm
 |10,_,_=>exact(Int.add_right_comm 273 (lp y) 31).symm
 |11,_,_=>exact(Int.add_right_comm 304 (lp y) 30).symm
 |12,_,_=>exact(Int.add_right_comm 334 (lp y) 31).symm
 |k+13,_,h=>exact absurd h (by omega)
theorem cum_13(y:Int):cum y 13=365+lp y:=by simp [cum]
theorem zgC(y m:Int):0≤cum y m:=by
 have l:=(lp_01 y).1;have q: ∀a:Int,0≤a→0≤a+lp y:=fun a h=>Int.add_nonneg h l;have z: ∀{p:Prop} [Decidable p] {a b:Int},0≤a→0≤b→0≤if p then a else b:=fun {p} _ {a b} g h=>by split<;>assumption
 exact z (by decide) (z (by decide) (z (q _ (by decide)) (z (q _ (by decide)) (z (q _ (by decide)) (z (q _ (by decide)) (z (q _ (by decide)) (z (q _ (by decide)) (z (q _ (by decide)) (z (q _ (by decide)) (z (q _ (by decide)) (z (q _ (by decide)) (q _ (by decide)))))))))))))
theorem q4(x:Int):(x+1) / 4=x / 4+if (x+1) % 4=0 then 1 else 0:=by split<;>omega
theorem zk4(x:Int):(x+1) / 100=x / 100+if (x+1) % 100=0 then 1 else 0:=by split<;>omega
theorem zk5(x:Int):(x+1) / 400=x / 400+if (x+1) % 400=0 then 1 else 0:=by split<;>omega
theorem zj4{x a b:Int}(k:Int)(e:b=a*k)(h:x % b=0):x % a=0:=by
 subst e;rw[←Int.emod_emod_of_dvd x (Int.dvd_mul_right a k),h,Int.zero_emod]
theorem zkL(y:Int):lp y=(if y % 4=0 then 1 else 0) - (if y % 100=0 then 1 else 0)+(if y % 400=0 then 1 else 0):=by
 unfold lp;by_cases c:y % 4=0
 ·by_cases d:y % 100=0
  ·by_cases e:y % 400=0
   ·rw[if_pos ⟨c, .inr e⟩,if_pos c,if_pos d,if_pos e];rfl
   ·rw[if_neg (fun h=>h.2.elim (fun h=>h d) e),if_pos c,if_pos d,if_neg e];rfl
  ·have e:y % 400≠0:=fun h=>d (zj4 4 rfl h);rw[if_pos ⟨c, .inl d⟩,if_pos c,if_neg d,if_neg e];rfl
 ·have d:y % 100≠0:=fun h=>c (zj4 25 rfl h);have e:y % 400≠0:=fun h=>c (zj4 100 rfl h);rw[if_neg (fun h=>c h.1),if_neg c,if_neg d,if_neg e];rfl
theorem zgD(y:Int):ahead (y+1)=ahead y+365+lp y:=by
 obtain⟨x,rfl⟩: ∃x,y=x+1:=⟨y - 1,(Int.sub_add_cancel y 1).symm⟩
 rw[zkL];unfold ahead;rw[Int.add_sub_cancel,Int.add_sub_cancel,q4,zk4,zk5,Int.add_mul,Int.one_mul];generalize x*365=p,x / 4=a,x / 100=b,x / 400=c,ite ((x+1) % 4=0) (1:Int) 0=d,ite ((x+1) % 100=0) (1:Int) 0=e,ite ((x+1) % 400=0) (1:Int) 0=f;clear x;omega
theorem zds{y z:Int}(h:y<z):ahead y+365+lp y≤ahead z:=by
 rw[←zgD];unfold ahead;omega
theorem zir{y m:Int}(h1:1≤m): ∀j:Nat,m+1+(j:Int)≤13→cum y (m+1)≤cum y (m+1+(j:Int))
 |0,_=>Int.le_of_eq (by rw[show m+1+((0:Nat):Int)=m+1 from Int.add_zero _])
 |j+1,h=>by
  have a:=zir (y:=y) h1 j (by omega);have b:=cum_succ (y:=y) (m:=m+1+(j:Int)) (by omega) (by omega);have c:=(dim_bounds y (m+1+(j:Int))).1;rw[show m+1+((j+1:Nat):Int)=m+1+(j:Int)+1 by omega,b];omega
theorem zeH{y m k:Int}(h1:1≤m)(h:m<k)(h2:k≤13):cum y m+dim y m≤cum y k:=by
 rw[←cum_succ h1 (by omega)]
 have:=zir (y:=y) h1 (k - (m+1)).toNat (by omega);rw[show m+1+((k - (m+1)).toNat:Int)=k by omega] at this;exact this
theorem in_year{y m d:Int}(h:Valid y m d):0≤cum y m+d - 1∧cum y m+d≤365+lp y:=by
 obtain⟨_,_,h3,h4,h5,h6⟩:=h;have a:=zgC y m;have b:=zeH (y:=y) h3 (show m<13 by omega) (by omega);rw[cum_13] at b;omega
theorem num_inj{y m d z k e:Int}(h:Valid y m d)(g:Valid z k e)(q:num y m d=num z k e):y=z∧m=k∧d=e:=by
 have a:=in_year h;have b:=in_year g;obtain⟨_,_,h3,h4,h5,h6⟩:=h;obtain⟨_,_,g3,g4,g5,g6⟩:=g;unfold num at q;have yz:y=z:=by
  rcases Int.lt_trichotomy y z with c|c|c
  ·have:=zds c;omega
  ·exact c
  ·have:=zds c;omega
 subst yz;have mk:m=k:=by
  rcases Int.lt_trichotomy m k with c|c|c
  ·have:=zeH (y:=y) h3 c (by omega);omega
  ·exact c
  ·have:=zeH (y:=y) g3 c (by omega);omega
 subst mk;exact⟨rfl,rfl,by omega⟩
theorem num_range{y m d:Int}(h:Valid y m d):0≤num y m d∧num y m d≤3652058:=by
 have a:=in_year h;obtain⟨h1,h2,_⟩:=h;have e1:ahead 1=0:=by decide
 have e2:ahead 10000=3652059:=by decide
 have b:=zds (y:=y) (z:=10000) (by omega);have c:ahead 1≤ahead y:=by unfold ahead;omega
 unfold num;omega
theorem zkM{R h f:Int}(f0:0≤f)(f1:f<24):lp (R*400+h*100+f*4+3+1)=1:=by
 unfold lp;rw[if_pos];exact⟨by omega,Or.inl (by omega)⟩
theorem zj5(R:Int):lp (R*400+3*100+24*4+3+1)=1:=by
 unfold lp;rw[if_pos];exact⟨by omega,Or.inr (by omega)⟩
def yearOf(n:Int):Int:=
 let r:=n % 146097
 let h:=min (r / 36524) 3
 let r2:=r - h*36524
 let c:=r2 % 1461
 n / 146097*400+h*100+r2 / 1461*4+min (c / 365) 3+1
theorem zk6{a h b:Int}(a0:0≤a)(a1:a<146097)(eh:h=min (a / 36524) 3)(eb:b=a - h*36524):0≤h∧h≤3∧0≤b∧b≤36524∧(h<3→b<36524):=by
 have q:=Int.emod_add_mul_ediv a 36524;have r:=Int.emod_nonneg a (by decide:(36524:Int)≠0);have t:=Int.emod_lt_of_pos a (by decide:(0:Int)<36524);generalize a / 36524=u at*;generalize a % 36524=v at*;by_cases c:u≤3
 ·rw[Int.min_eq_left c] at eh;subst eh;refine⟨by omega,c,by omega,by omega,fun _=>by omega⟩
 ·rw[Int.min_eq_right (by omega)] at eh;subst eh;refine⟨by decide,by decide,by omega,by omega,fun h=>absurd h (by decide)⟩
theorem zk7{b f c:Int}(b0:0≤b)(b1:b≤36524)(ef:f=b / 1461)(ec:c=b % 1461):0≤f∧f≤24∧0≤c∧c<1461∧b=1461*f+c:=by
 have q:=Int.emod_add_mul_ediv b 1461;have r:=Int.emod_nonneg b (by decide:(1461:Int)≠0);have t:=Int.emod_lt_of_pos b (by decide:(0:Int)<1461);rw[←ef,←ec] at q;rw[←ec] at r t;clear ef ec;refine⟨by omega,by omega,r,t,by omega⟩
theorem zk8{c o:Int}(c0:0≤c)(eo:o=min (c / 365) 3):0≤o∧o≤3∧365*o≤c∧(o<3→c<365*o+365):=by
 have q:=Int.emod_add_mul_ediv c 365;have r:=Int.emod_nonneg c (by decide:(365:Int)≠0);have t:=Int.emod_lt_of_pos c (by decide:(0:Int)<365);generalize c / 365=u at*;generalize c % 365=v at*;by_cases d:u≤3
 ·rw[Int.min_eq_left d] at eo;subst eo;refine⟨by omega,d,by omega,fun _=>by omega⟩
 ·rw[Int.min_eq_right (by omega)] at eo;subst eo;refine⟨by decide,by decide,by omega,fun h=>absurd h (by decide)⟩
theorem zis{x d q r:Int}(e:x=r+d*q)(r0:0≤r)(r1:r<d):x / d=q:=by
 rw[e,Int.add_mul_ediv_left _ _ (by omega),Int.ediv_eq_zero_of_lt r0 r1,Int.zero_add]
theorem zi8{R h f o:Int}(h0:0≤h)(h3:h≤3)(f0:0≤f)(f1:f≤24)(o0:0≤o)(o3:o≤3):ahead (R*400+h*100+f*4+o+1)=146097*R+36524*h+1461*f+365*o:=by
 unfold ahead;rw[Int.add_sub_cancel,zis (d:=4) (q:=100*R+25*h+f) (r:=o) (by clear h0 h3 f0 f1 o0 o3;omega) o0 (by omega),
  zis (d:=100) (q:=4*R+h) (r:=f*4+o) (by clear h0 h3 f0 f1 o0 o3;omega) (by clear h0 h3;omega) (by clear h0 h3;omega),
  zis (d:=400) (q:=R) (r:=h*100+f*4+o) (by clear h0 h3 f0 f1 o0 o3;omega) (by omega) (by omega)]
 clear h0 h3 f0 f1 o0 o3;omega
theorem zkN(R h f:Int):146097*R+36524*h+1461*f+1460<146097*R+36524*h+1461*f+365*3+365+1:=by omega
theorem yearOf_spec{n:Int}(h0:0≤n)(h1:n≤3652058):1≤yearOf n∧yearOf n≤9999∧ahead (yearOf n)≤n∧n<ahead (yearOf n)+365+lp (yearOf n):=by
 have a0:=Int.emod_nonneg n (by decide:(146097:Int)≠0);have a1:=Int.emod_lt_of_pos n (by decide:(0:Int)<146097);have en:=Int.emod_add_mul_ediv n 146097;obtain⟨H,eh⟩: ∃h,h=min (n % 146097 / 36524) 3:=⟨_,rfl⟩
 obtain⟨b,eb⟩: ∃b,b=n % 146097 - H*36524:=⟨_,rfl⟩
 obtain⟨o,eo⟩: ∃o,o=min (b % 1461 / 365) 3:=⟨_,rfl⟩
 have ey:yearOf n=n / 146097*400+H*100+b / 1461*4+o+1:=by
  rw[eo,eb,eh];rfl
 obtain⟨p1,p2,p3,p4,p5⟩:=zk6 a0 a1 eh eb;obtain⟨r1,r2,r3,r4,r5⟩:=zk7 p3 p4 rfl rfl;obtain⟨t1,t2,t3,t4⟩:=zk8 r3 eo;rw[ey,zi8 p1 p2 r1 r2 t1 t2];clear ey eo eh;generalize n / 146097=R at*;generalize n % 146097=a at*;generalize b / 1461=f at*;generalize b % 1461=c at*;have R0:0≤R:=by clear p1 p2 p3 p4 p5 r1 r2 r3 r4 r5 t1 t2 t3 t4 eb;omega
 have R1:R≤24:=by clear p1 p2 p3 p4 p5 r1 r2 r3 r4 r5 t1 t2 t3 t4 eb;omega
 have e2:n=146097*R+36524*H+1461*f+c:=by clear p1 p2 p3 p4 p5 r1 r2 r3 r4 t1 t2 t3 t4;omega
 clear h0 a0 a1 en eb p3 p4;have l:=(lp_01 (R*400+H*100+f*4+o+1)).1;refine⟨by clear h1 e2 t3 t4 r5 p5 l R1 p2 r2 t2 r3 r4;omega,by clear R0 p1 r1 t1 l t4 p5 r5 r3 r4;omega,by rw[e2];exact Int.add_le_add_left t3 _,?_⟩;clear h1;by_cases z:o<3
 ·have:=t4 z;clear t4 p5 p1 p2 r1 r2;omega
 ·by_cases z2:c<1460
  ·clear t4 p5 p1 p2 r1 r2;omega
  ·obtain rfl:o=3:=Int.le_antisymm t2 (Int.not_lt.mp z);have c0:c=1460:=by clear p5 e2 r5 t3 t4;omega
   by_cases z3:f<24
   ·rw[zkM r1 z3,e2,c0];exact zkN R H f
   ·obtain rfl:f=24:=Int.le_antisymm r2 (Int.not_lt.mp z3);obtain rfl:H=3:=by
     rcases Int.lt_or_le H 3 with d|d
     ·have:=p5 d;clear p5 t4;omega
     ·exact Int.le_antisymm p2 d
    rw[zj5,e2,c0];exact zkN R 3 24
theorem zd6{y r:Int}(h0:0≤r): ∀k:Nat,k<13→r<cum y ((k:Int)+1)→ ∃m,1≤m∧m≤12∧cum y m≤r∧r<cum y m+dim y m
 |0,_,h=>by
  have e:cum y (((0:Nat):Int)+1)=0:=rfl;omega
 |k+1,hk,h=>by
  by_cases c:r<cum y ((k:Int)+1)
  ·exact zd6 h0 k (by omega) c
  ·have s:=cum_succ (y:=y) (m:=(k:Int)+1) (by omega) (by omega);have e:((k+1:Nat):Int)+1=(k:Int)+1+1:=by omega
   rw[e,s] at h;exact⟨(k:Int)+1,by omega,by omega,by omega,h⟩
theorem zfH{y r:Int}(h0:0≤r)(h1:r<365+lp y): ∃m,1≤m∧m≤12∧cum y m≤r∧r<cum y m+dim y m:=
 zd6 h0 12 (by decide) (by
                  have e:cum y (((12:Nat):Int)+1)=365+lp y:=cum_13 y;omega)
theorem date_exists{n:Int}(h0:0≤n)(h1:n≤3652058): ∃y m d,Valid y m d∧num y m d=n:=by
 obtain⟨a,b,c,d⟩:=yearOf_spec h0 h1;obtain⟨m,m1,m2,m3,m4⟩:=zfH (y:=yearOf n) (r:=n - ahead (yearOf n)) (by omega) (by omega);exact⟨yearOf n,m,n - ahead (yearOf n) - cum (yearOf n) m+1,⟨a,b,m1,m2,by omega,by omega⟩,by unfold num;omega⟩
end Cal
namespace Cal
end Cal
namespace Cal
def zj6(y m k:Int):Int:=(y*12+m - 1+k) / 12
def zj7(y m k:Int):Int:=(y*12+m - 1+k) % 12+1
def zk9(y m d k:Int):Int:=if dim (zj6 y m k) (zj7 y m k)<d then dim (zj6 y m k) (zj7 y m k) else d
end Cal
namespace Cal
open Classical in
noncomputable def mon(n k:Int):Int:=
 if h: ∃p:Int×Int×Int,Valid p.1 p.2.1 p.2.2∧num p.1 p.2.1 p.2.2=n then
  num (zj6 (choose h).1 (choose h).2.1 k) (zj7 (choose h).1 (choose h).2.1 k) (zk9 (choose h).1 (choose h).2.1 (choose h).2.2 k) else 0
noncomputable def beg(f:Int)(dy:Bool)(c k:Int):Int:=if dy=true then f+k*c else mon f (k*c)
end Cal
namespace K80
open PySem L2
seal L2.PE L2.PA L2.PS L2.PSs L2.PT L2.PW L2.PG L2.PGs L2.PI L2.PO L2.PIf L2.PK L2.PEt L2.PAt L2.PSt L2.PSst L2.PTt L2.PWt L2.PEm L2.PSm L2.PC
def top(i:Nat):Stmt:=PySem.Challenge.pw_paidspan_k80_accounts_written.main.body.getD i (.Pass ⟨0,0,0,0⟩)
abbrev s_00:Stmt:=top 7
abbrev s_01:Stmt:=top 8
abbrev s_02:Stmt:=top 17
abbrev s_03:Stmt:=top 18
abbrev s_04:Stmt:=top 19
abbrev s_05:Stmt:=top 20
abbrev s_06:Stmt:=top 21
abbrev s_07:Stmt:=top 22
abbrev s_08:Stmt:=top 31
abbrev s_09:Stmt:=top 32
abbrev s_0a:Stmt:=top 33
abbrev s_0b:Stmt:=top 34
abbrev s_0c:Stmt:=top 35
abbrev s_0d:Stmt:=top 36
abbrev s_0e:Stmt:=top 39
abbrev s_0f:Stmt:=top 40
abbrev s_0g:Stmt:=top 41
abbrev s_0h:Stmt:=top 44
abbrev s_0i:Stmt:=top 45
abbrev s_0j:Stmt:=top 46
abbrev s_0k:Stmt:=top 49
abbrev s_0l:Stmt:=top 50
abbrev s_0m:Stmt:=top 51
abbrev s_0n:Stmt:=top 54
abbrev s_0o:Stmt:=top 55
abbrev s_0p:Stmt:=top 56
abbrev s_0q:Stmt:=top 57
abbrev s_0r:Stmt:=top 58
abbrev s_0s:Stmt:=top 59
abbrev s_0t:Stmt:=top 60
abbrev s_0u:Stmt:=top 61
abbrev s_0v:Stmt:=top 63
abbrev s_0w:Stmt:=top 64
abbrev s_0x:Stmt:=top 65
abbrev s_0y:Stmt:=top 66
abbrev s_0z:Stmt:=top 67
abbrev s_10:Stmt:=top 68
abbrev s_11:Stmt:=top 69
abbrev s_12:Stmt:=top 70
abbrev s_13:Stmt:=top 71
abbrev s_14:Stmt:=top 72
abbrev s_15:Stmt:=top 73
abbrev s_16:Stmt:=top 74
abbrev s_17:Stmt:=top 75
theorem st_0:Str.ofString "days"=SL [100,97,121,115]:=by decide+kernel
theorem st_1:Str.ofString "months"=SL [109,111,110,116,104,115]:=by decide+kernel
theorem st_11:Str.ofString "-"=SL [45]:=by decide+kernel
theorem st_14:Str.ofString ""=SL []:=by decide+kernel
theorem st_15:Str.ofString "."=SL [46]:=by decide+kernel
theorem st_19:Str.ofString "0"=SL [48]:=by decide+kernel
theorem st_20:Str.ofString "N"=SL [78]:=by decide+kernel
theorem st_21:Str.ofString " "=SL [32]:=by decide+kernel
theorem st_22:Str.ofString " per "=SL [32,112,101,114,32]:=by decide+kernel
theorem st_23:Str.ofString "plan "=SL [112,108,97,110,32]:=by decide+kernel
theorem st_24:Str.ofString "places "=SL [112,108,97,99,101,115,32]:=by decide+kernel
theorem st_25:Str.ofString "first "=SL [102,105,114,115,116,32]:=by decide+kernel
theorem st_26:Str.ofString "every "=SL [101,118,101,114,121,32]:=by decide+kernel
theorem st_27:Str.ofString "\n"=SL [10]:=by decide+kernel
theorem st_28:Str.ofString "places N"=SL [112,108,97,99,101,115,32,78]:=by decide+kernel
theorem st_29:Str.ofString "every N days"=SL [101,118,101,114,121,32,78,32,100,97,121,115]:=by decide+kernel
theorem st_30:Str.ofString "every N months"=SL [101,118,101,114,121,32,78,32,109,111,110,116,104,115]:=by decide+kernel
theorem st_31:Str.ofString "plan NAME PRICE"=SL [112,108,97,110,32,78,65,77,69,32,80,82,73,67,69]:=by decide+kernel
theorem st_32:Str.ofString "plan NAME PRICE per N"=SL [112,108,97,110,32,78,65,77,69,32,80,82,73,67,69,32,112,101,114,32,78]:=by decide+kernel
theorem st_33:Str.ofString "first DATE"=SL [102,105,114,115,116,32,68,65,84,69]:=by decide+kernel
theorem st_35:Str.ofString "abcdefghijklmnopqrstuvwxyz"=SL [97,98,99,100,101,102,103,104,105,106,107,108,109,110,111,112,113,114,115,116,117,118,119,120,121,122]:=by decide+kernel
theorem st_36:Str.ofString "from"=SL [102,114,111,109]:=by decide+kernel
theorem st_37:Str.ofString "per"=SL [112,101,114]:=by decide+kernel
theorem st_38:Str.ofString "plan"=SL [112,108,97,110]:=by decide+kernel
theorem st_39:Str.ofString "seats"=SL [115,101,97,116,115]:=by decide+kernel
theorem st_40:Str.ofString "hold"=SL [104,111,108,100]:=by decide+kernel
theorem st_41:Str.ofString "go"=SL [103,111]:=by decide+kernel
theorem st_42:Str.ofString "stop"=SL [115,116,111,112]:=by decide+kernel
theorem st_43:Str.ofString "last"=SL [108,97,115,116]:=by decide+kernel
theorem st_44:Str.ofString "undo"=SL [117,110,100,111]:=by decide+kernel
theorem st_45:Str.ofString "grant"=SL [103,114,97,110,116]:=by decide+kernel
theorem st_46:Str.ofString "back"=SL [98,97,99,107]:=by decide+kernel
theorem st_47:Str.ofString "none"=SL [110,111,110,101]:=by decide+kernel
theorem st_48:Str.ofString "state"=SL [115,116,97,116,101]:=by decide+kernel
theorem st_49:Str.ofString "span"=SL [115,112,97,110]:=by decide+kernel
theorem st_50:Str.ofString "lines"=SL [108,105,110,101,115]:=by decide+kernel
theorem st_51:Str.ofString "sums"=SL [115,117,109,115]:=by decide+kernel
theorem st_52:Str.ofString "moved"=SL [109,111,118,101,100]:=by decide+kernel
theorem st_53:Str.ofString "first"=SL [102,105,114,115,116]:=by decide+kernel
theorem st_54:Str.ofString "every"=SL [101,118,101,114,121]:=by decide+kernel
theorem st_55:Str.ofString "places"=SL [112,108,97,99,101,115]:=by decide+kernel
theorem st_56:Str.ofString "entry"=SL [101,110,116,114,121]:=by decide+kernel
theorem st_57:Str.ofString "a"=SL [97]:=by decide+kernel
set_option genInjectivity false in
set_option genSizeOf false in
structure Adr where
 a_00:Addr
 d_00:FuncData
 a_01:Addr
 d_01:FuncData
 a_02:Addr
 d_02:FuncData
 a_03:Addr
 d_03:FuncData
 a_04:Addr
 d_04:FuncData
 a_05:Addr
 d_05:FuncData
 a_06:Addr
 d_06:FuncData
 a_07:Addr
 d_07:FuncData
 a_08:Addr
 d_08:FuncData
 a_09:Addr
 d_09:FuncData
 a_0a:Addr
 d_0a:FuncData
 a_0b:Addr
 d_0b:FuncData
 a_0c:Addr
 d_0c:FuncData
 a_0d:Addr
 d_0d:FuncData
 a_0e:Addr
 d_0e:FuncData
 a_0f:Addr
 d_0f:FuncData
 a_0g:Addr
 d_0g:FuncData
 a_0h:Addr
 d_0h:FuncData
 a_0i:Addr
 d_0i:FuncData
 a_0j:Addr
 d_0j:FuncData
 a_0k:Addr
 d_0k:FuncData
 a_0l:Addr
 d_0l:FuncData
 a_0m:Addr
 d_0m:FuncData
 a_0n:Addr
 d_0n:FuncData
 a_0o:Addr
 d_0o:FuncData
 a_0p:Addr
 d_0p:FuncData
 a_0q:Addr
 d_0q:FuncData
 a_0r:Addr
 d_0r:FuncData
 a_0s:Addr
 d_0s:FuncData
 a_0t:Addr
 d_0t:FuncData
 a_0u:Addr
 d_0u:FuncData
 a_0v:Addr
 d_0v:FuncData
 a_0w:Addr
 d_0w:FuncData
 a_0x:Addr
 d_0x:FuncData
 a_0y:Addr
 d_0y:FuncData
 a_0z:Addr
 d_0z:FuncData
 a_10:Addr
 d_10:FuncData
 a_11:Addr
 d_11:FuncData
 a_12:Addr
 d_12:FuncData
 a_13:Addr
 d_13:FuncData
 a_14:Addr
 d_14:FuncData
 a_15:Addr
 d_15:FuncData
 a_16:Addr
 d_16:FuncData
 a_17:Addr
 d_17:FuncData
 c_Z0l:Addr
 c_Z0i:Addr
 c_Z0h:Addr
 c_Z0g:Addr
 c_Z0j:Addr
structure Txt (K:Fg) (mg:Str→Option Value) (t:Adr):Prop where
 mg_00:mg "is_whole"=some (.ref t.a_00)
 fn_00:Fun K "is_whole" "is_whole" s_00 t.a_00 t.d_00
 b_00:zaA K t.d_00 ["value"] []
 mg_01:mg "is_whole_between"=some (.ref t.a_01)
 fn_01:Fun K "is_whole_between" "is_whole_between" s_01 t.a_01 t.d_01
 b_01:zaA K t.d_01 ["value","least","greatest"] []
 mg_02:mg "is_name"=some (.ref t.a_02)
 fn_02:Fun K "is_name" "is_name" s_02 t.a_02 t.d_02
 b_02:zaA K t.d_02 ["value"] []
 mg_03:mg "is_price"=some (.ref t.a_03)
 fn_03:Fun K "is_price" "is_price" s_03 t.a_03 t.d_03
 b_03:zaA K t.d_03 ["value"] []
 mg_04:mg "is_plan"=some (.ref t.a_04)
 fn_04:Fun K "is_plan" "is_plan" s_04 t.a_04 t.d_04
 b_04:zaA K t.d_04 ["plan"] []
 mg_05:mg "is_cycle"=some (.ref t.a_05)
 fn_05:Fun K "is_cycle" "is_cycle" s_05 t.a_05 t.d_05
 b_05:zaA K t.d_05 ["cycle"] []
 mg_06:mg "check_plans"=some (.ref t.a_06)
 fn_06:Fun K "check_plans" "check_plans" s_06 t.a_06 t.d_06
 b_06:zaA K t.d_06 ["plans"] []
 mg_07:mg "check_account"=some (.ref t.a_07)
 fn_07:Fun K "check_account" "check_account" s_07 t.a_07 t.d_07
 b_07:zaA K t.d_07 ["account"] []
 mg_08:mg "has_leap_day"=some (.ref t.a_08)
 fn_08:Fun K "has_leap_day" "has_leap_day" s_08 t.a_08 t.d_08
 b_08:zaA K t.d_08 ["year"] []
 mg_09:mg "days_in"=some (.ref t.a_09)
 fn_09:Fun K "days_in" "days_in" s_09 t.a_09 t.d_09
 b_09:zaA K t.d_09 ["year","month"] []
 mg_0a:mg "days_ahead_of_year"=some (.ref t.a_0a)
 fn_0a:Fun K "days_ahead_of_year" "days_ahead_of_year" s_0a t.a_0a t.d_0a
 b_0a:zaA K t.d_0a ["year"] []
 mg_0b:mg "day_of"=some (.ref t.a_0b)
 fn_0b:Fun K "day_of" "day_of" s_0b t.a_0b t.d_0b
 b_0b:zaA K t.d_0b ["year","month","day"] []
 mg_0c:mg "year_of"=some (.ref t.a_0c)
 fn_0c:Fun K "year_of" "year_of" s_0c t.a_0c t.d_0c
 b_0c:zaA K t.d_0c ["number"] []
 mg_0d:mg "date_of"=some (.ref t.a_0d)
 fn_0d:Fun K "date_of" "date_of" s_0d t.a_0d t.d_0d
 b_0d:zaA K t.d_0d ["number"] []
 mg_0e:mg "show_date"=some (.ref t.a_0e)
 fn_0e:Fun K "show_date" "show_date" s_0e t.a_0e t.d_0e
 b_0e:zaA K t.d_0e ["number"] []
 mg_0f:mg "read_figures"=some (.ref t.a_0f)
 fn_0f:Fun K "read_figures" "read_figures" s_0f t.a_0f t.d_0f
 b_0f:zaA K t.d_0f ["text"] []
 mg_0g:mg "read_date"=some (.ref t.a_0g)
 fn_0g:Fun K "read_date" "read_date" s_0g t.a_0g t.d_0g
 b_0g:zaA K t.d_0g ["text"] []
 mg_0h:mg "show_amount"=some (.ref t.a_0h)
 fn_0h:FunD K "show_amount" "show_amount" s_0h t.a_0h t.d_0h
 b_0h:zaA K t.d_0h ["amount","places"] []
 bd_0h: ∃tk,zaA K t.d_0h ["amount","places"] [.int 2 tk]
 kb_0h:KBinds K t.d_0h ["amount","places"] ["places"] kwG kwG
 mg_0i:mg "only_figures"=some (.ref t.a_0i)
 fn_0i:Fun K "only_figures" "only_figures" s_0i t.a_0i t.d_0i
 b_0i:zaA K t.d_0i ["text"] []
 mg_0j:mg "read_amount"=some (.ref t.a_0j)
 fn_0j:FunD K "read_amount" "read_amount" s_0j t.a_0j t.d_0j
 b_0j:zaA K t.d_0j ["text","places"] []
 bd_0j: ∃tk,zaA K t.d_0j ["text","places"] [.int 2 tk]
 kb_0j:KBinds K t.d_0j ["text","places"] ["places"] kwG kwG
 mg_0k:mg "is_number"=some (.ref t.a_0k)
 fn_0k:Fun K "is_number" "is_number" s_0k t.a_0k t.d_0k
 b_0k:zaA K t.d_0k ["word"] []
 mg_0l:mg "fits_word"=some (.ref t.a_0l)
 fn_0l:Fun K "fits_word" "fits_word" s_0l t.a_0l t.d_0l
 b_0l:zaA K t.d_0l ["kind","word"] []
 mg_0m:mg "fits_form"=some (.ref t.a_0m)
 fn_0m:Fun K "fits_form" "fits_form" s_0m t.a_0m t.d_0m
 b_0m:zaA K t.d_0m ["form","words"] []
 mg_0n:mg "show_plan"=some (.ref t.a_0n)
 fn_0n:Fun K "show_plan" "show_plan" s_0n t.a_0n t.d_0n
 b_0n:zaA K t.d_0n ["places","plan"] []
 mg_0o:mg "show_account"=some (.ref t.a_0o)
 fn_0o:Fun K "show_account" "show_account" s_0o t.a_0o t.d_0o
 b_0o:zaA K t.d_0o ["places","account"] []
 mg_0p:mg "fits_places"=some (.ref t.a_0p)
 fn_0p:Fun K "fits_places" "fits_places" s_0p t.a_0p t.d_0p
 b_0p:zaA K t.d_0p ["words"] []
 mg_0q:mg "fits_cycle"=some (.ref t.a_0q)
 fn_0q:Fun K "fits_cycle" "fits_cycle" s_0q t.a_0q t.d_0q
 b_0q:zaA K t.d_0q ["words"] []
 mg_0r:mg "fits_plan"=some (.ref t.a_0r)
 fn_0r:Fun K "fits_plan" "fits_plan" s_0r t.a_0r t.d_0r
 b_0r:zaA K t.d_0r ["words"] []
 mg_0s:mg "fits_lines"=some (.ref t.a_0s)
 fn_0s:Fun K "fits_lines" "fits_lines" s_0s t.a_0s t.d_0s
 b_0s:zaA K t.d_0s ["lines"] []
 mg_0t:mg "read_plan"=some (.ref t.a_0t)
 fn_0t:Fun K "read_plan" "read_plan" s_0t t.a_0t t.d_0t
 b_0t:zaA K t.d_0t ["places","words"] []
 mg_0u:mg "read_account"=some (.ref t.a_0u)
 fn_0u:Fun K "read_account" "read_account" s_0u t.a_0u t.d_0u
 b_0u:zaA K t.d_0u ["text"] []
 mg_0v:mg "_law_cell_at"=some (.ref t.a_0v)
 fn_0v:Fun K "_law_cell_at" "_law_cell_at" s_0v t.a_0v t.d_0v
 b_0v:zaA K t.d_0v ["_law_script","_law_k"] []
 mg_0w:mg "_law_rich"=some (.ref t.a_0w)
 fn_0w:Fun K "_law_rich" "_law_rich" s_0w t.a_0w t.d_0w
 b_0w:zaA K t.d_0w ["_law_cell","_law_k"] []
 mg_0x:mg "_law_digits"=some (.ref t.a_0x)
 fn_0x:Fun K "_law_digits" "_law_digits" s_0x t.a_0x t.d_0x
 b_0x:zaA K t.d_0x ["_law_script","_law_start","_law_k"] []
 mg_0y:mg "_law_digit"=some (.ref t.a_0y)
 fn_0y:Fun K "_law_digit" "_law_digit" s_0y t.a_0y t.d_0y
 b_0y:zaA K t.d_0y ["_law_digits_here","_law_many"] []
 mg_0z:mg "_law_name"=some (.ref t.a_0z)
 fn_0z:Fun K "_law_name" "_law_name" s_0z t.a_0z t.d_0z
 b_0z:zaA K t.d_0z ["_law_digits_here","_law_names"] []
 mg_10:mg "_law_plan"=some (.ref t.a_10)
 fn_10:Fun K "_law_plan" "_law_plan" s_10 t.a_10 t.d_10
 b_10:zaA K t.d_10 ["_law_digits_here","_law_names"] []
 mg_11:mg "_law_first"=some (.ref t.a_11)
 fn_11:Fun K "_law_first" "_law_first" s_11 t.a_11 t.d_11
 b_11:zaA K t.d_11 ["_law_digits_here"] []
 mg_12:mg "_law_account"=some (.ref t.a_12)
 fn_12:Fun K "_law_account" "_law_account" s_12 t.a_12 t.d_12
 b_12:zaA K t.d_12 ["_law_script","_law_start"] []
 mg_13:mg "_law_text"=some (.ref t.a_13)
 fn_13:Fun K "_law_text" "_law_text" s_13 t.a_13 t.d_13
 b_13:zaA K t.d_13 ["_law_places","_law_account_here"] []
 mg_14:mg "_law_whole"=some (.ref t.a_14)
 fn_14:Fun K "_law_whole" "_law_whole" s_14 t.a_14 t.d_14
 b_14:zaA K t.d_14 ["_law_found"] []
 mg_15:mg "_law_same"=some (.ref t.a_15)
 fn_15:Fun K "_law_same" "_law_same" s_15 t.a_15 t.d_15
 b_15:zaA K t.d_15 ["_law_found","_law_due"] []
 mg_16:mg "_law_right"=some (.ref t.a_16)
 fn_16:Fun K "_law_right" "_law_right" s_16 t.a_16 t.d_16
 b_16:zaA K t.d_16 ["_law_script","_law_start"] []
 mg_17:mg "law"=some (.ref t.a_17)
 fn_17:Fun K "law" "law" s_17 t.a_17 t.d_17
 b_17:zaA K t.d_17 ["_law_script"] []
 mg_Z0l:mg "SpanError"=some (.ref t.c_Z0l)
 mg_Z0i:mg "NoDate"=some (.ref t.c_Z0i)
 mg_Z0h:mg "NoAmount"=some (.ref t.c_Z0h)
 mg_Z0g:mg "NoAccount"=some (.ref t.c_Z0g)
 mg_Z0j:mg "NoText"=some (.ref t.c_Z0j)
 ex_Z0g:Exc K t.c_Z0g
 ex_Z0i:Exc K t.c_Z0i
 ex_Z0h:Exc K t.c_Z0h
 ex_Z0j:Exc K t.c_Z0j
 k_Z06: ∃u,mg "LETTERS"=some u∧zaB (.str (SL [97,98,99,100,101,102,103,104,105,106,107,108,109,110,111,112,113,114,115,116,117,118,119,120,121,122])) u
 k_Z0c: ∃u,mg "MOST_LETTERS"=some u∧zaB (.int 8) u
 k_Z0f: ∃u,mg "MOST_PLANS"=some u∧zaB (.int 8) u
 k_Z08: ∃u,mg "MOST_COUNT"=some u∧zaB (.int 400) u
 k_Z04: ∃u,mg "LAST_FIRST_DAY"=some u∧zaB (.int 3500000) u
 k_Z09: ∃u,mg "MOST_DAYS"=some u∧zaB (.int 400) u
 k_Z0d: ∃u,mg "MOST_MONTHS"=some u∧zaB (.int 12) u
 k_Z05: ∃u,mg "LAST_YEAR"=some u∧zaB (.int 9999) u
 k_Z03: ∃u,mg "LAST_DAY"=some u∧zaB (.int 3652058) u
 k_Z07: ∃a,mg "MONTH_DAYS"=some (.ref a)∧ ∀H,SqT K H a [.int 31, .int 28, .int 31, .int 30, .int 31, .int 30, .int 31, .int 31, .int 30, .int 31, .int 30, .int 31]
 k_Z0k: ∃u,mg "ROUND_DAYS"=some u∧zaB (.int 146097) u
 k_Z02: ∃u,mg "HUNDRED_YEARS_DAYS"=some u∧zaB (.int 36524) u
 k_Z01: ∃u,mg "FOUR_YEARS_DAYS"=some u∧zaB (.int 1461) u
 k_Z0m: ∃u,mg "YEAR_DAYS"=some u∧zaB (.int 365) u
 k_Z00: ∃u,mg "FIGURES"=some u∧zaB (.str (SL [48,49,50,51,52,53,54,55,56,57])) u
 k_Z0a: ∃u,mg "MOST_FIGURES"=some u∧zaB (.int 60) u
 k_Z0b: ∃u,mg "MOST_FIGURES_OF_NUMBER"=some u∧zaB (.int 9) u
 k_Z0e: ∃u,mg "MOST_PLACES"=some u∧zaB (.int 6) u
 no_isinstance:mg "isinstance"=none
 no_int:mg "int"=none
 no_bool:mg "bool"=none
 no_str:mg "str"=none
 no_len:mg "len"=none
 no_range:mg "range"=none
 no_divmod:mg "divmod"=none
 no_min:mg "min"=none
 no_abs:mg "abs"=none
 no_all:mg "all"=none
 no_zip:mg "zip"=none
 no_any:mg "any"=none
 no_list:mg "list"=none
 no_tuple:mg "tuple"=none
 cl_Z0l:ClsOk K t.c_Z0l
 cl_Z0i:ClsOk K t.c_Z0i
 cl_Z0h:ClsOk K t.c_Z0h
 cl_Z0g:ClsOk K t.c_Z0g
 cl_Z0j:ClsOk K t.c_Z0j
 xc_NoAccount:ExcCls K t.c_Z0g
 m_NoAccount_SpanError:PySem.W.mroIn K t.c_Z0g (.ref t.c_Z0l)=some true
 m_NoAccount_NoDate:PySem.W.mroIn K t.c_Z0g (.ref t.c_Z0i)=some false
 m_NoAccount_NoAmount:PySem.W.mroIn K t.c_Z0g (.ref t.c_Z0h)=some false
 m_NoAccount_NoAccount:PySem.W.mroIn K t.c_Z0g (.ref t.c_Z0g)=some true
 m_NoAccount_NoText:PySem.W.mroIn K t.c_Z0g (.ref t.c_Z0j)=some false
 m_NoAccount_ValueError:PySem.W.mroIn K t.c_Z0g (.type "ValueError")=some true
 m_SpanError_BaseException:PySem.W.mroIn K t.c_Z0l (.type "BaseException")=some true
section
local macro_rules| `(tactic|open_k0)=> `(tactic|simp only[za1,zb7,zaM,zbu,za6,za5,zbw,zaD,zaK,zaL,zaJ,zbl,zbt,za4,zaW,zax,zap,zay,zbH,List.replicate,Option.join_some,Option.join_none,zaQ,zb4,zbr,zaC,tSl,zb3,zb2,zb8,slT,zbW,Int.reduceLT,Int.reduceLE,Int.reduceToNat,Int.reduceNeg,Int.reduceAdd,Int.reduceSub,Int.reduceMul,forall_const,zbT,zbp,zbQ,zbU,zbv,zbq,zbL,zbd,zbh,zbV,zbR,tC,tOp,rI,rI0,tUn,rU,zbj,tB,zbX,tOr,zbS,zbn,zbY,zbo,tIf,zbk,zb1,zaX,za3,tCB,zaZ,rEq,rNe,zaE,zaF,zaG,zaH,zaI,za2,zb0,ipI,L2.start,List.map_cons,List.map_nil,List.length_cons,List.length_nil,List.cons_append,List.nil_append,List.append_nil,List.replicate_succ,List.replicate_zero,Nat.reduceAdd,Nat.reduceSub,List.getElem?_cons_zero,List.getElem?_cons_succ,List.set_cons_zero,List.set_cons_succ,Option.some.injEq,V.int.injEq,V.bl.injEq,V.ref.injEq,V.str.injEq,exists_eq_left',exists_eq_left,exists_eq',exists_and_left,List.cons.injEq,and_true,true_and,and_self,and_assoc,decide_eq_true_eq,if_true,if_false,Bool.true_eq_false,Bool.false_eq_true,Bool.not_eq_true',Bool.not_true,Bool.not_false,decide_eq_false_iff_not,ite_true,ite_false,reduceCtorEq,false_and,exists_false,false_or,or_false,and_false,Nat.reduceLeDiff])
local macro_rules| `(tactic|lge_open0)=> `(tactic|simp only[za1,zb7,zaM,zbu,za6,za5,zbw,zaD,zaK,zaL,zaJ,zbl,zbt,za4,zaW,zax,zap,zay,zbH,List.replicate,Option.join_some,Option.join_none,zaQ,zb4,zbr,zaC,tSl,zb3,zb2,zb8,slT,zbW,Int.reduceLT,Int.reduceLE,Int.reduceToNat,Int.reduceNeg,Int.reduceAdd,Int.reduceSub,Int.reduceMul,forall_const,zbT,zbp,zbQ,zbU,zbv,zbq,zbL,zbd,zbh,zbV,zbR,tC,tOp,rI,rI0,tUn,rU,zbj,tB,zbX,tOr,zbS,zbn,zbY,zbo,tIf,zbk,zb1,zaX,za3,tCB,zaZ,rEq,rNe,zaE,zaF,zaG,zaH,zaI,za2,zb0,ipI,L2.start,List.map_cons,List.map_nil,List.length_cons,List.length_nil,List.cons_append,List.nil_append,List.append_nil,List.replicate_succ,List.replicate_zero,Nat.reduceAdd,Nat.reduceSub,List.getElem?_cons_zero,List.getElem?_cons_succ,List.set_cons_zero,List.set_cons_succ,Option.some.injEq,V.int.injEq,V.bl.injEq,V.ref.injEq,V.str.injEq,exists_eq_left',exists_eq_left,exists_eq',exists_and_left,List.cons.injEq,and_true,true_and,and_self,and_assoc,decide_eq_true_eq,if_true,if_false,Bool.true_eq_false,Bool.false_eq_true,Bool.not_eq_true',Bool.not_true,Bool.not_false,decide_eq_false_iff_not,ite_true,ite_false,reduceCtorEq,false_and,exists_false,false_or,or_false,and_false,Nat.reduceLeDiff,tBM])
local macro_rules| `(tactic|lgec_open0)=> `(tactic|simp only[za1,zb7,zaM,zbu,za6,za5,zbw,zaD,zaK,zaL,zaJ,zbl,zbt,za4,zaW,zax,zap,zay,zbH,List.replicate,Option.join_some,Option.join_none,zaQ,zb4,zbr,zaC,tSl,zb3,zb2,zb8,slT,zbW,Int.reduceLT,Int.reduceLE,Int.reduceToNat,Int.reduceNeg,Int.reduceAdd,Int.reduceSub,Int.reduceMul,forall_const,zbT,zbp,zbQ,zbU,zbv,zbq,zbL,zbd,zbh,zbV,zbR,tC,tOp,rI,rI0,tUn,rU,zbj,tB,zbX,tOr,zbS,zbn,zbY,zbo,tIf,zbk,zb1,zaX,za3,tCB,zaZ,rEq,rNe,zaE,zaF,zaG,zaH,zaI,za2,zb0,ipI,L2.start,List.map_cons,List.map_nil,List.length_cons,List.length_nil,List.cons_append,List.nil_append,List.append_nil,List.replicate_succ,List.replicate_zero,Nat.reduceAdd,Nat.reduceSub,List.getElem?_cons_zero,List.getElem?_cons_succ,List.set_cons_zero,List.set_cons_succ,Option.some.injEq,V.int.injEq,V.bl.injEq,V.ref.injEq,V.str.injEq,exists_eq_left',exists_eq_left,exists_eq',exists_and_left,List.cons.injEq,and_true,true_and,and_self,and_assoc,decide_eq_true_eq,if_true,if_false,Bool.true_eq_false,Bool.false_eq_true,Bool.not_eq_true',Bool.not_true,Bool.not_false,decide_eq_false_iff_not,ite_true,ite_false,reduceCtorEq,false_and,exists_false,false_or,or_false,and_false])
variable {P:Program} {w:World} {K:Fg} {mg:Str→Option Value} {base:Heap} {t:Adr}
def zj8:Sp:=fun vs H Q _=> ∃y:Int,vs= [.int y]∧Q (.bl (decide (Cal.lp y=1))) H
theorem sc_08:FnScope ["year"] ["year"] (zai s_08):=⟨rfl,rfl,rfl,by decide+kernel,rfl,by decide+kernel,by decide+kernel⟩
theorem ok_08(T:Txt K mg t):FnOk P w K mg base (CXE P w) 1 t.a_08 t.d_08 ["year"] zj8:=by
 refine T.fn_08.okX sc_08 (fun vs H Q E h=> ?_) (fun cdv A outer s H vs Q E L hr h=> ?_)
 ·obtain⟨y,rfl,_⟩:=h;rfl
 obtain⟨y,rfl,q⟩:=h;have nd:=sc_08.nd;refine⟨_,(zah (zam (zcg (zbA zca (zal zcs (pv 0) zae) zae (zar _)) (zbZ (zgK (zbA zcZ (zal zcs (pv 0) zae) zae (zar _)) (zbZ (zbA zca (zal zcs (pv 0) zae) zae (zar _)))))))),?_⟩;lgec_open0
 have e: ∀b,b=decide (Cal.lp y=1)→Q (.bl b) H:=fun b z=>by rw[z];exact q
 split
 ·split
  ·exact e _ (by simp [Cal.lp, *])
  ·refine e _ ?_;by_cases c:y % 400=0<;>simp [Cal.lp, *]
 ·exact e _ (by simp [Cal.lp, *])
def zgE(y m:Int):Prop:=1≤y∧y≤9999∧1≤m∧m≤12
def zj9(t:Adr):Sp:=fun vs H Q E=> ∃y m:Int,vs= [.int y, .int m]∧(zgE y m→Q (.int (Cal.dim y m)) H)∧(¬zgE y m→E (.ref t.c_Z0i) none H)
theorem zeI{m:Int}(h1:1≤m)(h2:m≤12):atI [V.int 31,V.int 28,V.int 31,V.int 30,V.int 31,V.int 30,V.int 31,V.int 31,V.int 30,V.int 31,V.int 30,V.int 31] (m - 1)=some (.int (if m=2 then 28 else if m=4∨m=6∨m=9∨m=11 then 30 else 31)):=by
 have q:m=1∨m=2∨m=3∨m=4∨m=5∨m=6∨m=7∨m=8∨m=9∨m=10∨m=11∨m=12:=by omega
 rcases q with rfl|rfl|rfl|rfl|rfl|rfl|rfl|rfl|rfl|rfl|rfl|rfl<;>rfl
theorem sc_09:FnScope ["year","month"] ["year","month"] (zai s_09):=⟨rfl,rfl,rfl,by decide+kernel,rfl,by decide+kernel,by decide+kernel⟩
theorem ok_09(T:Txt K mg t):FnOk P w K mg base (CXE P w) 2 t.a_09 t.d_09 ["year","month"] (zj9 t):=by
 refine T.fn_09.okX sc_09 (fun vs H Q E h=> ?_) (fun cdv A outer s H vs Q E L hr h=> ?_)
 ·obtain⟨y,m,rfl,_⟩:=h;rfl
 obtain⟨y,m,rfl,q1,q2⟩:=h;have nd:=sc_09.nd;obtain⟨a_Z07,h_Z07,q_Z07⟩:=T.k_Z07;have r_Z07:zaB (.ref a_Z07) (.ref a_Z07):=rfl;obtain⟨u_Z05,h_Z05,r_Z05⟩:=T.k_Z05;refine⟨_,(zaf (zaU (zcu (zas zdl (pv 0) zae (zar _)) (zcq (zas zc0 (pv 0) (zbe (by rfl) h_Z05 r_Z05) (zar _)))).pt (zah (zbs L T.ex_Z0i (by rfl) (by rfl) T.mg_Z0i (zaa zbP zad))) zaq) (zaf (zaU (zcu (zas zdl (pv 1) zae (zar _)) (zcq (zas zc0 (pv 1) zae (zar _)))).pt (zah (zbs L T.ex_Z0i (by rfl) (by rfl) T.mg_Z0i (zaa zbP zad))) zaq) (zaf (zaU (zjB (zas zca (pv 1) zae (zar _)) (ziL (zbC (zag L.toLv (ok_08 T) (hr.mono (by decide)) (by rfl) T.mg_08 T.fn_08.kp T.b_08 .nil (zaa (pv 0) zad))))).pt (zah (zam zae)) zaq) (zah (zam (za9 zc2 (zbe (by rfl) h_Z07 r_Z07) (zal zdo (pv 1) zae) (fun _ _=>rfl))))))),?_⟩;open_k0;split
 ·exact q2 (fun z=>by obtain⟨_,_,_,_⟩:=z;omega)
 split
 ·exact q2 (fun z=>by obtain⟨_,_,_,_⟩:=z;omega)
 split
 ·exact q2 (fun z=>by obtain⟨_,_,_,_⟩:=z;omega)
 split
 ·exact q2 (fun z=>by obtain⟨_,_,_,_⟩:=z;omega)
 have ok:zgE y m:=⟨by omega,by omega,by omega,by omega⟩
 have q:=q1 ok;split
 ·rename_i h2;subst h2;refine⟨y,rfl,_,rfl,?_⟩;have l:=Cal.lp_01 y;have e:Cal.dim y 2=28+Cal.lp y:=rfl;rw[e] at q;split
  ·rename_i c;have z:Cal.lp y=1:=of_decide_eq_true c;rw[z] at q;exact q
  ·rename_i c;have z:Cal.lp y≠1:=of_decide_eq_false (Bool.eq_false_iff.mpr c);refine ixT (q_Z07 _) (zeI (by omega) (by omega)) ?_;have z0:Cal.lp y=0:=by omega
   rw[z0] at q;exact q
 ·rename_i h2;refine ixT (q_Z07 _) (zeI (by omega) (by omega)) ?_;rw[if_neg h2];unfold Cal.dim at q;rw[if_neg h2] at q;exact q
def zi9:Sp:=fun vs H Q _=> ∃y:Int,vs= [.int y]∧Q (.int (Cal.ahead y)) H
theorem sc_0a:FnScope ["year","past"] ["year"] (zai s_0a):=⟨rfl,rfl,rfl,by decide+kernel,rfl,by decide+kernel,by decide+kernel⟩
theorem ok_0a(T:Txt K mg t):FnOk P w K mg base (CXE P w) 1 t.a_0a t.d_0a ["year"] zi9:=by
 refine T.fn_0a.okX sc_0a (fun vs H Q E h=> ?_) (fun cdv A outer s H vs Q E L hr h=> ?_)
 ·obtain⟨y,rfl,_⟩:=h;rfl
 obtain⟨y,rfl,q⟩:=h;have nd:=sc_0a.nd;obtain⟨u_Z0m,h_Z0m,r_Z0m⟩:=T.k_Z0m;refine⟨_,(zaf (zaw (i:=1) nd rfl (Or.inl rfl) (zal zdo (pv 0) zae)) (zah (zam (zal zbf (zal zdo (zal zbf (zal zem (pv 1) (zbe (by rfl) h_Z0m r_Z0m)) (zal zdc (pv 1) zae)) (zal zdc (pv 1) zae)) (zal zdc (pv 1) zae))))),?_⟩;open_k0;exact⟨Or.inr ⟨by decide,by decide⟩,q⟩
def zja(t:Adr):Sp:=fun vs H Q E=> ∃y m d:Int,vs= [.int y, .int m, .int d]∧(Cal.Valid y m d→Q (.int (Cal.num y m d)) H)∧(¬Cal.Valid y m d→E (.ref t.c_Z0i) none H)
theorem sc_0b:FnScope ["year","month","day","ahead","earlier"] ["year","month","day"] (zai s_0b):=⟨rfl,rfl,rfl,by decide+kernel,rfl,by decide+kernel,by decide+kernel⟩
theorem ok_0b(T:Txt K mg t):FnOk P w K mg base (CXE P w) 3 t.a_0b t.d_0b ["year","month","day"] (zja t):=by
 refine T.fn_0b.okX sc_0b (fun vs H Q E h=> ?_) (fun cdv A outer s H vs Q E L hr h=> ?_)
 ·obtain⟨y,m,d,rfl,_⟩:=h;rfl
 obtain⟨y,m,d,rfl,q1,q2⟩:=h;have nd:=sc_0b.nd;refine⟨_,(zaf (zaU (zcu (zas zdl (pv 2) zae (zar _)) (zcq (zas zc0 (pv 2) (zag L.toLv (ok_09 T) (hr.mono (by decide)) (by rfl) T.mg_09 T.fn_09.kp T.b_09 .nil (zaa (pv 0) (zaa (pv 1) zad zab) zab)) (zar _)))).pt (zah (zbs L T.ex_Z0i (by rfl) (by rfl) T.mg_Z0i (zaa zbP zad))) zaq) (zaf (zaw (i:=3) nd rfl (Or.inl rfl) (zag L.toLv (ok_0a T) (hr.mono (by decide)) (by rfl) T.mg_0a T.fn_0a.kp T.b_0a .nil (zaa (pv 0) zad))) (zaf (zcK (by passes_own) rfl (zhf (by rfl) T.no_range (zaa zae (zaa (pv 1) zad zab) zac)) (zao (i:=4) nd rfl (Or.inl rfl)) (zah (zfk (i:=3) nd rfl (Or.inl rfl) (zag L.toLv (ok_09 T) (hr.mono (by decide)) (by rfl) T.mg_09 T.fn_09.kp T.b_09 .nil (zaa (pv 0) (zaa (pv 4) zad zab) zab)) zhN))) (zah (zam (zal zdo (zal zbf (pv 3) (pv 2)) zae)))))),?_⟩;open_k0;split
 ·exact q2 (fun z=>by obtain⟨_,_,_,_,_,_⟩:=z;omega)
 refine⟨y,m,rfl,fun ok=> ?_,fun no=>q2 (fun z=>no ⟨z.1,z.2.1,z.2.2.1,z.2.2.2.1⟩)⟩;obtain⟨o1,o2,o3,o4⟩:=ok;lgec_open0
 split
 ·exact q2 (fun z=>by obtain⟨_,_,_,_,_,_⟩:=z;omega)
 have va:Cal.Valid y m d:=⟨o1,o2,o3,o4,by omega,by omega⟩
 have q:=q1 va;refine⟨y,rfl,?_⟩;first|refine⟨_,rfl,1,m,rfl,⟨by decide,by decide,by omega,by omega⟩,?_⟩|refine⟨1,m,rfl,⟨by decide,by decide,by omega,by omega⟩,?_⟩
 refine zdO (fun i σ1 H1=>H1=H∧ ∃e,σ1= [some (.int y),some (.int m),some (.int d),some (.int (Cal.ahead y+Cal.cum y ((i:Int)+1))),e]) ⟨rfl,none,?_⟩ (fun i σ1 H1 hi h=> ?_) (fun σ1 H1 h=> ?_)
 ·have e:Cal.ahead y+Cal.cum y (((0:Nat):Int)+1)=Cal.ahead y:=by
   rw[show (((0:Nat):Int)+1)=1 from rfl,Cal.cum_one];omega
  rw[e]
 ·obtain⟨rfl,e,rfl⟩:=h;lgec_open0
  refine⟨y,1+(i:Int),rfl,fun _=> ?_,fun no=>absurd ⟨o1,o2,by omega,by omega⟩ no⟩;refine⟨_,rfl,rfl,?_⟩;have s:=Cal.cum_succ (y:=y) (m:=(i:Int)+1) (by omega) (by omega);have e1:((i+1:Nat):Int)+1=(i:Int)+1+1:=by omega
  have e2:(1:Int)+(i:Int)=(i:Int)+1:=by omega
  rw[e1,s,e2,Int.add_assoc]
 ·obtain⟨rfl,e,rfl⟩:=h;lgec_open0
  have e1:(((m - 1).toNat:Nat):Int)+1=m:=by omega
  rw[e1];exact q
def zit:Sp:=fun vs H Q _=> ∃n:Int,vs= [.int n]∧ ∀H',zau H H'→Q (.int (Cal.yearOf n)) H'
theorem sc_0c:FnScope ["number","rounds","rest","hundreds","fours","ones"] ["number"] (zai s_0c):=⟨rfl,rfl,rfl,by decide+kernel,rfl,by decide+kernel,by decide+kernel⟩
theorem ok_0c(T:Txt K mg t):FnOk P w K mg base (CXE P w) 1 t.a_0c t.d_0c ["number"] zit:=by
 refine T.fn_0c.okX sc_0c (fun vs H Q E h=> ?_) (fun cdv A outer s H vs Q E L hr h=> ?_)
 ·obtain⟨n,rfl,_⟩:=h;rfl
 obtain⟨n,rfl,q⟩:=h;have nd:=sc_0c.nd;obtain⟨u_Z0k,h_Z0k,r_Z0k⟩:=T.k_Z0k;obtain⟨u_Z02,h_Z02,r_Z02⟩:=T.k_Z02;obtain⟨u_Z01,h_Z01,r_Z01⟩:=T.k_Z01;obtain⟨u_Z0m,h_Z0m,r_Z0m⟩:=T.k_Z0m;refine⟨_,(zaf (zcr (zan zdZ (by rfl) T.no_divmod ze4 (zaa (pv 0) (zaa (zbe (by rfl) h_Z0k r_Z0k) zad zab) zab)) (zb9 (n:=2) rfl (zav (zao (i:=1) nd rfl (Or.inl rfl)) (zav (zao (i:=2) nd rfl (Or.inl rfl)) zbG)))) (zaf (zaw (i:=3) nd rfl (Or.inl rfl) (zan (zeW (by rfl)) (by rfl) T.no_min zhZ (zaa (zal zdc (pv 2) (zbe (by rfl) h_Z02 r_Z02)) (zaa zae zad zac) za0))) (zaf (zfk (i:=2) nd rfl (Or.inl rfl) (zal zem (pv 3) (zbe (by rfl) h_Z02 r_Z02)) zhO) (zaf (zcr (zan zdZ (by rfl) T.no_divmod ze4 (zaa (pv 2) (zaa (zbe (by rfl) h_Z01 r_Z01) zad zab) zab)) (zb9 (n:=2) rfl (zav (zao (i:=4) nd rfl (Or.inl rfl)) (zav (zao (i:=2) nd rfl (Or.inl rfl)) zbG)))) (zaf (zaw (i:=5) nd rfl (Or.inl rfl) (zan (zeW (by rfl)) (by rfl) T.no_min zhZ (zaa (zal zdc (pv 2) (zbe (by rfl) h_Z0m r_Z0m)) (zaa zae zad zac) za0))) (zah (zam (zal zbf (zal zbf (zal zbf (zal zbf (zal zem (pv 1) zae) (zal zem (pv 3) zae)) (zal zem (pv 4) zae)) (pv 5)) zae)))))))),?_⟩;open_k0;intro p hp;refine⟨p,_,rfl,SqT.of zat,rfl,?_⟩;lgec_open0
 refine⟨Or.inr ⟨by decide,by decide⟩,fun p2 hp2=>⟨p2,_,rfl,SqT.of zat,rfl,?_⟩⟩;lgec_open0
 refine⟨Or.inr ⟨by decide,by decide⟩,Or.inr ⟨by decide,by decide⟩,Or.inr ⟨by decide,by decide⟩,?_⟩;have e: ∀r:Int,r=Cal.yearOf n→Q (.int r) (upd (upd H p (.tup [.int (n / 146097), .int (n % 146097)])) p2 (.tup [.int ((n % 146097 - (if 3<n % 146097 / 36524 then 3 else n % 146097 / 36524)*36524) / 1461), .int ((n % 146097 - (if 3<n % 146097 / 36524 then 3 else n % 146097 / 36524)*36524) % 1461)])):=fun r z=>by
  rw[z];exact q _ ((zcb hp _).trans (zcb hp2 _))
 refine e _ ?_;unfold Cal.yearOf;have m1: ∀a:Int,min a 3=if 3<a then 3 else a:=fun a=>by split<;>omega
 simp only[m1]
def ziu(t:Adr):Sp:=fun vs H Q E=> ∃n:Int,vs= [.int n]∧
 (0≤n∧n≤3652058→ ∀y m d p H',Cal.Valid y m d→Cal.num y m d=n→zau H H'→H' p=some (.tup [.int y, .int m, .int d])→Q (.ref p) H')∧(¬(0≤n∧n≤3652058)→E (.ref t.c_Z0i) none H)
theorem sc_0d:FnScope ["number","year","rest","month"] ["number"] (zai s_0d):=⟨rfl,rfl,rfl,by decide+kernel,rfl,by decide+kernel,by decide+kernel⟩
theorem ok_0d(T:Txt K mg t):FnOk P w K mg base (CXE P w) 3 t.a_0d t.d_0d ["number"] (ziu t):=by
 refine T.fn_0d.okX sc_0d (fun vs H Q E h=> ?_) (fun cdv A outer s H vs Q E L hr h=> ?_)
 ·obtain⟨n,rfl,_⟩:=h;rfl
 obtain⟨n,rfl,q1,q2⟩:=h;have nd:=sc_0d.nd;obtain⟨u_Z03,h_Z03,r_Z03⟩:=T.k_Z03;refine⟨_,(zaf (zaU (zcu (zas zdl (pv 0) zae (zar _)) (zcq (zas zc0 (pv 0) (zbe (by rfl) h_Z03 r_Z03) (zar _)))).pt (zah (zbs L T.ex_Z0i (by rfl) (by rfl) T.mg_Z0i (zaa zbP zad))) zaq) (zaf (zaw (i:=1) nd rfl (Or.inl rfl) (zag L.toLv (ok_0c T) (hr.mono (by decide)) (by rfl) T.mg_0c T.fn_0c.kp T.b_0c .nil (zaa (pv 0) zad))) (zaf (zaw (i:=2) nd rfl (Or.inl rfl) (zal zdo (pv 0) (zag L.toLv (ok_0a T) (hr.mono (by decide)) (by rfl) T.mg_0a T.fn_0a.kp T.b_0a .nil (zaa (pv 1) zad)))) (zaf (zaw (i:=3) nd rfl (Or.inl rfl) zae) (zaf (zhP (by passes_own) (zas zkB (pv 2) (zag L.toLv (ok_09 T) (hr.mono (by decide)) (by rfl) T.mg_09 T.fn_09.kp T.b_09 .nil (zaa (pv 1) (zaa (pv 3) zad zab) zab)) (zar _)) (zaf (zfk (i:=2) nd rfl (Or.inl rfl) (zag L.toLv (ok_09 T) (hr.mono (by decide)) (by rfl) T.mg_09 T.fn_09.kp T.b_09 .nil (zaa (pv 1) (zaa (pv 3) zad zab) zab)) zhO) (zah (zfk (i:=3) nd rfl (Or.inl rfl) zae zhN)))) (zah (zam (zjI (zaa (pv 1) (zaa (pv 3) (zaa (zal zbf (pv 2) zae) zad za0) zab) zab))))))))),?_⟩;open_k0;split
 ·exact q2 (fun z=>by obtain⟨_,_⟩:=z;omega)
 split
 ·exact q2 (fun z=>by obtain⟨_,_⟩:=z;omega)
 have n0:0≤n:=by omega
 have n1:n≤3652058:=by omega
 have q:=q1 ⟨n0,n1⟩;obtain⟨y1,y2,y3,y4⟩:=Cal.yearOf_spec n0 n1;refine⟨n,rfl,fun H1 sm=>⟨_,rfl,_,rfl,?_⟩⟩;refine⟨fun k σ1 H2=>H2=H1∧ ∃m:Int,σ1= [some (.int n),some (.int (Cal.yearOf n)),some (.int (n - Cal.ahead (Cal.yearOf n) - Cal.cum (Cal.yearOf n) m)),some (.int m)]∧1≤m∧m≤12∧Cal.cum (Cal.yearOf n) m≤n - Cal.ahead (Cal.yearOf n)∧k=(13 - m).toNat,⟨12,rfl,1,?_,by decide,by decide,by rw[Cal.cum_one];omega,by decide⟩,?_⟩
 ·rw[Cal.cum_one,Int.sub_zero]
 ·rintro k σ1 H2 ⟨rfl,m,rfl,m1,m2,m3,rfl⟩;lgec_open0
  refine⟨_,m,rfl,fun _=> ?_,fun no=>absurd ⟨y1,y2,m1,m2⟩ no⟩;lgec_open0
  split
  ·rename_i c;have lt:m<12:=by
    apply Classical.byContradiction;intro z;obtain rfl:m=12:=by omega
    have s:=Cal.cum_succ (y:=Cal.yearOf n) (m:=12) (by decide) (by decide);have u:Cal.cum (Cal.yearOf n) (12+1)=365+Cal.lp (Cal.yearOf n):=Cal.cum_13 _;omega
   have s:=Cal.cum_succ (y:=Cal.yearOf n) m1 m2;refine⟨_,fun σ2 H3 h=>h,?_⟩;refine⟨_,m,rfl,fun _=> ?_,fun no=>absurd ⟨y1,y2,m1,m2⟩ no⟩;lgec_open0
   exact⟨(13 - (m+1)).toNat,by omega,m+1,by omega,rfl,by omega,by omega,by omega,rfl⟩
  ·rename_i c;open_k0;intro p hp;have s:=Cal.cum_succ (y:=Cal.yearOf n) m1 m2;refine q (Cal.yearOf n) m (n - Cal.ahead (Cal.yearOf n) - Cal.cum (Cal.yearOf n) m+1) p _ ⟨y1,y2,m1,m2,by omega,by omega⟩ (by unfold Cal.num;omega) (sm.trans (zcb hp _)) zat
def zc8(y m d:Int):List Nat:=fig 4 y++ [45]++(fig 2 m++ [45]++fig 2 d)
def zjb:Sp:=fun vs H Q _=> ∃n y m d:Int,vs= [.int n]∧Cal.Valid y m d∧Cal.num y m d=n∧ ∀H',zau H H'→Q (.str (SL (zc8 y m d))) H'
open PySem.NumText in
def zhC(t:Adr):Sp:=fun vs H Q E=> ∃cs:List Nat,vs= [.str (SL cs)]∧cs≠ []∧cs.length≤640∧(AllDigits cs→Q (.int (digitsVal cs:Nat)) H)∧(¬AllDigits cs→E (.ref t.c_Z0i) none H)
open PySem.NumText in
def zeJ(cs:List Nat)(y m d:Int):Prop:= ∃a b c,cs=a++ [45]++(b++ [45]++c)∧a.length=4∧b.length=2∧c.length=2∧AllDigits a∧AllDigits b∧AllDigits c∧y=(digitsVal a:Nat)∧m=(digitsVal b:Nat)∧d=(digitsVal c:Nat)
def zgF(t:Adr):Sp:=fun vs H Q E=> ∃cs:List Nat,vs= [.str (SL cs)]∧cs.length≤sizeLine∧(∀y m d,zeJ cs y m d→Cal.Valid y m d→Q (.int (Cal.num y m d)) H)∧((∀y m d,zeJ cs y m d→ ¬Cal.Valid y m d)→E (.ref t.c_Z0i) none H)
theorem zeK{k:Nat}{n:Int}(h0:0≤n)(h1:n<10 ^ (k+1)):zf (dg n.toNat) (k+1)=fig (k+1) n:=by
 obtain⟨m,rfl⟩:=Int.eq_ofNat_of_zero_le h0;rw[Int.toNat_natCast];refine zjo k m ?_;have e:((10 ^ (k+1):Nat):Int)=10 ^ (k+1):=by simp
 omega
theorem zf7{y m d:Int}(h:Cal.Valid y m d):zeJ (zc8 y m d) y m d:=by
 obtain⟨h1,h2,h3,h4,h5,h6⟩:=h
 have:=Cal.dim_bounds y m;exact⟨fig 4 y,fig 2 m,fig 2 d,rfl,rfl,rfl,rfl,zb6 _ _,zb6 _ _,zb6 _ _,(zee 4 y (by omega) (by omega)).symm,(zee 2 m (by omega) (by omega)).symm,(zee 2 d (by omega) (by omega)).symm⟩
theorem zfd{cs:List Nat}{y m d y' m' d':Int}(h:zeJ cs y m d)(g:zeJ cs y' m' d'):y=y'∧m=m'∧d=d':=by
 obtain⟨a,b,c,rfl,ha,hb,hc,_,_,_,rfl,rfl,rfl⟩:=h;obtain⟨a',b',c',e,ha',hb',hc',_,_,_,rfl,rfl,rfl⟩:=g;simp only[List.append_assoc] at e;obtain⟨e1,e2⟩:=List.append_inj e (by omega);have e3:=List.append_cancel_left e2;obtain⟨e4,e5⟩:=List.append_inj e3 (by omega);have e6:=List.append_cancel_left e5;rw[e1,e4,e6];exact⟨rfl,rfl,rfl⟩
open PySem.NumText in
theorem zco{c0 c1 c2 c3 c4 c5 c6 c7 c8 c9:Nat}{y m d:Int}(h:zeJ [c0,c1,c2,c3,c4,c5,c6,c7,c8,c9] y m d):c4=45∧c7=45∧AllDigits [c0,c1,c2,c3]∧AllDigits [c5,c6]∧AllDigits [c8,c9]:=by
 obtain⟨a,b,c,e,ha,hb,hc,x1,x2,x3,_⟩:=h;match a,ha,x1 with
 | [a0,a1,a2,a3],_,x1=>
  match b,hb,x2 with
  | [b0,b1],_,x2=>
   match c,hc,x3 with
   | [d0,d1],_,x3=>
    simp only[List.cons_append,List.nil_append,List.cons.injEq,and_true] at e;obtain⟨rfl,rfl,rfl,rfl,rfl,rfl,rfl,rfl,rfl,rfl⟩:=e;exact⟨rfl,rfl,x1,x2,x3⟩
theorem sc_0e:FnScope ["number","year","month","day"] ["number"] (zai s_0e):=⟨rfl,rfl,rfl,by decide+kernel,rfl,by decide+kernel,by decide+kernel⟩
theorem ok_0e(T:Txt K mg t):FnOk P w K mg base (CXE P w) 4 t.a_0e t.d_0e ["number"] (zjb):=by
 refine T.fn_0e.okX sc_0e (fun vs H Q E h=> ?_) (fun cdv A outer s H vs Q E L hr h=> ?_)
 ·obtain⟨n,y,m,d,rfl,va,hn,q⟩:=h;rfl
 obtain⟨n,y,m,d,rfl,va,hn,q⟩:=h;have nd:=sc_0e.nd;refine⟨_,(zaf (zcr (zag L.toLv (ok_0d T) (hr.mono (by decide)) (by rfl) T.mg_0d T.fn_0d.kp T.b_0d .nil (zaa (pv 0) zad)) (zb9 (n:=3) rfl (zav (zao (i:=1) nd rfl (Or.inl rfl)) (zav (zao (i:=2) nd rfl (Or.inl rfl)) (zav (zao (i:=3) nd rfl (Or.inl rfl)) zbG))))) (zah (zam (zcC PySem.F.plainAttrs_str PySem.F.slot_str_join PySem.F.type_str_join zfw (zak st_11) (zaa (zjJ (zaa (zcC PySem.F.plainAttrs_str PySem.F.slot_str_zfill PySem.F.type_str_zfill zdB (zbb zby (by rfl) T.no_str zct (zaa (pv 1) zad)) (zaa zae zad)) (zaa (zcC PySem.F.plainAttrs_str PySem.F.slot_str_zfill PySem.F.type_str_zfill zdB (zbb zby (by rfl) T.no_str zct (zaa (pv 2) zad)) (zaa zae zad)) (zaa (zcC PySem.F.plainAttrs_str PySem.F.slot_str_zfill PySem.F.type_str_zfill zdB (zbb zby (by rfl) T.no_str zct (zaa (pv 3) zad)) (zaa zae zad)) zad zbN) zbN) zbN)) zad))))),?_⟩;lge_open0
 have nr:=Cal.num_range va;refine⟨_,rfl,fun _ y' m' d' p H1 va' hn' s1 hp=> ?_,fun no=>absurd (by omega) no⟩;obtain⟨rfl,rfl,rfl⟩:=Cal.num_inj va' va (by rw[hn',hn]);refine⟨p,_,rfl,SqT.of hp,rfl,?_⟩;lge_open0
 have b:=Cal.dim_bounds y' m';obtain⟨v1,v2,v3,v4,v5,v6⟩:=id va;refine⟨rfl,by omega,zbD (by omega) (by omega),rfl,4,rfl,by decide,fun c r=>zef,by omega,zbD (by omega) (by omega),rfl,2,rfl,by decide,fun c r=>zef,by omega,zbD (by omega) (by omega),rfl,2,rfl,by decide,fun c r=>zef,fun p2 hp2=> ?_⟩;rw[zeK (k:=3) (by omega) (by omega),zeK (k:=1) (by omega) (by omega),zeK (k:=1) (by omega) (by omega)];refine⟨[fig 4 y',fig 2 m',fig 2 d'],SqL.of zat,?_,q _ (s1.trans (zcb hp2 _))⟩;simp [zcx]
theorem sc_0f:FnScope ["text","sign"] ["text"] (zai s_0f):=⟨rfl,rfl,rfl,by decide+kernel,rfl,by decide+kernel,by decide+kernel⟩
theorem ok_0f(T:Txt K mg t):FnOk P w K mg base (CXE P w) 1 t.a_0f t.d_0f ["text"] (zhC t):=by
 refine T.fn_0f.okX sc_0f (fun vs H Q E h=> ?_) (fun cdv A outer s H vs Q E L hr h=> ?_)
 ·obtain⟨cs,rfl,hne,hl,q1,q2⟩:=h;rfl
 obtain⟨cs,rfl,hne,hl,q1,q2⟩:=h;have nd:=sc_0f.nd;obtain⟨u_Z00,h_Z00,r_Z00⟩:=T.k_Z00;refine⟨_,(zaf (zcK (by passes_own) rfl (zfu (pv 0)) (zao (i:=1) nd rfl (Or.inl rfl)) (zah (zaU (zas zdq (pv 1) (zbe (by rfl) h_Z00 r_Z00) rfl) (zah (zbs L T.ex_Z0i (by rfl) (by rfl) T.mg_Z0i (zaa zbP zad))) zaq))) (zah (zam (zbb zbF (by rfl) T.no_int zcR (zaa (pv 0) zad))))),?_⟩;open_k0;refine⟨_,rfl,_,rfl,?_⟩;refine zed (cs:=cs) (fun i σ1 H1=>H1=H∧(∃e,σ1= [some (.str (SL cs)),e])∧ ∀j c,j<i→cs[j]? =some c→48≤c∧c≤57) ⟨rfl,⟨none,rfl⟩,fun j c h=>absurd h (Nat.not_lt_zero _)⟩ (fun i c σ1 H1 hc h=> ?_) (fun σ1 H1 h=> ?_)
 ·obtain⟨rfl,⟨e,rfl⟩,h⟩:=h;open_k0;by_cases ok:48≤c∧c≤57
  ·rw[if_neg (fun z=>z ((zde c).mpr ok))];intro j c' hj hc';by_cases z:j=i
   ·subst z;rw[hc] at hc';cases hc';exact ok
   ·exact h j c' (by omega) hc'
  ·rw[if_pos (fun z=>ok ((zde c).mp z))];exact q2 (fun z=>ok (z c (List.mem_of_getElem? hc)))
 ·obtain⟨rfl,⟨e,rfl⟩,h⟩:=h;open_k0;have ad:PySem.NumText.AllDigits cs:=fun c hc=>by
   obtain⟨j,hj,e⟩:=List.getElem_of_mem hc;exact h j c hj (by rw[List.getElem?_eq_getElem hj,e])
  exact⟨ad,hne,hl,q1 ad⟩
theorem sc_0g:FnScope ["text"] ["text"] (zai s_0g):=⟨rfl,rfl,rfl,by decide+kernel,rfl,by decide+kernel,by decide+kernel⟩
theorem ok_0g(T:Txt K mg t):FnOk P w K mg base (CXE P w) 4 t.a_0g t.d_0g ["text"] (zgF t):=by
 refine T.fn_0g.okX sc_0g (fun vs H Q E h=> ?_) (fun cdv A outer s H vs Q E L hr h=> ?_)
 ·obtain⟨cs,rfl,hl,q1,q2⟩:=h;rfl
 obtain⟨cs,rfl,hl,q1,q2⟩:=h;have nd:=sc_0g.nd;refine⟨_,(zaf (zaU (zcu (zas zcZ (zan zb5 (by rfl) T.no_len zbB (zaa (pv 0) zad)) zae (zar _)) (zcu (zas zcZ (za9 zjR (pv 0) zae (fun _ _=>rfl)) (zak st_11) (zar _)) (zcq (zas zcZ (za9 zjR (pv 0) zae (fun _ _=>rfl)) (zak st_11) (zar _))))).pt (zah (zbs L T.ex_Z0i (by rfl) (by rfl) T.mg_Z0i (zaa zbP zad))) zaq) (zah (zam (zag L.toLv (ok_0b T) (hr.mono (by decide)) (by rfl) T.mg_0b T.fn_0b.kp T.b_0b .nil (zaa (zag L.toLv (ok_0f T) (hr.mono (by decide)) (by rfl) T.mg_0f T.fn_0f.kp T.b_0f .nil (zaa (zcm zdQ (pv 0) zcQ (zcw zae)) zad)) (zaa (zag L.toLv (ok_0f T) (hr.mono (by decide)) (by rfl) T.mg_0f T.fn_0f.kp T.b_0f .nil (zaa (zcm zdQ (pv 0) (zcw zae) (zcw zae)) zad)) (zaa (zag L.toLv (ok_0f T) (hr.mono (by decide)) (by rfl) T.mg_0f T.fn_0f.kp T.b_0f .nil (zaa (zcm zdQ (pv 0) (zcw zae) zcQ) zad)) zad zbN) zbN) zbN))))),?_⟩;open_k0;have hz:=hl;refine⟨hz,?_⟩;split
 ·rename_i h;refine q2 (fun y m d z _=>h ?_);obtain⟨a,b,c,e,ha,hb,hc,_⟩:=z;rw[e];simp [ha,hb,hc]
 rename_i h;obtain⟨c0,c1,c2,c3,c4,c5,c6,c7,c8,c9,rfl⟩:=zjS (show cs.length=10 by omega);refine⟨hz,c4,rfl,?_⟩;split
 ·rename_i h4;exact q2 (fun y m d z _=>h4 (zco z).1)
 rename_i h4;refine⟨hz,c7,rfl,?_⟩;split
 ·rename_i h7;exact q2 (fun y m d z _=>h7 (zco z).2.1)
 rename_i h7;have e4:c4=45:=Classical.byContradiction h4;have e7:c7=45:=Classical.byContradiction h7;subst e4 e7;have k1:zdp [c0,c1,c2,c3,45,c5,c6,45,c8,c9] none (some 4)= [c0,c1,c2,c3]:=rfl;have k2:zdp [c0,c1,c2,c3,45,c5,c6,45,c8,c9] (some 5) (some 7)= [c5,c6]:=rfl;have k3:zdp [c0,c1,c2,c3,45,c5,c6,45,c8,c9] (some 8) none= [c8,c9]:=rfl;rw[k1,k2,k3];refine⟨hz,_,rfl,List.cons_ne_nil _ _,by simp,fun d1=> ?_,fun no=>q2 (fun y m d z _=>no (zco z).2.2.1)⟩;refine⟨hz,_,rfl,List.cons_ne_nil _ _,by simp,fun d2=> ?_,fun no=>q2 (fun y m d z _=>no (zco z).2.2.2.1)⟩;refine⟨hz,_,rfl,List.cons_ne_nil _ _,by simp,fun d3=> ?_,fun no=>q2 (fun y m d z _=>no (zco z).2.2.2.2)⟩;have dt:zeJ [c0,c1,c2,c3,45,c5,c6,45,c8,c9] _ _ _:=⟨[c0,c1,c2,c3], [c5,c6], [c8,c9],rfl,rfl,rfl,rfl,d1,d2,d3,rfl,rfl,rfl⟩
 exact⟨_,_,_,rfl,fun va=>q1 _ _ _ dt va,fun no=>q2 (fun y m d dt' va=>by obtain⟨rfl,rfl,rfl⟩:=zfd dt dt';exact no va)⟩
def zka:Sp:=fun vs H Q _=> ∃n p:Int,vs= [.int n, .int p]∧0≤p∧p≤6∧ -(10 ^ 60)<n∧n<10 ^ 60∧ ∀H',zau H H'→Q (.str (SL (zcd n p.toNat))) H'
theorem sc_0h:FnScope ["amount","places","sign","figures","ahead"] ["amount","places"] (zai s_0h):=⟨rfl,rfl,rfl,by decide+kernel,rfl,by decide+kernel,by decide+kernel⟩
theorem ok_0h(T:Txt K mg t):FnOk P w K mg base (CXE P w) 1 t.a_0h t.d_0h ["amount","places"] (zka):=by
 refine T.fn_0h.okX sc_0h (fun vs H Q E h=> ?_) (fun cdv A outer s H vs Q E L hr h=> ?_)
 ·obtain⟨n,p,rfl,p0,p1,n0,n1,q⟩:=h;rfl
 obtain⟨n,p,rfl,p0,p1,n0,n1,q⟩:=h;have nd:=sc_0h.nd;refine⟨_,(zaf (zft (zaw (i:=2) nd rfl (Or.inl rfl) (zfQ (zas zdl (pv 0) zae (zar _)) (zak st_11) (zak st_14)))) (zaf (zaw (i:=3) nd rfl (Or.inl rfl) (zcC PySem.F.plainAttrs_str PySem.F.slot_str_zfill PySem.F.type_str_zfill zdB (zbb zby (by rfl) T.no_str zct (zaa (zan zhU (by rfl) T.no_abs zjT (zaa (pv 0) zad)) zad)) (zaa (zal zbf (pv 1) zae) zad))) (zaf (zaU (zas zca (pv 1) zae (zar _)) (zah (zam (zal zaT (pv 2) (pv 3)))) zaq) (zaf (zaw (i:=4) nd rfl (Or.inl rfl) (zal zdo (zan zb5 (by rfl) T.no_len zbB (zaa (pv 3) zad)) (pv 1))) (zah (zam (zal zaT (zal zaT (zal zaT (pv 2) (zcm zdQ (pv 3) zcQ (zcw (pv 4)))) (zak st_15)) (zcm zdQ (pv 3) (zcw (pv 4)) zcQ)))))))),?_⟩;have nb:n.natAbs<10 ^ 60:=by omega
 obtain⟨k,rfl⟩:=Int.eq_ofNat_of_zero_le p0;rw[Int.toNat_natCast] at q;have as:=zcE nb (show k≤6 by omega);lge_open0
 obtain⟨R,hR⟩: ∃R:St→Hp→Prop,R=fun σ' H'=>H'=H∧σ'= [some (.int n),some (.int k),some (.str (SL (if n<0 then [45] else []))),none,none]:=⟨_,rfl⟩
 refine⟨R,?_,fun σ2 H2 h2=> ?_⟩
 ·open_k0;rw[hR];split
  ·exact⟨rfl,rfl⟩
  ·exact⟨rfl,rfl⟩
 rw[hR] at h2;obtain⟨rfl,rfl⟩:=h2;clear hR;lge_open0
 have ea:(if n<0 then -n else n)=(n.natAbs:Int):=by split<;>omega
 rw[ea];have tn:((n.natAbs:Nat):Int).toNat=n.natAbs:=Int.toNat_natCast _;have cl:=zfB (p:=k) nb (show k≤6 by omega);have ln:=zfA n.natAbs k;have sp:=zcn k n.natAbs;have sl:(if n<0 then [45] else ([]:List Nat)).length≤1:=by split<;>simp
 unfold zf2 at cl;refine⟨by omega,zi0 (i:=(n.natAbs:Int)) (by omega),rfl,k+1,by omega,by omega,fun c r=>zef,?_⟩;rw[tn];generalize zf (dg n.natAbs) (k+1)=fs at ln sp ⊢;split
 ·rename_i k0;obtain rfl:k=0:=by omega
  have e:(if n<0 then [45] else [])++fs=zcd n 0:=by
   rw[sp];rfl
  rw[e];exact⟨zaz (by omega),q _ (zau.refl _)⟩
 ·rename_i k0;have kn:k≠0:=fun z=>k0 (by omega);have t1:zdp fs none (some ((fs.length:Int) - k))=dg (n.natAbs / 10 ^ k):=by
   rw[ze9 fs (by omega) (by omega),show ((fs.length:Int) - k).toNat=(dg (n.natAbs / 10 ^ k)).length by omega,sp,List.take_left' rfl]
  have t2:zdp fs (some ((fs.length:Int) - k)) none=fig k (n.natAbs:Int):=by
   rw[zhs fs (by omega) (by omega),show ((fs.length:Int) - k).toNat=(dg (n.natAbs / 10 ^ k)).length by omega,sp,List.drop_left' rfl]
  rw[t1,t2];have e:(if n<0 then [45] else [])++dg (n.natAbs / 10 ^ k)++ [46]++fig k (n.natAbs:Int)=zcd n k:=by
   unfold zcd;rw[if_neg kn];simp only[List.append_assoc,List.singleton_append]
  rw[e];have fl:=zcx k (n.natAbs:Int);refine⟨zaz (by omega),zaz (by omega),zaz (by omega),zaz ?_,zaz (by omega),zaz ?_,q _ (zau.refl _)⟩
  ·rw[List.length_append];omega
  ·rw[List.length_append,List.length_append,List.length_singleton];omega
def zkb:Sp:=fun vs H Q _=> ∃cs:List Nat,vs= [.str (SL cs)]∧cs.length≤sizeLine∧ ∀b:Bool,(b=true↔PySem.NumText.AllDigits cs∧cs≠ [])→Q (.bl b) H
theorem sc_0i:FnScope ["text","sign"] ["text"] (zai s_0i):=⟨rfl,rfl,rfl,by decide+kernel,rfl,by decide+kernel,by decide+kernel⟩
theorem ok_0i(T:Txt K mg t):FnOk P w K mg base (CXE P w) 1 t.a_0i t.d_0i ["text"] (zkb):=by
 refine T.fn_0i.okX sc_0i (fun vs H Q E h=> ?_) (fun cdv A outer s H vs Q E L hr h=> ?_)
 ·obtain⟨cs,rfl,hl,q⟩:=h;rfl
 obtain⟨cs,rfl,hl,q⟩:=h;have nd:=sc_0i.nd;obtain⟨u_Z00,h_Z00,r_Z00⟩:=T.k_Z00;refine⟨_,(zaf (zcK (by passes_own) rfl (zfu (pv 0)) (zao (i:=1) nd rfl (Or.inl rfl)) (zah (zaU (zas zdq (pv 1) (zbe (by rfl) h_Z00 r_Z00) rfl) (zah (zam zcl)) zaq))) (zah (zam (zbA zc0 (zan zb5 (by rfl) T.no_len zbB (zaa (pv 0) zad)) zae (zar _))))),?_⟩;open_k0;refine⟨_,rfl,_,rfl,?_⟩;refine zed (cs:=cs) (fun i σ1 H1=>H1=H∧(∃e,σ1= [some (.str (SL cs)),e])∧ ∀j c,j<i→cs[j]? =some c→48≤c∧c≤57) ⟨rfl,⟨none,rfl⟩,fun j c h=>absurd h (Nat.not_lt_zero _)⟩ (fun i c σ1 H1 hc h=> ?_) (fun σ1 H1 h=> ?_)
 ·obtain⟨rfl,⟨e,rfl⟩,h⟩:=h;open_k0;by_cases ok:48≤c∧c≤57
  ·rw[if_neg (fun z=>z ((zde c).mpr ok))];intro j c' hj hc';by_cases z:j=i
   ·subst z;rw[hc] at hc';cases hc';exact ok
   ·exact h j c' (by omega) hc'
  ·rw[if_pos (fun z=>ok ((zde c).mp z))];exact q false ⟨fun z=>(by cases z),fun z=>absurd (z.1 c (List.mem_of_getElem? hc)) ok⟩
 ·obtain⟨rfl,⟨e,rfl⟩,h⟩:=h;open_k0;have ad:PySem.NumText.AllDigits cs:=fun c hc=>by
   obtain⟨j,hj,e⟩:=List.getElem_of_mem hc;exact h j c hj (by rw[List.getElem?_eq_getElem hj,e])
  refine⟨hl,q _ ?_⟩;rw[decide_eq_true_iff];constructor
  ·intro z;exact⟨ad,fun e=>by rw[e] at z;exact absurd z (by decide)⟩
  ·intro z
   have:=List.length_pos_iff.mpr z.2;omega
def ziv(t:Adr):Sp:=fun vs H Q E=> ∃(cs:List Nat) (p:Int),vs= [.str (SL cs), .int p]∧cs.length≤sizeLine∧0≤p∧p≤6∧(∀n,zdi cs p.toNat n→ ∀H',zau H H'→Q (.int n) H')∧((∀n,¬zdi cs p.toNat n)→ ∀H',zau H H'→E (.ref t.c_Z0h) none H')
theorem sc_0j:FnScope ["text","places","figures","amount"] ["text","places"] (zai s_0j):=⟨rfl,rfl,rfl,by decide+kernel,rfl,by decide+kernel,by decide+kernel⟩
theorem ok_0j(T:Txt K mg t):FnOkT P w K mg base (CXE P w) 2 t.a_0j t.d_0j ["text","places"] (ziv t):=by
 refine T.fn_0j.okXT sc_0j (fun vs H Q E h=> ?_) (fun cdv A outer s H vs Q E L hr h=> ?_)
 ·obtain⟨cs,p,rfl,hl,p0,p1,q1,q2⟩:=h;rfl
 obtain⟨cs,p,rfl,hl,p0,p1,q1,q2⟩:=h;have nd:=sc_0j.nd;obtain⟨u_Z0a,h_Z0a,r_Z0a⟩:=T.k_Z0a;refine⟨_,(zbc (zfz (i:=2) nd rfl (Or.inl rfl) (zeB (c:=46) (by decide+kernel) (by decide+kernel) (zeB (c:=45) (by decide+kernel) (by decide+kernel) (PE.t (pv 0))))) (PSs.t (zaf (zaU (zas zc0 (zan zb5 (by rfl) T.no_len zbB (zaa (pv 2) zad)) (zbe (by rfl) h_Z0a r_Z0a) (zar _)) (zah (zbs L T.ex_Z0h (by rfl) (by rfl) T.mg_Z0h (zaa zbP zad))) zaq) (zaf (zaU (zcf (zbC (zag L.toLv (ok_0i T) (hr.mono (by decide)) (by rfl) T.mg_0i T.fn_0i.kp T.b_0i .nil (zaa (pv 2) zad)))) (zah (zbs L T.ex_Z0h (by rfl) (by rfl) T.mg_Z0h (zaa zbP zad))) zaq) (zaf (zaw (i:=3) nd rfl (Or.inl rfl) (zbb zbF (by rfl) T.no_int zcR (zaa (pv 2) zad))) (zaf (zft (zaU (zbC (zcC PySem.F.plainAttrs_str PySem.F.slot_str_startswith PySem.F.type_str_startswith zdm (pv 0) (zaa (zak st_11) zad))) (zah (zaw (i:=3) nd rfl (Or.inl rfl) (zky zjH (pv 3)))) zaq)) (zaf (zaU (zas zcZ (zag L.toLv (ok_0h T) (hr.mono (by decide)) (by rfl) T.mg_0h T.fn_0h.kp T.b_0h .nil (zaa (pv 3) (zaa (pv 1) zad zab) zab)) (pv 0) (zar _)) (zah (zbs L T.ex_Z0h (by rfl) (by rfl) T.mg_Z0h (zaa zbP zad))) zaq) (zah (zam (pv 3)))))))))),?_⟩;open_k0;have l1:(cs.filter (· !=45)).length≤sizeLine:=Nat.le_trans (List.length_filter_le ..) hl;have l2:((cs.filter (· !=45)).filter (· !=46)).length≤sizeLine:=Nat.le_trans (List.length_filter_le ..) l1;refine⟨hl,l1,l2,?_⟩;have str: ∀n,cs=zcd n p.toNat→(cs.filter (· !=45)).filter (· !=46)=zf (dg n.natAbs) (p.toNat+1):=fun n e=>by rw[e,zc6]
 generalize (cs.filter (· !=45)).filter (· !=46)=fs at l2 str ⊢;split
 ·rename_i h;refine q2 (fun n w=> ?_) _ (zau.refl _);have e:=str n w.1;have c:=w.2;unfold zf2 at c;rw[e,zfA] at h;omega
 rename_i h60;refine⟨fs,rfl,l2,fun b hb=>⟨b,rfl,?_⟩⟩;split
 ·rename_i bf;refine q2 (fun n w=> ?_) _ (zau.refl _);have e:=str n w.1;have z:b=true:=hb.mpr ⟨e ▸ ze8 _ _,fun z=>by
   have:=zfA n.natAbs p.toNat;rw[←e,z] at this
   have:=zfx (n.natAbs / 10 ^ p.toNat);rw[List.length_nil] at*;omega⟩
  rw[bf] at z;cases z
 rename_i bt;obtain⟨ad,ne⟩:=hb.mp (by cases b with|true=>rfl|false=>exact absurd rfl bt);refine⟨ad,ne,by omega,?_⟩;have vb:PySem.NumText.digitsVal fs<10 ^ 60:=zfC fs ad (by omega);obtain⟨R,hR⟩: ∃R:St→Hp→Prop,R=fun σ' H'=>H'=H∧ ∃n:Int,n.natAbs=PySem.NumText.digitsVal fs∧(0<PySem.NumText.digitsVal fs→(n<0↔cs.head? =some 45))∧σ'= [some (.str (SL cs)),some (.int p),some (.str (SL fs)),some (.int n)]:=⟨_,rfl⟩
 refine⟨R,?_,fun σ2 H2 h2=> ?_⟩
 ·lge_open0
  refine⟨rfl,?_⟩;rw[hR];split
  ·rename_i h;exact⟨rfl,_,by omega,fun z=>⟨fun _=>h,fun _=>by omega⟩,rfl⟩
  ·rename_i h;exact⟨rfl,_,by omega,fun z=>⟨fun y=>absurd y (by omega),fun y=>absurd y h⟩,rfl⟩
 rw[hR] at h2;obtain⟨rfl,n,nv,ns,rfl⟩:=h2;clear hR;open_k0;refine⟨n,p,rfl,p0,p1,by omega,by omega,fun H3 s3=> ?_⟩;try open_k0
 have key: ∀n',cs=zcd n' p.toNat→n'=n:=fun n' e=>by
  have e1:=str n' e;rw[e1,zh8] at nv ns;have e2:=zdS n' p.toNat;rw[←e] at e2;by_cases z:0<n'.natAbs
  ·have t1:=ns z;by_cases y:n'<0
   ·have:=t1.mpr (e2.mpr y);omega
   ·have: ¬n<0:=fun x=>y (e2.mp (t1.mp x));omega
  ·omega
 split
 ·rename_i h;exact q2 (fun n' w=>h (by rw[←key n' w.1];exact w.1.symm)) _ s3
 ·rename_i h;have e:zcd n p.toNat=cs:=Classical.byContradiction h;refine q1 n ⟨e.symm,?_⟩ _ s3;have e1:=str n e.symm;unfold zf2;rw[←zfA,←e1];omega
def zhD:Sp:=fun vs H Q _=> ∃d:D,vs= [sv d]∧zeD d∧Q (.bl (isI d)) H
theorem sc_00:FnScope ["value"] ["value"] (zai s_00):=⟨rfl,rfl,rfl,by decide+kernel,rfl,by decide+kernel,by decide+kernel⟩
theorem ok_00(T:Txt K mg t):FnOk P w K mg base (CXE P w) 1 t.a_00 t.d_00 ["value"] (zhD):=by
 refine T.fn_00.okX sc_00 (fun vs H Q E h=> ?_) (fun cdv A outer s H vs Q E L hr h=> ?_)
 ·obtain⟨d,rfl,hd,q⟩:=h;rfl
 obtain⟨d,rfl,hd,q⟩:=h;have nd:=sc_00.nd;refine⟨_,(zah (zam (zcg (zan zba (by rfl) T.no_isinstance zaN (zaa (pv 0) (zaa (zcG (by rfl) T.no_int zcR) zad zab) zab)) (zbZ (zge (zan zba (by rfl) T.no_isinstance zaN (zaa (pv 0) (zaa (zcG (by rfl) T.no_bool zgS) zad zab) zab))))))),?_⟩;rcases hd with⟨i,rfl⟩|⟨cs,rfl,hl⟩
 ·simp only[za1,zb7,zaM,zbu,za6,za5,zbw,zaD,zaK,zaL,zaJ,zbl,zbt,za4,zaW,zax,zap,zay,zbH,List.replicate,Option.join_some,Option.join_none,zaQ,zb4,zbr,zaC,tSl,zb3,zb2,zb8,slT,zbW,Int.reduceLT,Int.reduceLE,Int.reduceToNat,Int.reduceNeg,Int.reduceAdd,Int.reduceSub,Int.reduceMul,forall_const,zbT,zbp,zbQ,zbU,zbv,zbq,zbL,zbd,zbh,zbV,zbR,tC,tOp,rI,rI0,tUn,rU,zbj,tB,zbX,tOr,zbS,zbn,zbY,zbo,tIf,zbk,zb1,zaX,za3,tCB,zaZ,rEq,rNe,zaE,zaF,zaG,zaH,zaI,za2,zb0,ipI,L2.start,List.map_cons,List.map_nil,List.length_cons,List.length_nil,List.cons_append,List.nil_append,List.append_nil,List.replicate_succ,List.replicate_zero,Nat.reduceAdd,Nat.reduceSub,List.getElem?_cons_zero,List.getElem?_cons_succ,List.set_cons_zero,List.set_cons_succ,Option.some.injEq,V.int.injEq,V.bl.injEq,V.ref.injEq,V.str.injEq,exists_eq_left',exists_eq_left,exists_eq',exists_and_left,List.cons.injEq,and_true,true_and,and_self,and_assoc,decide_eq_true_eq,if_true,if_false,Bool.true_eq_false,Bool.false_eq_true,Bool.not_eq_true',Bool.not_true,Bool.not_false,decide_eq_false_iff_not,ite_true,ite_false,reduceCtorEq,false_and,exists_false,false_or,or_false,and_false,Nat.reduceLeDiff,sv];refine⟨_, .old (.int _),_,rfl,_,zd0,?_⟩;rw[if_pos rfl];refine⟨_, .old (.int _),_,rfl,_,zdA,?_⟩;exact q
 ·simp only[za1,zb7,zaM,zbu,za6,za5,zbw,zaD,zaK,zaL,zaJ,zbl,zbt,za4,zaW,zax,zap,zay,zbH,List.replicate,Option.join_some,Option.join_none,zaQ,zb4,zbr,zaC,tSl,zb3,zb2,zb8,slT,zbW,Int.reduceLT,Int.reduceLE,Int.reduceToNat,Int.reduceNeg,Int.reduceAdd,Int.reduceSub,Int.reduceMul,forall_const,zbT,zbp,zbQ,zbU,zbv,zbq,zbL,zbd,zbh,zbV,zbR,tC,tOp,rI,rI0,tUn,rU,zbj,tB,zbX,tOr,zbS,zbn,zbY,zbo,tIf,zbk,zb1,zaX,za3,tCB,zaZ,rEq,rNe,zaE,zaF,zaG,zaH,zaI,za2,zb0,ipI,L2.start,List.map_cons,List.map_nil,List.length_cons,List.length_nil,List.cons_append,List.nil_append,List.append_nil,List.replicate_succ,List.replicate_zero,Nat.reduceAdd,Nat.reduceSub,List.getElem?_cons_zero,List.getElem?_cons_succ,List.set_cons_zero,List.set_cons_succ,Option.some.injEq,V.int.injEq,V.bl.injEq,V.ref.injEq,V.str.injEq,exists_eq_left',exists_eq_left,exists_eq',exists_and_left,List.cons.injEq,and_true,true_and,and_self,and_assoc,decide_eq_true_eq,if_true,if_false,Bool.true_eq_false,Bool.false_eq_true,Bool.not_eq_true',Bool.not_true,Bool.not_false,decide_eq_false_iff_not,ite_true,ite_false,reduceCtorEq,false_and,exists_false,false_or,or_false,and_false,Nat.reduceLeDiff,sv];refine⟨_, .old (.str _),_,rfl,_,zf3,?_⟩;rw[if_neg (by decide)];exact q
def zkO:Sp:=fun vs H Q _=> ∃(d:D) (lo hi:Int),vs= [sv d, .int lo, .int hi]∧zeD d∧Q (.bl (btw lo hi d)) H
theorem sc_01:FnScope ["value","least","greatest"] ["value","least","greatest"] (zai s_01):=⟨rfl,rfl,rfl,by decide+kernel,rfl,by decide+kernel,by decide+kernel⟩
theorem ok_01(T:Txt K mg t):FnOk P w K mg base (CXE P w) 2 t.a_01 t.d_01 ["value","least","greatest"] (zkO):=by
 refine T.fn_01.okX sc_01 (fun vs H Q E h=> ?_) (fun cdv A outer s H vs Q E L hr h=> ?_)
 ·obtain⟨d,lo,hi,rfl,hd,q⟩:=h;rfl
 obtain⟨d,lo,hi,rfl,hd,q⟩:=h;have nd:=sc_01.nd;refine⟨_,(zah (zam (zcg (zag L.toLv (ok_00 T) (hr.mono (by decide)) (by rfl) T.mg_00 T.fn_00.kp T.b_00 .nil (zaa (pv 0) zad)) (zcg (zbA zhT (pv 1) (pv 0) (zar _)) (zbZ (zbA zhT (pv 0) (pv 2) (zar _))))))),?_⟩;open_k0;refine⟨d,rfl,hd,?_⟩;rcases hd with⟨i,rfl⟩|⟨cs,rfl,hl⟩
 ·have e:btw lo hi (.int i)=(decide (lo≤i) && decide (i≤hi)):=rfl;rw[e] at q;simp only[za1,zb7,zaM,zbu,za6,za5,zbw,zaD,zaK,zaL,zaJ,zbl,zbt,za4,zaW,zax,zap,zay,zbH,List.replicate,Option.join_some,Option.join_none,zaQ,zb4,zbr,zaC,tSl,zb3,zb2,zb8,slT,zbW,Int.reduceLT,Int.reduceLE,Int.reduceToNat,Int.reduceNeg,Int.reduceAdd,Int.reduceSub,Int.reduceMul,forall_const,zbT,zbp,zbQ,zbU,zbv,zbq,zbL,zbd,zbh,zbV,zbR,tC,tOp,rI,rI0,tUn,rU,zbj,tB,zbX,tOr,zbS,zbn,zbY,zbo,tIf,zbk,zb1,zaX,za3,tCB,zaZ,rEq,rNe,zaE,zaF,zaG,zaH,zaI,za2,zb0,ipI,L2.start,List.map_cons,List.map_nil,List.length_cons,List.length_nil,List.cons_append,List.nil_append,List.append_nil,List.replicate_succ,List.replicate_zero,Nat.reduceAdd,Nat.reduceSub,List.getElem?_cons_zero,List.getElem?_cons_succ,List.set_cons_zero,List.set_cons_succ,Option.some.injEq,V.int.injEq,V.bl.injEq,V.ref.injEq,V.str.injEq,exists_eq_left',exists_eq_left,exists_eq',exists_and_left,List.cons.injEq,and_true,true_and,and_self,and_assoc,decide_eq_true_eq,if_true,if_false,Bool.true_eq_false,Bool.false_eq_true,Bool.not_eq_true',Bool.not_true,Bool.not_false,decide_eq_false_iff_not,ite_true,ite_false,reduceCtorEq,false_and,exists_false,false_or,or_false,and_false,Nat.reduceLeDiff,sv,isI];by_cases h1:lo≤i
  ·rw[if_pos h1];rw[decide_eq_true h1,Bool.true_and] at q;exact q
  ·rw[if_neg h1];rw[decide_eq_false h1,Bool.false_and] at q;exact q
 ·simp only[za1,zb7,zaM,zbu,za6,za5,zbw,zaD,zaK,zaL,zaJ,zbl,zbt,za4,zaW,zax,zap,zay,zbH,List.replicate,Option.join_some,Option.join_none,zaQ,zb4,zbr,zaC,tSl,zb3,zb2,zb8,slT,zbW,Int.reduceLT,Int.reduceLE,Int.reduceToNat,Int.reduceNeg,Int.reduceAdd,Int.reduceSub,Int.reduceMul,forall_const,zbT,zbp,zbQ,zbU,zbv,zbq,zbL,zbd,zbh,zbV,zbR,tC,tOp,rI,rI0,tUn,rU,zbj,tB,zbX,tOr,zbS,zbn,zbY,zbo,tIf,zbk,zb1,zaX,za3,tCB,zaZ,rEq,rNe,zaE,zaF,zaG,zaH,zaI,za2,zb0,ipI,L2.start,List.map_cons,List.map_nil,List.length_cons,List.length_nil,List.cons_append,List.nil_append,List.append_nil,List.replicate_succ,List.replicate_zero,Nat.reduceAdd,Nat.reduceSub,List.getElem?_cons_zero,List.getElem?_cons_succ,List.set_cons_zero,List.set_cons_succ,Option.some.injEq,V.int.injEq,V.bl.injEq,V.ref.injEq,V.str.injEq,exists_eq_left',exists_eq_left,exists_eq',exists_and_left,List.cons.injEq,and_true,true_and,and_self,and_assoc,decide_eq_true_eq,if_true,if_false,Bool.true_eq_false,Bool.false_eq_true,Bool.not_eq_true',Bool.not_true,Bool.not_false,decide_eq_false_iff_not,ite_true,ite_false,reduceCtorEq,false_and,exists_false,false_or,or_false,and_false,isI];exact q
def ziw:Sp:=fun vs H Q _=> ∃d:D,vs= [sv d]∧zeD d∧Q (.bl (zhv d)) H
theorem sc_02:FnScope ["value","sign"] ["value"] (zai s_02):=⟨rfl,rfl,rfl,by decide+kernel,rfl,by decide+kernel,by decide+kernel⟩
theorem ok_02(T:Txt K mg t):FnOk P w K mg base (CXE P w) 1 t.a_02 t.d_02 ["value"] (ziw):=by
 refine T.fn_02.okX sc_02 (fun vs H Q E h=> ?_) (fun cdv A outer s H vs Q E L hr h=> ?_)
 ·obtain⟨d,rfl,hd,q⟩:=h;rfl
 obtain⟨d,rfl,hd,q⟩:=h;have nd:=sc_02.nd;obtain⟨u_Z0c,h_Z0c,r_Z0c⟩:=T.k_Z0c;obtain⟨u_Z06,h_Z06,r_Z06⟩:=T.k_Z06;refine⟨_,(zaf (zaU (zcu (zcf (zbC (zan zba (by rfl) T.no_isinstance zaN (zaa (pv 0) (zaa (zcG (by rfl) T.no_str zct) zad zab) zab)))) (zcu (zas zdl (zan zb5 (by rfl) T.no_len zbB (zaa (pv 0) zad)) zae (zar _)) (zcq (zas zc0 (zan zb5 (by rfl) T.no_len zbB (zaa (pv 0) zad)) (zbe (by rfl) h_Z0c r_Z0c) (zar _))))).pt (zah (zam zcl)) zaq) (zaf (zcK (by passes_own) rfl (zfu (pv 0)) (zao (i:=1) nd rfl (Or.inl rfl)) (zah (zaU (zas zdq (pv 1) (zbe (by rfl) h_Z06 r_Z06) rfl) (zah (zam zcl)) zaq))) (zah (zam zcl)))),?_⟩;rcases hd with⟨i,rfl⟩|⟨cs,rfl,hl⟩
 ·simp only[za1,zb7,zaM,zbu,za6,za5,zbw,zaD,zaK,zaL,zaJ,zbl,zbt,za4,zaW,zax,zap,zay,zbH,List.replicate,Option.join_some,Option.join_none,zaQ,zb4,zbr,zaC,tSl,zb3,zb2,zb8,slT,zbW,Int.reduceLT,Int.reduceLE,Int.reduceToNat,Int.reduceNeg,Int.reduceAdd,Int.reduceSub,Int.reduceMul,forall_const,zbT,zbp,zbQ,zbU,zbv,zbq,zbL,zbd,zbh,zbV,zbR,tC,tOp,rI,rI0,tUn,rU,zbj,tB,zbX,tOr,zbS,zbn,zbY,zbo,tIf,zbk,zb1,zaX,za3,tCB,zaZ,rEq,rNe,zaE,zaF,zaG,zaH,zaI,za2,zb0,ipI,L2.start,List.map_cons,List.map_nil,List.length_cons,List.length_nil,List.cons_append,List.nil_append,List.append_nil,List.replicate_succ,List.replicate_zero,Nat.reduceAdd,Nat.reduceSub,List.getElem?_cons_zero,List.getElem?_cons_succ,List.set_cons_zero,List.set_cons_succ,Option.some.injEq,V.int.injEq,V.bl.injEq,V.ref.injEq,V.str.injEq,exists_eq_left',exists_eq_left,exists_eq',exists_and_left,List.cons.injEq,and_true,true_and,and_self,and_assoc,decide_eq_true_eq,if_true,if_false,Bool.true_eq_false,Bool.false_eq_true,Bool.not_eq_true',Bool.not_true,Bool.not_false,decide_eq_false_iff_not,ite_true,ite_false,reduceCtorEq,false_and,exists_false,false_or,or_false,and_false,Nat.reduceLeDiff,sv];refine⟨_, .old (.int _),_,rfl,_,zd5,?_⟩;rw[if_pos (by decide)];exact q
 ·simp only[za1,zb7,zaM,zbu,za6,za5,zbw,zaD,zaK,zaL,zaJ,zbl,zbt,za4,zaW,zax,zap,zay,zbH,List.replicate,Option.join_some,Option.join_none,zaQ,zb4,zbr,zaC,tSl,zb3,zb2,zb8,slT,zbW,Int.reduceLT,Int.reduceLE,Int.reduceToNat,Int.reduceNeg,Int.reduceAdd,Int.reduceSub,Int.reduceMul,forall_const,zbT,zbp,zbQ,zbU,zbv,zbq,zbL,zbd,zbh,zbV,zbR,tC,tOp,rI,rI0,tUn,rU,zbj,tB,zbX,tOr,zbS,zbn,zbY,zbo,tIf,zbk,zb1,zaX,za3,tCB,zaZ,rEq,rNe,zaE,zaF,zaG,zaH,zaI,za2,zb0,ipI,L2.start,List.map_cons,List.map_nil,List.length_cons,List.length_nil,List.cons_append,List.nil_append,List.append_nil,List.replicate_succ,List.replicate_zero,Nat.reduceAdd,Nat.reduceSub,List.getElem?_cons_zero,List.getElem?_cons_succ,List.set_cons_zero,List.set_cons_succ,Option.some.injEq,V.int.injEq,V.bl.injEq,V.ref.injEq,V.str.injEq,exists_eq_left',exists_eq_left,exists_eq',exists_and_left,List.cons.injEq,and_true,true_and,and_self,and_assoc,decide_eq_true_eq,if_true,if_false,Bool.true_eq_false,Bool.false_eq_true,Bool.not_eq_true',Bool.not_true,Bool.not_false,decide_eq_false_iff_not,ite_true,ite_false,reduceCtorEq,false_and,exists_false,false_or,or_false,and_false,Nat.reduceLeDiff,sv];refine⟨_, .old (.str _),_,rfl,_,zcH,?_⟩;rw[if_neg (by decide)];have e:zhv (.str cs)=(decide (1≤cs.length) && decide (cs.length≤8) && cs.all fun c=>decide (97≤c∧c≤122)):=rfl;rw[e] at q;refine⟨hl,za8 (fun h=> ?_) (fun h=>⟨hl,za8 (fun h2=> ?_) (fun h2=> ?_)⟩)⟩
  ·rw[decide_eq_false (show¬1≤cs.length by omega),Bool.false_and,Bool.false_and] at q;exact q
  ·rw[decide_eq_false (show¬cs.length≤8 by omega),Bool.and_false,Bool.false_and] at q;exact q
  rw[decide_eq_true (show 1≤cs.length by omega),decide_eq_true (show cs.length≤8 by omega),Bool.true_and,Bool.true_and] at q;refine⟨_,rfl,_,rfl,?_⟩;refine zed (cs:=cs) (fun i σ1 H1=>H1=H∧(∃e,σ1= [some (.str (SL cs)),e])∧ ∀j c,j<i→cs[j]? =some c→97≤c∧c≤122) ⟨rfl,⟨none,rfl⟩,fun j c h=>absurd h (Nat.not_lt_zero _)⟩ (fun i c σ1 H1 hc h=> ?_) (fun σ1 H1 h=> ?_)
  ·obtain⟨rfl,⟨e,rfl⟩,h⟩:=h;open_k0;by_cases ok:97≤c∧c≤122
   ·rw[if_neg (fun z=>z ((zjt c).mpr ok))];intro j c' hj hc';by_cases z:j=i
    ·subst z;rw[hc] at hc';cases hc';exact ok
    ·exact h j c' (by omega) hc'
   ·rw[if_pos (fun z=>ok ((zjt c).mp z))]
    have:(cs.all fun c=>decide (97≤c∧c≤122))=false:=by
     rw[Bool.eq_false_iff];intro z;exact ok (of_decide_eq_true (List.all_eq_true.mp z c (List.mem_of_getElem? hc)))
    rw[this] at q;exact q
  ·obtain⟨rfl,⟨e,rfl⟩,h⟩:=h;open_k0
   have:(cs.all fun c=>decide (97≤c∧c≤122))=true:=by
    rw[List.all_eq_true];intro c hc;obtain⟨j,hj,e⟩:=List.getElem_of_mem hc;exact decide_eq_true (h j c hj (by rw[List.getElem?_eq_getElem hj,e]))
   rw[this] at q;exact q
def zhE:Sp:=fun vs H Q _=> ∃d:D,vs= [sv d]∧zeD d∧Q (.bl (btw 0 (10 ^ 30 - 1) d)) H
theorem sc_03:FnScope ["value"] ["value"] (zai s_03):=⟨rfl,rfl,rfl,by decide+kernel,rfl,by decide+kernel,by decide+kernel⟩
theorem ok_03(T:Txt K mg t):FnOk P w K mg base (CXE P w) 3 t.a_03 t.d_03 ["value"] (zhE):=by
 refine T.fn_03.okX sc_03 (fun vs H Q E h=> ?_) (fun cdv A outer s H vs Q E L hr h=> ?_)
 ·obtain⟨d,rfl,hd,q⟩:=h;rfl
 obtain⟨d,rfl,hd,q⟩:=h;have nd:=sc_03.nd;refine⟨_,(zah (zam (zag L.toLv (ok_01 T) (hr.mono (by decide)) (by rfl) T.mg_01 T.fn_01.kp T.b_01 .nil (zaa (pv 0) (zaa zae (zaa (zal zdo (zal zhR zae zae) zae) zad za0) zac) zab)))),?_⟩;open_k0;exact⟨⟨by decide,by decide,by decide⟩,d,_,_,rfl,hd,q⟩
def zix(K:Fg):Sp:=fun vs H Q _=> ∃(a:Addr) (ds:List D),vs= [.ref a]∧SqT K H a (ds.map sv)∧(∀d∈ds,zeD d)∧Q (.bl (zcU ds)) H
theorem sc_04:FnScope ["plan","name","price","count"] ["plan"] (zai s_04):=⟨rfl,rfl,rfl,by decide+kernel,rfl,by decide+kernel,by decide+kernel⟩
theorem ok_04(T:Txt K mg t):FnOk P w K mg base (CXE P w) 4 t.a_04 t.d_04 ["plan"] (zix K):=by
 refine T.fn_04.okX sc_04 (fun vs H Q E h=> ?_) (fun cdv A outer s H vs Q E L hr h=> ?_)
 ·obtain⟨a,ds,rfl,hS,hd,q⟩:=h;rfl
 obtain⟨a,ds,rfl,hS,hd,q⟩:=h;have nd:=sc_04.nd;obtain⟨u_Z08,h_Z08,r_Z08⟩:=T.k_Z08;refine⟨_,(zaf (zaU (zas zcZ (zan zaS (by rfl) T.no_len zbB (zaa (pv 0) zad)) zae (zar _)) (zah (zam zcl)) zaq) (zaf (zcr (pv 0) (zb9 (n:=3) rfl (zav (zao (i:=1) nd rfl (Or.inl rfl)) (zav (zao (i:=2) nd rfl (Or.inl rfl)) (zav (zao (i:=3) nd rfl (Or.inl rfl)) zbG))))) (zah (zam (zcg (zag L.toLv (ok_02 T) (hr.mono (by decide)) (by rfl) T.mg_02 T.fn_02.kp T.b_02 .nil (zaa (pv 1) zad)) (zcg (zag L.toLv (ok_03 T) (hr.mono (by decide)) (by rfl) T.mg_03 T.fn_03.kp T.b_03 .nil (zaa (pv 2) zad)) (zbZ (zag L.toLv (ok_01 T) (hr.mono (by decide)) (by rfl) T.mg_01 T.fn_01.kp T.b_01 .nil (zaa (pv 3) (zaa zae (zaa (zbe (by rfl) h_Z08 r_Z08) zad zab) zac) zab))))))))),?_⟩;open_k0;refine⟨_, .inr hS,?_⟩;rw[List.length_map];refine za8 (fun h=> ?_) (fun h=> ?_)
 ·have:zcU ds=false:=by
   rw[Bool.eq_false_iff];intro z;obtain⟨_,_,_,rfl⟩:=zdI z;exact h rfl
  rw[this] at q;exact q
 obtain⟨n,p,c,rfl⟩: ∃n p c,ds= [n,p,c]:=by
  match ds,(show ds.length=3 by omega) with
  | [n,p,c],_=>exact⟨n,p,c,rfl⟩
 refine⟨a,_,rfl,hS,rfl,?_⟩;open_k0;refine⟨n,rfl,hd n (by simp),_,rfl,?_⟩;have e:zcU [n,p,c]=(zhv n && (btw 0 (10 ^ 30 - 1) p && btw 0 400 c)):=rfl;rw[e] at q;refine za8 (fun h1=> ?_) (fun h1=> ?_)
 ·rw[h1,Bool.true_and] at q;refine⟨p,rfl,hd p (by simp),_,rfl,?_⟩;refine za8 (fun h2=> ?_) (fun h2=> ?_)
  ·rw[h2,Bool.true_and] at q;exact⟨c,_,_,rfl,hd c (by simp),q⟩
  ·rw[Bool.eq_false_iff.mpr h2,Bool.false_and] at q;exact q
 ·rw[Bool.eq_false_iff.mpr h1,Bool.false_and] at q;exact q
def zhF(K:Fg):Sp:=fun vs H Q _=> ∃(a:Addr) (ds:List D),vs= [.ref a]∧SqT K H a (ds.map sv)∧(∀d∈ds,zeD d)∧Q (.bl (zfb ds)) H
theorem sc_05:FnScope ["cycle","word","many"] ["cycle"] (zai s_05):=⟨rfl,rfl,rfl,by decide+kernel,rfl,by decide+kernel,by decide+kernel⟩
theorem ok_05(T:Txt K mg t):FnOk P w K mg base (CXE P w) 3 t.a_05 t.d_05 ["cycle"] (zhF K):=by
 refine T.fn_05.okX sc_05 (fun vs H Q E h=> ?_) (fun cdv A outer s H vs Q E L hr h=> ?_)
 ·obtain⟨a,ds,rfl,hS,hd,q⟩:=h;rfl
 obtain⟨a,ds,rfl,hS,hd,q⟩:=h;have nd:=sc_05.nd;obtain⟨u_Z09,h_Z09,r_Z09⟩:=T.k_Z09;obtain⟨u_Z0d,h_Z0d,r_Z0d⟩:=T.k_Z0d;refine⟨_,(zaf (zaU (zas zcZ (zan zaS (by rfl) T.no_len zbB (zaa (pv 0) zad)) zae (zar _)) (zah (zam zcl)) zaq) (zaf (zcr (pv 0) (zb9 (n:=2) rfl (zav (zao (i:=1) nd rfl (Or.inl rfl)) (zav (zao (i:=2) nd rfl (Or.inl rfl)) zbG)))) (zaf (zaU (zas zca (pv 1) (zak st_0) (zar _)) (zah (zam (zag L.toLv (ok_01 T) (hr.mono (by decide)) (by rfl) T.mg_01 T.fn_01.kp T.b_01 .nil (zaa (pv 2) (zaa zae (zaa (zbe (by rfl) h_Z09 r_Z09) zad zab) zac) zab)))) zaq) (zaf (zaU (zas zca (pv 1) (zak st_1) (zar _)) (zah (zam (zag L.toLv (ok_01 T) (hr.mono (by decide)) (by rfl) T.mg_01 T.fn_01.kp T.b_01 .nil (zaa (pv 2) (zaa zae (zaa (zbe (by rfl) h_Z0d r_Z0d) zad zab) zac) zab)))) zaq) (zah (zam zcl)))))),?_⟩;open_k0;refine⟨_, .inr hS,?_⟩;rw[List.length_map];refine za8 (fun h=> ?_) (fun h=> ?_)
 ·rw[zhw (fun z=>h (by omega))] at q;exact q
 obtain⟨w',c,rfl⟩: ∃w' c,ds= [w',c]:=by
  match ds,(show ds.length=2 by omega) with
  | [w',c],_=>exact⟨w',c,rfl⟩
 refine⟨a,_,rfl,hS,rfl,?_⟩;have hcs:=hd c (by simp);rcases hd w' (by simp) with⟨i,rfl⟩|⟨cs,rfl,hl⟩
 ·simp only[za1,zb7,zaM,zbu,za6,za5,zbw,zaD,zaK,zaL,zaJ,zbl,zbt,za4,zaW,zax,zap,zay,zbH,List.replicate,Option.join_some,Option.join_none,zaQ,zb4,zbr,zaC,tSl,zb3,zb2,zb8,slT,zbW,Int.reduceLT,Int.reduceLE,Int.reduceToNat,Int.reduceNeg,Int.reduceAdd,Int.reduceSub,Int.reduceMul,forall_const,zbT,zbp,zbQ,zbU,zbv,zbq,zbL,zbd,zbh,zbV,zbR,tC,tOp,rI,rI0,tUn,rU,zbj,tB,zbX,tOr,zbS,zbn,zbY,zbo,tIf,zbk,zb1,zaX,za3,tCB,zaZ,rEq,rNe,zaE,zaF,zaG,zaH,zaI,za2,zb0,ipI,L2.start,List.map_cons,List.map_nil,List.length_cons,List.length_nil,List.cons_append,List.nil_append,List.append_nil,List.replicate_succ,List.replicate_zero,Nat.reduceAdd,Nat.reduceSub,List.getElem?_cons_zero,List.getElem?_cons_succ,List.set_cons_zero,List.set_cons_succ,Option.some.injEq,V.int.injEq,V.bl.injEq,V.ref.injEq,V.str.injEq,exists_eq_left',exists_eq_left,exists_eq',exists_and_left,List.cons.injEq,and_true,true_and,and_self,and_assoc,decide_eq_true_eq,if_true,if_false,Bool.true_eq_false,Bool.false_eq_true,Bool.not_eq_true',Bool.not_true,Bool.not_false,decide_eq_false_iff_not,ite_true,ite_false,reduceCtorEq,false_and,exists_false,false_or,or_false,and_false,Nat.reduceLeDiff,sv];exact⟨rfl,rfl,q⟩
 ·simp only[za1,zb7,zaM,zbu,za6,za5,zbw,zaD,zaK,zaL,zaJ,zbl,zbt,za4,zaW,zax,zap,zay,zbH,List.replicate,Option.join_some,Option.join_none,zaQ,zb4,zbr,zaC,tSl,zb3,zb2,zb8,slT,zbW,Int.reduceLT,Int.reduceLE,Int.reduceToNat,Int.reduceNeg,Int.reduceAdd,Int.reduceSub,Int.reduceMul,forall_const,zbT,zbp,zbQ,zbU,zbv,zbq,zbL,zbd,zbh,zbV,zbR,tC,tOp,rI,rI0,tUn,rU,zbj,tB,zbX,tOr,zbS,zbn,zbY,zbo,tIf,zbk,zb1,zaX,za3,tCB,zaZ,rEq,rNe,zaE,zaF,zaG,zaH,zaI,za2,zb0,ipI,L2.start,List.map_cons,List.map_nil,List.length_cons,List.length_nil,List.cons_append,List.nil_append,List.append_nil,List.replicate_succ,List.replicate_zero,Nat.reduceAdd,Nat.reduceSub,List.getElem?_cons_zero,List.getElem?_cons_succ,List.set_cons_zero,List.set_cons_succ,Option.some.injEq,V.int.injEq,V.bl.injEq,V.ref.injEq,V.str.injEq,exists_eq_left',exists_eq_left,exists_eq',exists_and_left,List.cons.injEq,and_true,true_and,and_self,and_assoc,decide_eq_true_eq,if_true,if_false,Bool.true_eq_false,Bool.false_eq_true,Bool.not_eq_true',Bool.not_true,Bool.not_false,decide_eq_false_iff_not,ite_true,ite_false,reduceCtorEq,false_and,exists_false,false_or,or_false,and_false,Nat.reduceLeDiff,sv];have e:zfb [.str cs,c]=(if cs= [100,97,121,115] then btw 1 400 c else if cs= [109,111,110,116,104,115] then btw 1 12 c else false):=rfl;rw[e] at q;by_cases h1:cs= [100,97,121,115]
  ·rw[if_pos h1] at q ⊢;exact⟨c,_,_,rfl,hcs,q⟩
  ·rw[if_neg h1] at q ⊢;by_cases h2:cs= [109,111,110,116,104,115]
   ·rw[if_pos h2] at q ⊢;exact⟨c,_,_,rfl,hcs,q⟩
   ·rw[if_neg h2] at q ⊢;exact q
def zfI(K:Fg)(t:Adr):Sp:=fun vs H Q E=> ∃(a:Addr) (dss:List (List D)),vs= [.ref a]∧Dp K H 2 (.lst (dss.map D.tup)) (.ref a)∧(∀ds∈dss,∀d∈ds,zeD d)∧dss.length≤100∧
 (zeg dss→ ∀H',zau H H'→Q .non H')∧(¬zeg dss→ ∀H',zau H H'→E (.ref t.c_Z0g) none H')
theorem sc_06:FnScope ["plans","names","plan","name"] ["plans"] (zai s_06):=⟨rfl,rfl,rfl,by decide+kernel,rfl,by decide+kernel,by decide+kernel⟩
theorem ok_06(T:Txt K mg t):FnOk P w K mg base (CXE P w) 5 t.a_06 t.d_06 ["plans"] (zfI K t):=by
 refine T.fn_06.okX sc_06 (fun vs H Q E h=> ?_) (fun cdv A outer s H vs Q E L hr h=> ?_)
 ·obtain⟨a,dss,rfl,hD,hd,hl,q1,q2⟩:=h;rfl
 obtain⟨a,dss,rfl,hD,hd,hl,q1,q2⟩:=h;have nd:=sc_06.nd;obtain⟨u_Z0f,h_Z0f,r_Z0f⟩:=T.k_Z0f;refine⟨_,(zaf (zaU (zcu (zas zdl (zan zaS (by rfl) T.no_len zbB (zaa (pv 0) zad)) zae (zar _)) (zcq (zas zc0 (zan zaS (by rfl) T.no_len zbB (zaa (pv 0) zad)) (zbe (by rfl) h_Z0f r_Z0f) (zar _)))).pt (zah (zbs L T.ex_Z0g (by rfl) (by rfl) T.mg_Z0g (zaa zbP zad))) zaq) (zaf (zaw (i:=1) nd rfl (Or.inl rfl) zig) (zah (zcK (by passes_own) rfl (zcv (pv 0)) (zao (i:=2) nd rfl (Or.inl rfl)) (zaf (zaU (zcf (zbC (zag L.toLv (ok_04 T) (hr.mono (by decide)) (by rfl) T.mg_04 T.fn_04.kp T.b_04 .nil (zaa (pv 2) zad)))) (zah (zbs L T.ex_Z0g (by rfl) (by rfl) T.mg_Z0g (zaa zbP zad))) zaq) (zaf (zaw (i:=3) nd rfl (Or.inl rfl) (za9 zc2 (pv 2) zae (fun _ _=>rfl))) (zaf (zaU (zjA (zjZ (zjm hr) (pv 3) (pv 1))) (zah (zbs L T.ex_Z0g (by rfl) (by rfl) T.mg_Z0g (zaa zbP zad))) zaq) (zah (zi2 (zjm hr) (pv 1) (pv 3) zcl rfl))))))))),?_⟩;unfold Dp at hD;obtain⟨a',xs,e,hS,hA⟩:=hD;cases e;have xl:=zcD hA;rw[List.length_map] at xl;open_k0;refine⟨_, .inl hS,za8 (fun h=>q2 (fun g=>by have:=g.1;omega) _ (zau.refl _)) (fun h1=>⟨_, .inl hS,za8 (fun h=>q2 (fun g=>by have:=g.2.1;omega) _ (zau.refl _)) (fun h2=> ?_)⟩)⟩;intro pd H1 hpd s1 e1
 ((try dsimp only);refine zex fun R hR=> ?_;simp only[za1,zb7,zaM,zbu,za6,za5,zbw,zaD,zaK,zaL,zaJ,zbl,zbt,za4,zaW,zax,zap,zay,zbH,List.replicate,Option.join_some,Option.join_none,zaQ,zb4,zbr,zaC,tSl,zb3,zb2,zb8,slT,zbW,Int.reduceLT,Int.reduceLE,Int.reduceToNat,Int.reduceNeg,Int.reduceAdd,Int.reduceSub,Int.reduceMul,forall_const,zbT,zbp,zbQ,zbU,zbv,zbq,zbL,zbd,zbh,zbV,zbR,tC,tOp,rI,rI0,tUn,rU,zbj,tB,zbX,tOr,zbS,zbn,zbY,zbo,tIf,zbk,zb1,zaX,za3,tCB,zaZ,rEq,rNe,zaE,zaF,zaG,zaH,zaI,za2,zb0,ipI,L2.start,List.map_cons,List.map_nil,List.length_cons,List.length_nil,List.cons_append,List.nil_append,List.append_nil,List.replicate_succ,List.replicate_zero,Nat.reduceAdd,Nat.reduceSub,List.getElem?_cons_zero,List.getElem?_cons_succ,List.set_cons_zero,List.set_cons_succ,Option.some.injEq,V.int.injEq,V.bl.injEq,V.ref.injEq,V.str.injEq,exists_eq_left',exists_eq_left,exists_eq',exists_and_left,List.cons.injEq,and_true,true_and,and_self,and_assoc,decide_eq_true_eq,if_true,if_false,Bool.true_eq_false,Bool.false_eq_true,Bool.not_eq_true',Bool.not_true,Bool.not_false,decide_eq_false_iff_not,ite_true,ite_false,reduceCtorEq,false_and,exists_false,false_or,or_false,and_false,zdY,zjF,zjV,zeU,zgL,Nat.reduceLeDiff])
 refine⟨⟨_,s1.seq hS⟩,hR _ _ ?_⟩;clear hR;refine zel (xs:=xs) (fun i σ1 H2=>zau H H2∧H2 pd=some (zk3 ((dss.take i).map zgv))∧(∀ds∈dss.take i,zcU ds=true)∧((dss.take i).map zgv).Nodup∧ ∃x2 x3,σ1= [some (.ref a),some (.ref pd),x2,x3]) ⟨s1,e1,(fun ds h=>absurd h (by simp)),by simp,_,_,rfl⟩ (fun _ _ _ _ h=>h.1.seq hS) (fun i x σ1 H2 hx h=> ?_) (fun σ1 H2 h=> ?_)
 ·obtain⟨s2,e2,po,pn,x2,x3,rfl⟩:=h;obtain⟨ds,hds,hp⟩:=zii hA hx;have hm:=List.mem_of_getElem? hds;unfold Dp at hp;obtain⟨p,ys,rfl,hT,hY⟩:=hp;obtain rfl:=zih hY (hd ds hm);have hT2:=s2.sqT hT;have et:dss.take (i+1)=dss.take i++ [ds]:=by rw[List.take_add_one,hds];rfl
  open_k0;refine⟨p,ds,rfl,hT2,hd ds hm,_,rfl,?_⟩;refine za8 (fun hb=>q2 (fun g=>by rw[g.2.2.1 ds hm] at hb;cases hb) _ s2) (fun hb=> ?_);have hok:zcU ds=true:=by
   cases h:zcU ds with
   |true=>rfl
   |false=>exact absurd h hb
  obtain⟨nm,pr,ct,rfl⟩:=zdI hok;refine ixT hT2 (v:= .str (SL nm)) rfl ?_;have en:(dss.take (i+1)).map zgv=(dss.take i).map zgv++ [nm]:=by
   rw[et,List.map_append];rfl
  have il:i<xs.length:=(List.getElem?_eq_some_iff.mp hx).1;refine⟨_,zeR.k (k:=Sum.inr (SL nm)) e2,?_⟩;rw[zfD];by_cases hmm:nm∈(dss.take i).map zgv
  ·rw[decide_eq_true hmm,if_pos rfl];refine q2 (fun g=> ?_) _ s2;have n2:((dss.take (i+1)).map zgv).Nodup:=g.2.2.2.sublist ((List.take_sublist _ _).map _);rw[en,List.nodup_append] at n2;exact n2.2.2 nm hmm nm (List.mem_singleton.mpr rfl) rfl
  ·rw[decide_eq_false hmm,if_neg (by decide)];refine⟨_,zgu.k (k:=Sum.inr (SL nm)) e2 (by rw[List.length_map,List.length_map,List.length_take];exact zhm (by omega)),zcO s2 hpd,?_,fun ds' h'=> ?_,?_⟩
   ·rw[zat,zi3 hmm,en];rfl
   ·rw[et] at h';rcases List.mem_append.mp h' with y|y
    ·exact po ds' y
    ·rw[List.mem_singleton.mp y];exact hok
   ·rw[en,List.nodup_append];refine⟨pn,by simp,fun a ha b hb e=> ?_⟩
    have:b=nm:=by simpa using hb
    rw[e,this] at ha;exact hmm ha
 ·obtain⟨s2,e2,po,pn,x2,x3,rfl⟩:=h;rw[←xl,List.take_length] at po pn;exact q1 ⟨by omega,by omega,po,pn⟩ _ s2
def zjc(K:Fg)(t:Adr):Sp:=fun vs H Q E=> ∃(p:Addr) (dss:List (List D)) (f:Int) (cds:List D),vs= [.ref p]∧Dp K H 3 (.tup [.lst (dss.map D.tup), .int f, .tup cds]) (.ref p)∧(∀ds∈dss,∀d∈ds,zeD d)∧(∀d∈cds,zeD d)∧dss.length≤100∧
 (zjs dss f cds→ ∀H',zau H H'→Q .non H')∧(¬zjs dss f cds→ ∀H',zau H H'→E (.ref t.c_Z0g) none H')
theorem sc_07:FnScope ["account","plans","first","cycle"] ["account"] (zai s_07):=⟨rfl,rfl,rfl,by decide+kernel,rfl,by decide+kernel,by decide+kernel⟩
theorem ok_07(T:Txt K mg t):FnOk P w K mg base (CXE P w) 6 t.a_07 t.d_07 ["account"] (zjc K t):=by
 refine T.fn_07.okX sc_07 (fun vs H Q E h=> ?_) (fun cdv A outer s H vs Q E L hr h=> ?_)
 ·obtain⟨p,dss,f,cds,rfl,hD,hd,hc,hl,q1,q2⟩:=h;rfl
 obtain⟨p,dss,f,cds,rfl,hD,hd,hc,hl,q1,q2⟩:=h;have nd:=sc_07.nd;obtain⟨u_Z04,h_Z04,r_Z04⟩:=T.k_Z04;refine⟨_,(zaf (zcr (pv 0) (zb9 (n:=3) rfl (zav (zao (i:=1) nd rfl (Or.inl rfl)) (zav (zao (i:=2) nd rfl (Or.inl rfl)) (zav (zao (i:=3) nd rfl (Or.inl rfl)) zbG))))) (zaf (zdy (zag L.toLv (ok_06 T) (hr.mono (by decide)) (by rfl) T.mg_06 T.fn_06.kp T.b_06 .nil (zaa (pv 1) zad))) (zaf (zaU (zcf (zbC (zag L.toLv (ok_01 T) (hr.mono (by decide)) (by rfl) T.mg_01 T.fn_01.kp T.b_01 .nil (zaa (pv 2) (zaa zae (zaa (zbe (by rfl) h_Z04 r_Z04) zad zab) zac) zab)))) (zah (zbs L T.ex_Z0g (by rfl) (by rfl) T.mg_Z0g (zaa zbP zad))) zaq) (zah (zaU (zcf (zbC (zag L.toLv (ok_05 T) (hr.mono (by decide)) (by rfl) T.mg_05 T.fn_05.kp T.b_05 .nil (zaa (pv 3) zad)))) (zah (zbs L T.ex_Z0g (by rfl) (by rfl) T.mg_Z0g (zaa zbP zad))) zaq))))),?_⟩;unfold Dp at hD;obtain⟨p',xs,e,hT,hA⟩:=hD;cases e;obtain⟨x,y,z,rfl,hx,hy,hz⟩:=zgw hA;unfold Dp at hy hz;obtain⟨pc,ys,rfl,hC,hY⟩:=hz;obtain rfl:=zih hY hc;subst hy;obtain⟨pl,rfl⟩: ∃pl,x= .ref pl:=by
  have hx2:=hx;unfold Dp at hx2;obtain⟨pl,_,e,_⟩:=hx2;exact⟨pl,e⟩
 clear hA;open_k0;refine⟨p,_,rfl,hT,rfl,?_⟩;open_k0;refine⟨pl,dss,rfl,hx,hd,hl,fun po H1 s1=> ?_,fun no H1 s1=>q2 (fun g=>no g.1) _ s1⟩;refine⟨.int f,_,_,rfl, .inl ⟨_,rfl⟩,_,rfl,?_⟩;have ef:btw 0 3500000 (.int f)=(decide (0≤f) && decide (f≤3500000)):=rfl;rw[ef];refine za8 (fun h=>q2 (fun g=> ?_) _ s1) (fun h=> ?_)
 ·rw[decide_eq_true g.2.1,decide_eq_true g.2.2.1] at h;cases h
 have fb:0≤f∧f≤3500000:=by
  by_cases h1:0≤f
  ·by_cases h2:f≤3500000
   ·exact⟨h1,h2⟩
   ·rw[decide_eq_false h2,Bool.and_false] at h;exact absurd rfl h
  ·rw[decide_eq_false h1,Bool.false_and] at h;exact absurd rfl h
 refine⟨pc,cds,rfl,s1.sqT hC,hc,_,rfl,?_⟩;refine za8 (fun h2=>q2 (fun g=> ?_) _ s1) (fun h2=> ?_)
 ·rw[g.2.2.2] at h2;cases h2
 ·refine q1 ⟨po,fb.1,fb.2,?_⟩ _ s1;cases hcc:zfb cds with
  |true=>rfl
  |false=>exact absurd hcc h2
def zg6(w:List Nat):Prop:=PySem.NumText.AllDigits w∧w≠ []∧w.length≤9∧(w= [48]∨w.head? ≠some 48)
def zc9(k w:List Nat):Prop:=if k= [78] then zg6 w else PySem.Txt.isupper (SL k)=true∨w=k
def zkc(f:List Nat)(ws:List (List Nat)):Prop:=ws.length=(spl 32 f).length∧ ∀(i:Nat) k w,(spl 32 f)[i]? =some k→ws[i]? =some w→zc9 k w
theorem zfJ{c:Nat}: ∀{f k:List Nat},k∈spl c f→k.length≤f.length
 | [],k,h=>by
  rw[spl,List.mem_singleton] at h;rw[h];exact Nat.le_refl _
 |x::r,k,h=>by
  rw[spl] at h;split at h
  ·rcases List.mem_cons.mp h with rfl|h
   ·exact Nat.zero_le _
   ·exact Nat.le_succ_of_le (zfJ h)
  ·rcases List.mem_cons.mp h with rfl|h
   ·rw[List.length_cons,List.length_cons];refine Nat.succ_le_succ ?_;cases e:spl c r with
    |nil=>exact absurd e (zil c r)
    |cons y t=>
     exact zfJ (c:=c) (show y∈spl c r by rw[e];exact List.mem_cons_self)
   ·exact Nat.le_succ_of_le (zfJ (List.mem_of_mem_tail h))
def zkP:Sp:=fun vs H Q _=> ∃cs:List Nat,vs= [.str (SL cs)]∧cs.length≤1000∧ ∀b:Bool,(b=true↔zg6 cs)→Q (.bl b) H
theorem sc_0k:FnScope ["word"] ["word"] (zai s_0k):=⟨rfl,rfl,rfl,by decide+kernel,rfl,by decide+kernel,by decide+kernel⟩
theorem ok_0k(T:Txt K mg t):FnOk P w K mg base (CXE P w) 2 t.a_0k t.d_0k ["word"] (zkP):=by
 refine T.fn_0k.okX sc_0k (fun vs H Q E h=> ?_) (fun cdv A outer s H vs Q E L hr h=> ?_)
 ·obtain⟨cs,rfl,hl,q⟩:=h;rfl
 obtain⟨cs,rfl,hl,q⟩:=h;have nd:=sc_0k.nd;obtain⟨u_Z0b,h_Z0b,r_Z0b⟩:=T.k_Z0b;refine⟨_,(zaf (zaU (zcu (zcf (zbC (zag L.toLv (ok_0i T) (hr.mono (by decide)) (by rfl) T.mg_0i T.fn_0i.kp T.b_0i .nil (zaa (pv 0) zad)))) (zcq (zas zc0 (zan zb5 (by rfl) T.no_len zbB (zaa (pv 0) zad)) (zbe (by rfl) h_Z0b r_Z0b) (zar _)))).pt (zah (zam zcl)) zaq) (zah (zam (zgK (zbA zca (pv 0) (zak st_19) (zar _)) (zbZ (zge (zcC PySem.F.plainAttrs_str PySem.F.slot_str_startswith PySem.F.type_str_startswith zdm (pv 0) (zaa (zak st_19) zad)))))))),?_⟩;lge_open0
 refine⟨cs,rfl,zaz (by omega),fun b hb=>⟨b,rfl,za8 (fun h=>q _ ⟨fun z=>absurd z (by decide),fun z=> ?_⟩) (fun h=>⟨zaz (by omega),za8 (fun h9=>q _ ⟨fun z=>absurd z (by decide),fun z=> ?_⟩) (fun h9=>za8 (fun h0=>q _ ⟨fun _=> ?_,fun _=>rfl⟩) (fun h0=>⟨rfl,q _ ⟨fun z=> ?_,fun z=> ?_⟩⟩))⟩)⟩⟩
 ·rw[h] at hb;exact hb.mpr ⟨z.1,z.2.1⟩
 ·have:=z.2.2.1;omega
 ·rw[h0];exact⟨fun c hc=>by rw[List.mem_singleton.mp hc];decide,by decide,by decide, .inl rfl⟩
 ·have hb':=hb.mp (by cases b with|true=>rfl|false=>exact absurd rfl h);exact⟨hb'.1,hb'.2,by omega, .inr fun e=>by rw[decide_eq_true e] at z;cases z⟩
 ·rcases z.2.2.2 with e|e
  ·exact absurd e h0
  ·rw[decide_eq_false e];rfl
def zkd:Sp:=fun vs H Q _=> ∃k w:List Nat,vs= [.str (SL k), .str (SL w)]∧k.length≤1000∧w.length≤1000∧ ∀b:Bool,(b=true↔zc9 k w)→Q (.bl b) H
theorem sc_0l:FnScope ["kind","word"] ["kind","word"] (zai s_0l):=⟨rfl,rfl,rfl,by decide+kernel,rfl,by decide+kernel,by decide+kernel⟩
theorem ok_0l(T:Txt K mg t):FnOk P w K mg base (CXE P w) 3 t.a_0l t.d_0l ["kind","word"] (zkd):=by
 refine T.fn_0l.okX sc_0l (fun vs H Q E h=> ?_) (fun cdv A outer s H vs Q E L hr h=> ?_)
 ·obtain⟨k,w,rfl,hk,hw,q⟩:=h;rfl
 obtain⟨k,w,rfl,hk,hw,q⟩:=h;have nd:=sc_0l.nd;refine⟨_,(zaf (zaU (zas zca (pv 0) (zak st_20) (zar _)) (zah (zam (zag L.toLv (ok_0k T) (hr.mono (by decide)) (by rfl) T.mg_0k T.fn_0k.kp T.b_0k .nil (zaa (pv 1) zad)))) zaq) (zah (zam (zgK (zjM PySem.F.plainAttrs_str PySem.F.slot_str_isupper PySem.F.type_str_isupper zgy (pv 0)) (zbZ (zbA zca (pv 1) (pv 0) (zar _))))))),?_⟩;simp only[za1,zb7,zaM,zbu,za6,za5,zbw,zaD,zaK,zaL,zaJ,zbl,zbt,za4,zaW,zax,zap,zay,zbH,List.replicate,Option.join_some,Option.join_none,zaQ,zb4,zbr,zaC,tSl,zb3,zb2,zb8,slT,zbW,Int.reduceLT,Int.reduceLE,Int.reduceToNat,Int.reduceNeg,Int.reduceAdd,Int.reduceSub,Int.reduceMul,forall_const,zbT,zbp,zbQ,zbU,zbv,zbq,zbL,zbd,zbh,zbV,zbR,tC,tOp,rI,rI0,tUn,rU,zbj,tB,zbX,tOr,zbS,zbn,zbY,zbo,tIf,zbk,zb1,zaX,za3,tCB,zaZ,rEq,rNe,zaE,zaF,zaG,zaH,zaI,za2,zb0,ipI,L2.start,List.map_cons,List.map_nil,List.length_cons,List.length_nil,List.cons_append,List.nil_append,List.append_nil,List.replicate_succ,List.replicate_zero,Nat.reduceAdd,Nat.reduceSub,List.getElem?_cons_zero,List.getElem?_cons_succ,List.set_cons_zero,List.set_cons_succ,Option.some.injEq,V.int.injEq,V.bl.injEq,V.ref.injEq,V.str.injEq,exists_eq_left',exists_eq_left,exists_eq',exists_and_left,List.cons.injEq,and_true,true_and,and_self,and_assoc,decide_eq_true_eq,if_true,if_false,Bool.true_eq_false,Bool.false_eq_true,Bool.not_eq_true',Bool.not_true,Bool.not_false,decide_eq_false_iff_not,ite_true,ite_false,reduceCtorEq,false_and,exists_false,false_or,or_false,and_false,Nat.reduceLeDiff,tBM,zkE];refine za8 (fun h=>⟨w,rfl,hw,fun b hb=>q b ?_⟩) (fun h=>⟨rfl,za8 (fun e=>q _ ⟨fun _=> ?_,fun _=>rfl⟩) (fun e=>q _ ⟨fun z=> ?_,fun z=> ?_⟩)⟩)
 ·unfold zc9;rw[if_pos h];exact hb
 ·unfold zc9;rw[if_neg h];exact .inl e
 ·unfold zc9;rw[if_neg h];exact .inr (of_decide_eq_true z)
 ·unfold zc9 at z;rw[if_neg h] at z;exact decide_eq_true (z.resolve_left e)
def zke(K:Fg):Sp:=fun vs H Q _=> ∃(f:List Nat) (l:Addr) (ws:List (List Nat)),vs= [.str (SL f), .ref l]∧SqL K H l (ws.map fun w=>V.str (SL w))∧f.length≤100∧(∀w∈ws,w.length≤1000)∧ ∀(b:Bool) H',zau H H'→(b=true↔zkc f ws)→Q (.bl b) H'
theorem zg7: ∀{bs:List Bool},bs.all id=true↔ ∀(i:Nat) b,bs[i]? =some b→b=true
 | []=>⟨fun _ i b e=>by simp at e,fun _=>rfl⟩
 |b::r=>by
  rw[List.all_cons,Bool.and_eq_true,zg7 (bs:=r)];refine⟨fun h i c e=> ?_,fun h=>⟨h 0 b rfl,fun i c e=>h (i+1) c e⟩⟩;cases i with
  |zero=>cases e;exact h.1
  |succ i=>exact h.2 i c e
theorem sc_0m:FnScope ["form","words","kinds"] ["form","words"] (zai s_0m):=⟨rfl,rfl,rfl,by decide+kernel,rfl,by decide+kernel,by decide+kernel⟩
theorem ok_0m(T:Txt K mg t):FnOk P w K mg base (CXE P w) 4 t.a_0m t.d_0m ["form","words"] (zke K):=by
 refine T.fn_0m.okX sc_0m (fun vs H Q E h=> ?_) (fun cdv A outer s H vs Q E L hr h=> ?_)
 ·obtain⟨f,l,ws,rfl,hS,hf,hw,q⟩:=h;rfl
 obtain⟨f,l,ws,rfl,hS,hf,hw,q⟩:=h;have nd:=sc_0m.nd;refine⟨_,(zaf (zaw (i:=2) nd rfl (Or.inl rfl) (zcC PySem.F.plainAttrs_str PySem.F.slot_str_split PySem.F.type_str_split zeF (pv 0) (zaa (zak st_21) zad))) (zah (zam (zcg (zbA zca (zan zaS (by rfl) T.no_len zbB (zaa (pv 1) zad)) (zan zaS (by rfl) T.no_len zbB (zaa (pv 2) zad)) (zar _)) (zbZ (zan (zew (by rfl)) (by rfl) T.no_all zgp (zaa (zdf (n:=2) (N:= ["kind","word"]) (js:= []) (by rfl) rfl rfl (zg4 (by rfl) T.no_zip (zaa (pv 2) (zaa (pv 1) zad zab) zab)) (fun a=>(zb9 (n:=2) rfl (zav (zao (i:=0) (show List.Nodup (["kind","word"]:List Str) from by decide+kernel) rfl (Or.inl rfl)) (zav (zao (i:=1) (show List.Nodup (["kind","word"]:List Str) from by decide+kernel) rfl (Or.inl rfl)) zbG)))) (fun a=>zcI) (fun a=>(zag zfX (ok_0l T) (hr.mono (by decide)) (by rfl) T.mg_0l T.fn_0l.kp T.b_0l .nil (zaa (pv 0) (zaa (pv 1) zad zab) zab)))) zad))))))),?_⟩;simp only[za1,zb7,zaM,zbu,za6,za5,zbw,zaD,zaK,zaL,zaJ,zbl,zbt,za4,zaW,zax,zap,zay,zbH,List.replicate,Option.join_some,Option.join_none,zaQ,zb4,zbr,zaC,tSl,zb3,zb2,zb8,slT,zbW,Int.reduceLT,Int.reduceLE,Int.reduceToNat,Int.reduceNeg,Int.reduceAdd,Int.reduceSub,Int.reduceMul,forall_const,zbT,zbp,zbQ,zbU,zbv,zbq,zbL,zbd,zbh,zbV,zbR,tC,tOp,rI,rI0,tUn,rU,zbj,tB,zbX,tOr,zbS,zbn,zbY,zbo,tIf,zbk,zb1,zaX,za3,tCB,zaZ,rEq,rNe,zaE,zaF,zaG,zaH,zaI,za2,zb0,ipI,L2.start,List.map_cons,List.map_nil,List.length_cons,List.length_nil,List.cons_append,List.nil_append,List.append_nil,List.replicate_succ,List.replicate_zero,Nat.reduceAdd,Nat.reduceSub,List.getElem?_cons_zero,List.getElem?_cons_succ,List.set_cons_zero,List.set_cons_succ,Option.some.injEq,V.int.injEq,V.bl.injEq,V.ref.injEq,V.str.injEq,exists_eq_left',exists_eq_left,exists_eq',exists_and_left,List.cons.injEq,and_true,true_and,and_self,and_assoc,decide_eq_true_eq,if_true,if_false,Bool.true_eq_false,Bool.false_eq_true,Bool.not_eq_true',Bool.not_true,Bool.not_false,decide_eq_false_iff_not,ite_true,ite_false,reduceCtorEq,false_and,exists_false,false_or,or_false,and_false,Nat.reduceLeDiff,tBM,zdD,ziq];have sl:=zfF 32 f;refine⟨rfl,by omega,fun p H1 hp s1 e1=>⟨_, .inl (s1.seq hS),p,rfl,_, .inl (SqL.of e1),?_⟩⟩;rw[List.length_map,List.length_map];refine za8 (fun h=> ?_) (fun h=>q _ _ s1 ⟨fun z=>absurd z (by decide),fun z=>absurd (congrArg Int.ofNat z.1) h⟩);have h':(spl 32 f).length=ws.length:=by omega
 have ha:SqK false K H1 p ((spl 32 f).map fun w=>V.str (SL w)):= .inr ⟨rfl,SqL.of e1⟩;have hb:SqK false K H1 l (ws.map fun w=>V.str (SL w)):= .inr ⟨rfl,s1.seq hS⟩;refine⟨false,p,rfl,⟨_,ha⟩,⟨_,hb⟩,fun l1 hl1 _=> ?_⟩;refine zdU (fun i vs=> ∃bs:List Bool,vs=bs.map V.bl∧bs.length=i∧ ∀(j:Nat) b k w,bs[j]? =some b→(spl 32 f)[j]? =some k→ws[j]? =some w→(b=true↔zc9 k w)) ha hb (by rw[List.length_map,List.length_map];exact h') hl1 (by rw[List.length_map];exact Nat.lt_of_le_of_lt sl (Nat.lt_of_lt_of_le (show f.length+1<1000 by omega) (by decide))) (fun v w=>by simp only[List.set,zap,zax]) ⟨[],rfl,rfl,fun j b k w e=>by simp at e⟩ (fun i x y vs H2 K1 hx hy s2 pv k=> ?_) (fun vs H2 s2 pv e2=> ?_)
 ·obtain⟨bs,rfl,hl,hbs⟩:=pv;rw[List.getElem?_map] at hx hy;obtain⟨kd,hk,rfl⟩:=Option.map_eq_some_iff.mp hx;obtain⟨wd,hwd,rfl⟩:=Option.map_eq_some_iff.mp hy;open_k0;refine⟨kd,wd,rfl,?_,?_,fun b hb=>k _ _ (zau.refl _) ⟨bs++ [b],by rw[List.map_append];rfl,by rw[List.length_append,hl];rfl,fun j b' k' w' e1 e2 e3=> ?_⟩⟩
  ·have:=zfJ (List.mem_of_getElem? hk);omega
  ·exact hw wd (List.mem_of_getElem? hwd)
  ·by_cases z:j<bs.length
   ·rw[List.getElem?_append_left z] at e1;exact hbs j b' k' w' e1 e2 e3
   ·have:j<(bs++ [b]).length:=(List.getElem?_eq_some_iff.mp e1).1;rw[List.length_append] at this;obtain rfl:j=i:=by
     simp only[List.length_cons,List.length_nil] at this;omega
    rw[←hl,List.getElem?_concat_length] at e1;cases e1;rw[hk] at e2;rw[hwd] at e3;cases e2;cases e3;exact hb
 ·obtain⟨bs,rfl,hl,hbs⟩:=pv;rw[List.length_map] at hl;refine⟨l1,rfl,bs,SqL.of e2,q _ _ (s1.trans s2) ?_⟩;rw[zg7];refine⟨fun z=>⟨h'.symm,fun i k w e1 e3=> ?_⟩,fun z i b e=> ?_⟩
  ·have hi:i<bs.length:=by rw[hl];exact(List.getElem?_eq_some_iff.mp e1).1
   exact(hbs i _ k w (List.getElem?_eq_getElem hi) e1 e3).mp (z i _ (List.getElem?_eq_getElem hi))
  ·have hi:i<bs.length:=(List.getElem?_eq_some_iff.mp e).1;have h1:=List.getElem?_eq_getElem (l:=spl 32 f) (by omega:i<_);have h2:=List.getElem?_eq_getElem (l:=ws) (by omega:i<_);exact(hbs i b _ _ e h1 h2).mpr (z.2 i _ _ h1 h2)
def zdJ:List Nat:= [112,108,97,110]
def zhG:List Nat:= [112,101,114]
def zcJ:List Nat:= [112,108,97,99,101,115]
def zdt:List Nat:= [102,105,114,115,116]
def zcV:List Nat:= [101,118,101,114,121]
def zcW(dy:Bool):List Nat:=if dy then [100,97,121,115] else [109,111,110,116,104,115]
def plW(p:Nat)(x:Pl):List (List Nat):= [zdJ,x.1,zcd x.2.1 p]++if x.2.2=0 then [] else [zhG,dg x.2.2.toNat]
def Dt(f:Int)(cs:List Nat):Prop:= ∃y m d,Cal.Valid y m d∧Cal.num y m d=f∧cs=zc8 y m d
theorem Dt.one{f:Int}{a b:List Nat}(h:Dt f a)(g:Dt f b):a=b:=by
 obtain⟨y,m,d,v,e,rfl⟩:=h;obtain⟨y',m',d',v',e',rfl⟩:=g;obtain⟨rfl,rfl,rfl⟩:=Cal.num_inj v v' (by rw[e,e']);rfl
noncomputable def dtF(f:Int):List Nat:=Classical.epsilon (Dt f)
theorem Dt.eq{f:Int}{a:List Nat}(h:Dt f a):dtF f=a:=(Classical.epsilon_spec ⟨a,h⟩:Dt f (dtF f)).one h
noncomputable def rowsW(p:Nat)(xs:List Pl)(f:Int)(dy:Bool)(cc:Int):List (List (List Nat)):= [zcJ,dg p]:: [zdt,dtF f]:: [zcV,dg cc.toNat,zcW dy]::xs.map (plW p)
noncomputable def txtF(p:Nat)(xs:List Pl)(f:Int)(dy:Bool)(cc:Int):List Nat:=jn [10] ((rowsW p xs f dy cc).map (jn [32]))
def zgG(H:Hp)(v:V)(x:Pl):Prop:= ∃a,v= .ref a∧H a=some (.tup [.str (SL x.1), .int x.2.1, .int x.2.2])
def zeL(H:Hp)(p l:Addr)(xs:List Pl)(f:Int)(dy:Bool)(cc:Int):Prop:= ∃(pc:Addr) (zs:List (V×Pl)),H p=some (.tup [.ref l, .int f, .ref pc])∧H pc=some (.tup [.str (SL (zcW dy)), .int cc])∧H l=some (.lst (zs.map (·.1)))∧zs.map (·.2)=xs∧ ∀z∈zs,zgG H z.1 z.2
def zd7(xs:List Pl)(f:Int)(dy:Bool)(cc:Int):Prop:=zij xs∧(0≤f∧f≤3500000)∧1≤cc∧cc≤if dy then 400 else 12
theorem zgG.same{H H':Hp}{v:V}{x:Pl}(h:zgG H v x)(s:zau H H'):zgG H' v x:=let ⟨a,e,q⟩:=h;⟨a,e,s _ _ q⟩
theorem zeL.same{H H':Hp}{p l:Addr}{xs:List Pl}{f:Int}{dy:Bool}{cc:Int}(h:zeL H p l xs f dy cc)(s:zau H H'):zeL H' p l xs f dy cc:=let ⟨pc,zs,h1,h2,h3,h4,h5⟩:=h;⟨pc,zs,s _ _ h1,s _ _ h2,s _ _ h3,h4,fun z hz=>(h5 z hz).same s⟩
def zkf:List (List Nat)→List (List Nat)→Prop
 | [], []=>True
 |k::ks,w::ws=>zc9 k w∧zkf ks ws
 |_,_=>False
theorem zg8: ∀{ks ws:List (List Nat)},zkf ks ws→ws.length=ks.length∧ ∀(i:Nat) k w,ks[i]? =some k→ws[i]? =some w→zc9 k w
 | [], [],_=>⟨rfl,fun i k w e=>by simp at e⟩
 |k::ks,w::ws,h=>by
  obtain⟨h1,h2⟩:=zg8 h.2;refine⟨congrArg (· +1) h1,fun i k' w' e e'=> ?_⟩;cases i with
  |zero=>cases e;cases e';exact h.1
  |succ i=>exact h2 i k' w' e e'
theorem zdV{f:List Nat}{ks ws:List (List Nat)}(e:spl 32 f=ks)(h:zkf ks ws):zkc f ws:=by
 unfold zkc;rw[e];exact zg8 h
theorem zbO{k:List Nat}(h:k≠ [78]):zc9 k k:=by
 unfold zc9;rw[if_neg h];exact .inr rfl
theorem zfK{k w:List Nat}(h:k≠ [78])(u:PySem.Txt.isupper (SL k)=true):zc9 k w:=by
 unfold zc9;rw[if_neg h];exact .inl u
theorem zdK{w:List Nat}(h:zg6 w):zc9 [78] w:=by
 unfold zc9;rw[if_pos rfl];exact h
def zkQ(n:Nat):Bool:=(dg n).all (fun c=>48≤c && c≤57) && (dg n).length≤3 && 1≤(dg n).length && PySem.NumText.digitsVal (dg n)==n && (n==0||(dg n).head? !=some 48 && dg n != [48])
theorem zjd: ∀n<401,zkQ n=true:=by decide+kernel
theorem zcj{n:Nat}(h:n≤400):zg6 (dg n)∧(dg n).length≤3∧PySem.NumText.digitsVal (dg n)=n∧(n≠0→dg n≠ [48]):=by
 have b:=zjd n (by omega);unfold zkQ at b;simp only[Bool.and_eq_true,List.all_eq_true,decide_eq_true_eq,beq_iff_eq,Bool.or_eq_true,bne_iff_ne,ne_eq] at b;obtain⟨⟨⟨⟨b1,b2⟩,b3⟩,b4⟩,b5⟩:=b;refine⟨⟨fun c hc=>b1 c hc,fun z=>by rw[z] at b3;exact absurd b3 (by decide),by omega,?_⟩,b2,b4,fun z=> ?_⟩
 ·rcases b5 with rfl|b5
  ·exact .inl (by decide+kernel)
  ·exact .inr b5.1
 ·rcases b5 with e|b5
  ·exact absurd e z
  ·exact b5.2
def zeM(ws:List (List Nat)):Prop:=ws≠ []∧ws.length≤5∧ ∀w∈ws,w≠ []∧w.length≤62∧32∉w∧10∉w
theorem zgH(sep:List Nat): ∀ys:List (List Nat),(jn sep ys).length≤(ys.map List.length).sum+sep.length*ys.length
 | []=>Nat.le_refl _
 | [y]=>by
  simp only[jn,List.map_cons,List.map_nil,List.sum_cons,List.sum_nil];omega
 |y::z::r=>by
  have:=zgH sep (z::r);simp only[jn,List.length_append,List.map_cons,List.sum_cons,List.length_cons] at this ⊢;rw[Nat.mul_add];omega
theorem sum_le{b:Nat}: ∀{ys:List (List Nat)},(∀y∈ys,y.length≤b)→(ys.map List.length).sum≤b*ys.length
 | [],_=>Nat.le_refl _
 |y::r,h=>by
  have h1:=h y List.mem_cons_self;have h2:=sum_le fun z hz=>h z (List.mem_cons_of_mem _ hz);rw[List.map_cons,List.sum_cons,List.length_cons,Nat.mul_add];omega
theorem ziy{c:Nat}{sep:List Nat}(hs:c∉sep): ∀{ys:List (List Nat)},(∀y∈ys,c∉y)→c∉jn sep ys
 | [],_=>nofun
 | [y],h=>h y List.mem_cons_self
 |y::z::r,h=>fun q=>by
  rw[jn,List.mem_append,List.mem_append] at q;rcases q with(q|q)|q
  ·exact h y List.mem_cons_self q
  ·exact hs q
  ·exact ziy hs (fun w hw=>h w (List.mem_cons_of_mem _ hw)) q
theorem zhH{n:Int}{p c:Nat}(h:c∈zcd n p):c≠32∧c≠10:=by
 by_cases h1:c=45
 ·rw[h1];decide
 by_cases h2:c=46
 ·rw[h2];decide
 have:c∈((zcd n p).filter (· !=45)).filter (· !=46):=List.mem_filter.mpr ⟨List.mem_filter.mpr ⟨h,by simpa using h1⟩,by simpa using h2⟩;rw[zc6] at this
 have:=ze8 _ _ c this;constructor<;>omega
theorem zhI{y m d:Int}{c:Nat}(h:c∈zc8 y m d):c≠32∧c≠10:=by
 have f: ∀{k:Nat} {n:Int},c∈fig k n→c≠32∧c≠10:=fun {k n} z=>by
  have:=zb6 k n c z;constructor<;>omega
 unfold zc8 at h;simp only[List.mem_append,List.mem_singleton] at h;rcases h with(h|h)|(h|h)|h
 ·exact f h
 ·rw[h];decide
 ·exact f h
 ·rw[h];decide
 ·exact f h
theorem zei{w:List Nat}(h:w≠ [])(l:w.length≤62)(c: ∀x∈w,x≠32∧x≠10):w≠ []∧w.length≤62∧32∉w∧10∉w:=⟨h,l,fun z=>(c _ z).1 rfl,fun z=>(c _ z).2 rfl⟩
theorem zeN{n:Nat}(h:n≤400):dg n≠ []∧(dg n).length≤62∧32∉dg n∧10∉dg n:=by
 obtain⟨nk,nl,_⟩:=zcj h;exact zei nk.2.1 (by omega) fun c hc=>by have:=nk.1 c hc;constructor<;>omega
theorem zkg{p:Nat}{x:Pl}(ok:zdT x)(hp:p≤6):zeM (plW p x):=by
 obtain⟨⟨n1,n2,n3⟩,r0,r1,c0,c1⟩:=ok;have nb:x.2.1.natAbs<10 ^ 60:=by omega
 have w1: ∀w∈ [zdJ,x.1,zcd x.2.1 p],w≠ []∧w.length≤62∧32∉w∧10∉w:=fun w hw=>by
  simp only[List.mem_cons,List.not_mem_nil,or_false] at hw;rcases hw with rfl|rfl|rfl
  ·decide
  ·exact zei (fun z=>by rw[z] at n1;exact absurd n1 (by decide)) (by omega) fun c hc=>by have:=n3 c hc;constructor<;>omega
  ·exact zei (fun z=>by have:=zib x.2.1 p;rw[z] at this;exact absurd this (by decide)) (zcE nb hp) fun c hc=>zhH hc
 unfold plW;split
 ·exact⟨List.cons_ne_nil _ _,by simp,by rw[List.append_nil];exact w1⟩
 ·refine⟨List.cons_ne_nil _ _,by simp,fun w hw=> ?_⟩;rcases List.mem_append.mp hw with h|h
  ·exact w1 w h
  ·simp only[List.mem_cons,List.not_mem_nil,or_false] at h;rcases h with rfl|rfl
   ·decide
   ·exact zeN (by omega)
theorem zdj{p:Nat}{xs:List Pl}{f:Int}{dy:Bool}{cc:Int}(ok:zd7 xs f dy cc)(hp:p≤6): ∀ws∈rowsW p xs f dy cc,zeM ws:=by
 obtain⟨pok,⟨f0,f1⟩,c0,c1⟩:=ok;have c2:cc≤400:=by split at c1<;>omega
 obtain⟨y,m,d,va,hn⟩:=Cal.date_exists f0 (show f≤3652058 by omega);have ed:dtF f=zc8 y m d:=Dt.eq ⟨y,m,d,va,hn,rfl⟩;have dl:(zc8 y m d).length=10:=by simp [zc8,zcx]
 intro ws h;unfold rowsW at h;simp only[List.mem_cons,List.mem_map] at h;rcases h with rfl|rfl|rfl|⟨x,hx,rfl⟩
 ·refine⟨List.cons_ne_nil _ _,by simp,fun w hw=> ?_⟩;simp only[List.mem_cons,List.not_mem_nil,or_false] at hw;rcases hw with rfl|rfl
  ·decide
  ·exact zeN (by omega)
 ·refine⟨List.cons_ne_nil _ _,by simp,fun w hw=> ?_⟩;simp only[List.mem_cons,List.not_mem_nil,or_false] at hw;rcases hw with rfl|rfl
  ·decide
  ·rw[ed];exact zei (fun z=>by rw[z] at dl;exact absurd dl (by decide)) (by omega) fun c hc=>zhI hc
 ·refine⟨List.cons_ne_nil _ _,by simp,fun w hw=> ?_⟩;simp only[List.mem_cons,List.not_mem_nil,or_false] at hw;rcases hw with rfl|rfl|rfl
  ·decide
  ·exact zeN (by omega)
  ·unfold zcW;split<;>decide
 ·exact zkg (pok.2.2.1 x hx) hp
theorem zeM.len{ws:List (List Nat)}(h:zeM ws):(jn [32] ws).length≤315:=by
 have h1:=zgH [32] ws;have h2:=sum_le (b:=62) fun w hw=>(h.2.2 w hw).2.1;have h3:=h.2.1;simp only[List.length_cons,List.length_nil] at h1;omega
theorem zeM.nl{ws:List (List Nat)}(h:zeM ws):10∉jn [32] ws:=ziy (by decide) fun w hw=>(h.2.2 w hw).2.2.2
def ziz:Sp:=fun vs H Q _=> ∃(p:Int) (v:V) (x:Pl),vs= [.int p,v]∧zgG H v x∧zdT x∧0≤p∧p≤6∧ ∀H',zau H H'→Q (.str (SL (jn [32] (plW p.toNat x)))) H'
theorem sc_0n:FnScope ["places","plan","name","price","count","line"] ["places","plan"] (zai s_0n):=⟨rfl,rfl,rfl,by decide+kernel,rfl,by decide+kernel,by decide+kernel⟩
theorem ok_0n(T:Txt K mg t):FnOk P w K mg base (CXE P w) 2 t.a_0n t.d_0n ["places","plan"] (ziz):=by
 refine T.fn_0n.okX sc_0n (fun vs H Q E h=> ?_) (fun cdv A outer s H vs Q E L hr h=> ?_)
 ·obtain⟨p,v,x,rfl,⟨a,rfl,hp⟩,ok,p0,p1,q⟩:=h;rfl
 obtain⟨p,v,x,rfl,⟨a,rfl,hp⟩,ok,p0,p1,q⟩:=h;have nd:=sc_0n.nd;refine⟨_,(zaf (zcr (pv 1) (zb9 (n:=3) rfl (zav (zao (i:=2) nd rfl (Or.inl rfl)) (zav (zao (i:=3) nd rfl (Or.inl rfl)) (zav (zao (i:=4) nd rfl (Or.inl rfl)) zbG))))) (zaf (zaw (i:=5) nd rfl (Or.inl rfl) (zal zaT (zal zaT (zal zaT (zak st_23) (pv 2)) (zak st_21)) (zag L.toLv (ok_0h T) (hr.mono (by decide)) (by rfl) T.mg_0h T.fn_0h.kp T.b_0h .nil (zaa (pv 3) (zaa (pv 0) zad zab) zab)))) (zaf (zaU (zas zca (pv 4) zae (zar _)) (zah (zam (pv 5))) zaq) (zah (zam (zal zaT (zal zaT (pv 5) (zak st_22)) (zbb zby (by rfl) T.no_str zct (zaa (pv 4) zad)))))))),?_⟩;open_k0;refine⟨a,_,rfl,SqT.of hp,rfl,?_⟩;open_k0;obtain⟨nm,pr,ct⟩:=x;obtain⟨⟨n1,n2,n3⟩,r0,r1,c0,c1⟩:=ok;dsimp only at n1 n2 n3 r0 r1 c0 c1 hp q ⊢;have nb:pr.natAbs<10 ^ 60:=by omega
 have as:=zcE nb (show p.toNat≤6 by omega);refine⟨zaz (by omega),zaz (by omega),pr,p,rfl,p0,p1,by omega,by omega,fun H1 s1=>⟨_,rfl,zaz (by simp only[List.length_append,List.length_cons,List.length_nil];omega),?_⟩⟩;unfold plW at q;refine za8 (fun c=> ?_) (fun c=> ?_)
 ·rw[if_pos c] at q;exact q _ s1
 rw[if_neg c] at q;have dl:=(zcj (show ct.toNat≤400 by omega)).2.1;refine⟨zaz (by simp only[List.length_append,List.length_cons,List.length_nil];omega),c0,zbD (by omega) (by omega),zaz (by simp only[List.length_append,List.length_cons,List.length_nil];omega),?_⟩;have e:(112::108::97::110::32::(nm++ [32]++zcd pr p.toNat++ [32,112,101,114,32]++dg ct.toNat))=jn [32] ([zdJ,nm,zcd pr p.toNat]++ [zhG,dg ct.toNat]):=by simp [jn,zdJ,zhG]
 rw[e];exact q _ s1
def zhJ:Sp:=fun vs H Q _=> ∃(p:Int) (a l:Addr) (xs:List Pl) (f:Int) (dy:Bool) (cc:Int),vs= [.int p, .ref a]∧zeL H a l xs f dy cc∧zd7 xs f dy cc∧0≤p∧p≤6∧ ∀H',zau H H'→Q (.str (SL (txtF p.toNat xs f dy cc))) H'
theorem sc_0o:FnScope ["places","account","plans","first","cycle","word","many","lines"] ["places","account"] (zai s_0o):=⟨rfl,rfl,rfl,by decide+kernel,rfl,by decide+kernel,by decide+kernel⟩
theorem ok_0o(T:Txt K mg t):FnOk P w K mg base (CXE P w) 5 t.a_0o t.d_0o ["places","account"] (zhJ):=by
 refine T.fn_0o.okX sc_0o (fun vs H Q E h=> ?_) (fun cdv A outer s H vs Q E L hr h=> ?_)
 ·obtain⟨p,a,l,xs,f,dy,cc,rfl,at_,ok,p0,p1,q⟩:=h;rfl
 obtain⟨p,a,l,xs,f,dy,cc,rfl,at_,ok,p0,p1,q⟩:=h;have nd:=sc_0o.nd;refine⟨_,(zaf (zcr (pv 1) (zb9 (n:=3) rfl (zav (zao (i:=2) nd rfl (Or.inl rfl)) (zav (zao (i:=3) nd rfl (Or.inl rfl)) (zav (zao (i:=4) nd rfl (Or.inl rfl)) zbG))))) (zaf (zcr (pv 4) (zb9 (n:=2) rfl (zav (zao (i:=5) nd rfl (Or.inl rfl)) (zav (zao (i:=6) nd rfl (Or.inl rfl)) zbG)))) (zaf (zaw (i:=7) nd rfl (Or.inl rfl) (zbE (zaa (zg3 (PEs.cons (zak st_24) (PEs.cons (zgz (pv 0)) PEs.nil))) (zaa (zal zaT (zak st_25) (zag L.toLv (ok_0e T) (hr.mono (by decide)) (by rfl) T.mg_0e T.fn_0e.kp T.b_0e .nil (zaa (pv 3) zad))) (zaa (zg3 (PEs.cons (zak st_26) (PEs.cons (zgz (pv 6)) (PEs.cons (zak st_21) (PEs.cons (zgz (pv 5)) PEs.nil))))) zad) za0)))) (zah (zam (zcC PySem.F.plainAttrs_str PySem.F.slot_str_join PySem.F.type_str_join zfw (zak st_27) (zaa (zal zgW (pv 7) (zdf (n:=1) (N:= ["plan","places"]) (js:= [0]) (by rfl) rfl rfl (zcv (pv 2)) (fun a=>(zao (i:=0) (show List.Nodup (["plan","places"]:List Str) from by decide+kernel) rfl (Or.inl rfl))) (fun a=>zcI) (fun a=>(zag zfX (ok_0n T) (hr.mono (by decide)) (by rfl) T.mg_0n T.fn_0n.kp T.b_0n .nil (zaa (pv 1) (zaa (pv 0) zad zab) zab))))) zad))))))),?_⟩;obtain⟨pc,zs,h1,h2,h3,rfl,h5⟩:=at_;open_k0;refine⟨a,_,rfl,SqT.of h1,rfl,?_⟩;open_k0;refine⟨pc,_,rfl,SqT.of h2,rfl,?_⟩;simp only[za1,zb7,zaM,zbu,za6,za5,zbw,zaD,zaK,zaL,zaJ,zbl,zbt,za4,zaW,zax,zap,zay,zbH,List.replicate,Option.join_some,Option.join_none,zaQ,zb4,zbr,zaC,tSl,zb3,zb2,zb8,slT,zbW,Int.reduceLT,Int.reduceLE,Int.reduceToNat,Int.reduceNeg,Int.reduceAdd,Int.reduceSub,Int.reduceMul,forall_const,zbT,zbp,zbQ,zbU,zbv,zbq,zbL,zbd,zbh,zbV,zbR,tC,tOp,rI,rI0,tUn,rU,zbj,tB,zbX,tOr,zbS,zbn,zbY,zbo,tIf,zbk,zb1,zaX,za3,tCB,zaZ,rEq,rNe,zaE,zaF,zaG,zaH,zaI,za2,zb0,ipI,L2.start,List.map_cons,List.map_nil,List.length_cons,List.length_nil,List.cons_append,List.nil_append,List.append_nil,List.replicate_succ,List.replicate_zero,Nat.reduceAdd,Nat.reduceSub,List.getElem?_cons_zero,List.getElem?_cons_succ,List.set_cons_zero,List.set_cons_succ,Option.some.injEq,V.int.injEq,V.bl.injEq,V.ref.injEq,V.str.injEq,exists_eq_left',exists_eq_left,exists_eq',exists_and_left,List.cons.injEq,and_true,true_and,and_self,and_assoc,decide_eq_true_eq,if_true,if_false,Bool.true_eq_false,Bool.false_eq_true,Bool.not_eq_true',Bool.not_true,Bool.not_false,decide_eq_false_iff_not,ite_true,ite_false,reduceCtorEq,false_and,exists_false,false_or,or_false,and_false,Nat.reduceLeDiff,jsT,zkK,tBM,zdD,zdY];obtain⟨pok,⟨f0,f1⟩,c0,c1⟩:=ok;have c2:cc≤400:=by split at c1<;>omega
 have pd:=(zcj (show p.toNat≤400 by omega)).2.1;have cd:=(zcj (show cc.toNat≤400 by omega)).2.1;have cw:(zcW dy).length≤6:=by unfold zcW;split<;>decide
 obtain⟨y,m,d,va,hn⟩:=Cal.date_exists f0 (show f≤3652058 by omega);have ed:dtF f=zc8 y m d:=Dt.eq ⟨y,m,d,va,hn,rfl⟩;have dl:(zc8 y m d).length=10:=by simp [zc8,zcx]
 refine⟨p0,zbD (by omega) (by omega),by omega,f,y,m,d,rfl,va,hn,fun H1 s1=>⟨_,rfl,zaz (by omega),by omega,zbD (by omega) (by omega),by omega,by omega,by omega,by simp only[List.length_append,List.length_cons,List.length_nil];omega,fun pa H2 _ s2 e2=> ?_⟩⟩;have s12:=s1.trans s2;have zl:zs.length≤8:=by have:=pok.2.1;rwa[List.length_map] at this
 refine⟨rfl,⟨_,s12.seq (SqL.of h3)⟩,fun l1 hl1 _=> ?_⟩;have zok: ∀z∈zs,zdT z.2:=fun z hz=>pok.2.2.1 _ (List.mem_map_of_mem hz);refine zeh (zs.map fun z=>V.str (SL (jn [32] (plW p.toNat z.2)))) (zcA (s12.seq (SqL.of h3))) (by rw[List.length_map,List.length_map]) hl1 (by rw[List.length_map];exact Nat.lt_of_le_of_lt zl (by decide)) (fun i x u H3 K1 hx hu s3 k1=> ?_) (fun H3 s3 e3=> ?_)
 ·rw[List.getElem?_map] at hx hu;obtain⟨z,hz,rfl⟩:=Option.map_eq_some_iff.mp hx;rw[hz] at hu;cases hu;have zm:=List.mem_of_getElem? hz;simp only[za1,zb7,zaM,zbu,za6,za5,zbw,zaD,zaK,zaL,zaJ,zbl,zbt,za4,zaW,zax,zap,zay,zbH,List.replicate,Option.join_some,Option.join_none,zaQ,zb4,zbr,zaC,tSl,zb3,zb2,zb8,slT,zbW,Int.reduceLT,Int.reduceLE,Int.reduceToNat,Int.reduceNeg,Int.reduceAdd,Int.reduceSub,Int.reduceMul,forall_const,zbT,zbp,zbQ,zbU,zbv,zbq,zbL,zbd,zbh,zbV,zbR,tC,tOp,rI,rI0,tUn,rU,zbj,tB,zbX,tOr,zbS,zbn,zbY,zbo,tIf,zbk,zb1,zaX,za3,tCB,zaZ,rEq,rNe,zaE,zaF,zaG,zaH,zaI,za2,zb0,ipI,L2.start,List.map_cons,List.map_nil,List.length_cons,List.length_nil,List.cons_append,List.nil_append,List.append_nil,List.replicate_succ,List.replicate_zero,Nat.reduceAdd,Nat.reduceSub,List.getElem?_cons_zero,List.getElem?_cons_succ,List.set_cons_zero,List.set_cons_succ,Option.some.injEq,V.int.injEq,V.bl.injEq,V.ref.injEq,V.str.injEq,exists_eq_left',exists_eq_left,exists_eq',exists_and_left,List.cons.injEq,and_true,true_and,and_self,and_assoc,decide_eq_true_eq,if_true,if_false,Bool.true_eq_false,Bool.false_eq_true,Bool.not_eq_true',Bool.not_true,Bool.not_false,decide_eq_false_iff_not,ite_true,ite_false,reduceCtorEq,false_and,exists_false,false_or,or_false,and_false,Nat.reduceLeDiff,zap,zay,zax];exact⟨p,z.1,z.2,rfl,(h5 z zm).same (s12.trans s3),zok z zm,p0,p1,fun H4 s4=>k1 _ s4⟩
 ·refine⟨pa,l1,_,_,rfl,rfl,s3 _ _ e2,e3,?_,fun p2 H4 _ s4 e4=> ?_⟩
  ·rw[List.length_map];exact zaz (by simp only[List.length_cons,List.length_nil];omega)
  have ro:=zdj (p:=p.toNat) (xs:=zs.map (·.2)) (f:=f) (dy:=dy) (cc:=cc) ⟨pok,⟨f0,f1⟩,c0,c1⟩ (by omega);refine⟨p2,rfl,(rowsW p.toNat (zs.map (fun z:V×Pl=>z.2)) f dy cc).map (jn [32]),?_,?_,q _ (((s12.trans s3)).trans s4)⟩
  ·refine SqL.of (e4.trans ?_);unfold rowsW;rw[ed];simp [jn,zcJ,zdt,zcV]
  ·have h1:=sum_le (b:=315) (ys:=(rowsW p.toNat (zs.map (·.2)) f dy cc).map (jn [32])) fun y hy=>by
    obtain⟨ws,hw,rfl⟩:=List.mem_map.mp hy;exact(ro ws hw).len
   have h2:((rowsW p.toNat (zs.map (·.2)) f dy cc).map (jn [32])).length≤11:=by
    unfold rowsW;simp only[List.map_cons,List.length_cons,List.length_map];omega
   omega
def zcX(K:Fg)(H:Hp)(l:Addr)(ws:List (List Nat)):Prop:=SqL K H l (ws.map fun w=>V.str (SL w))∧ws.length≤100∧ ∀w∈ws,w.length≤100
def zkh(K:Fg):Sp:=fun vs H Q _=> ∃(l:Addr) (p:Nat),vs= [.ref l]∧zcX K H l [zcJ,dg p]∧p≤6∧ ∀H',zau H H'→Q (.bl true) H'
theorem sc_0p:FnScope ["words"] ["words"] (zai s_0p):=⟨rfl,rfl,rfl,by decide+kernel,rfl,by decide+kernel,by decide+kernel⟩
theorem ok_0p(T:Txt K mg t):FnOk P w K mg base (CXE P w) 5 t.a_0p t.d_0p ["words"] (zkh K):=by
 refine T.fn_0p.okX sc_0p (fun vs H Q E h=> ?_) (fun cdv A outer s H vs Q E L hr h=> ?_)
 ·obtain⟨l,p,rfl,hS,hp,q⟩:=h;rfl
 obtain⟨l,p,rfl,hS,hp,q⟩:=h;have nd:=sc_0p.nd;obtain⟨u_Z0e,h_Z0e,r_Z0e⟩:=T.k_Z0e;refine⟨_,(zah (zam (zcg (zag L.toLv (ok_0m T) (hr.mono (by decide)) (by rfl) T.mg_0m T.fn_0m.kp T.b_0m .nil (zaa (zak st_28) (zaa (pv 0) zad zab) zac)) (zbZ (zbA zhT (zbb zbF (by rfl) T.no_int zcR (zaa (za9 zaR (pv 0) zae (fun _ _=>rfl)) zad)) (zbe (by rfl) h_Z0e r_Z0e) (zar _)))))),?_⟩;open_k0;obtain⟨nk,nl,nv,_⟩:=zcj (show p≤400 by omega);refine⟨_,l,_,rfl,hS.1,by decide,fun w hw=>by have:=hS.2.2 w hw;omega,fun b H1 s1 hb=>⟨b,rfl,?_⟩⟩;obtain rfl:b=true:=hb.mpr (zdV (ks:= [zcJ, [78]]) (by decide) ⟨zbO (by decide),zdK nk,trivial⟩);rw[if_pos rfl];refine ixL (s1.seq hS.1) (v:= .str (SL (dg p))) rfl ⟨_,rfl,nk.1,nk.2.1,by omega,?_⟩;rw[nv,decide_eq_true (by omega)];exact q _ s1
def zki(K:Fg):Sp:=fun vs H Q _=> ∃(l:Addr) (c:Nat) (dy:Bool),vs= [.ref l]∧zcX K H l [zcV,dg c,zcW dy]∧c≤400∧ ∀H',zau H H'→Q (.bl true) H'
theorem sc_0q:FnScope ["words"] ["words"] (zai s_0q):=⟨rfl,rfl,rfl,by decide+kernel,rfl,by decide+kernel,by decide+kernel⟩
theorem ok_0q(T:Txt K mg t):FnOk P w K mg base (CXE P w) 5 t.a_0q t.d_0q ["words"] (zki K):=by
 refine T.fn_0q.okX sc_0q (fun vs H Q E h=> ?_) (fun cdv A outer s H vs Q E L hr h=> ?_)
 ·obtain⟨l,c,dy,rfl,hS,hc,q⟩:=h;rfl
 obtain⟨l,c,dy,rfl,hS,hc,q⟩:=h;have nd:=sc_0q.nd;refine⟨_,(zah (zam (zgK (zag L.toLv (ok_0m T) (hr.mono (by decide)) (by rfl) T.mg_0m T.fn_0m.kp T.b_0m .nil (zaa (zak st_29) (zaa (pv 0) zad zab) zac)) (zbZ (zag L.toLv (ok_0m T) (hr.mono (by decide)) (by rfl) T.mg_0m T.fn_0m.kp T.b_0m .nil (zaa (zak st_30) (zaa (pv 0) zad zab) zac)))))),?_⟩;open_k0;obtain⟨nk,nl,nv,_⟩:=zcj hc;refine⟨_,l,_,rfl,hS.1,by decide,fun w hw=>by have:=hS.2.2 w hw;omega,fun b H1 s1 hb=>⟨b,rfl,za8 (fun _=>q _ s1) (fun nb=> ?_)⟩⟩;cases dy with
 |true=>exact absurd (hb.mpr (zdV (ks:= [zcV, [78],zcW true]) (by decide) ⟨zbO (by decide),zdK nk,zbO (by decide),trivial⟩)) nb
 |false=>
  refine⟨_,l,_,rfl,s1.seq hS.1,by decide,fun w hw=>by have:=hS.2.2 w hw;omega,fun b H2 s2 hb2=> ?_⟩;obtain rfl:b=true:=hb2.mpr (zdV (ks:= [zcV, [78],zcW false]) (by decide) ⟨zbO (by decide),zdK nk,zbO (by decide),trivial⟩);exact q _ (s1.trans s2)
def zje(K:Fg):Sp:=fun vs H Q _=> ∃(l:Addr) (p:Nat) (x:Pl),vs= [.ref l]∧zcX K H l (plW p x)∧zdT x∧p≤6∧ ∀H',zau H H'→Q (.bl true) H'
theorem sc_0r:FnScope ["words"] ["words"] (zai s_0r):=⟨rfl,rfl,rfl,by decide+kernel,rfl,by decide+kernel,by decide+kernel⟩
theorem ok_0r(T:Txt K mg t):FnOk P w K mg base (CXE P w) 5 t.a_0r t.d_0r ["words"] (zje K):=by
 refine T.fn_0r.okX sc_0r (fun vs H Q E h=> ?_) (fun cdv A outer s H vs Q E L hr h=> ?_)
 ·obtain⟨l,p,x,rfl,hS,ok,hp,q⟩:=h;rfl
 obtain⟨l,p,x,rfl,hS,ok,hp,q⟩:=h;have nd:=sc_0r.nd;refine⟨_,(zaf (zaU (zbC (zag L.toLv (ok_0m T) (hr.mono (by decide)) (by rfl) T.mg_0m T.fn_0m.kp T.b_0m .nil (zaa (zak st_31) (zaa (pv 0) zad zab) zac))) (zah (zam zcl)) zaq) (zah (zam (zcg (zag L.toLv (ok_0m T) (hr.mono (by decide)) (by rfl) T.mg_0m T.fn_0m.kp T.b_0m .nil (zaa (zak st_32) (zaa (pv 0) zad zab) zac)) (zbZ (zbA zcZ (za9 zaR (pv 0) zae (fun _ _=>rfl)) (zak st_19) (zar _))))))),?_⟩;open_k0;have up1:zc9 [78,65,77,69] x.1:=zfK (by decide) (by decide+kernel);have up2:zc9 [80,82,73,67,69] (zcd x.2.1 p):=zfK (by decide) (by decide+kernel);refine⟨_,l,_,rfl,hS.1,by decide,fun w hw=>by have:=hS.2.2 w hw;omega,fun b H1 s1 hb=>⟨b,rfl,za8 (fun _=>q _ s1) (fun nb=> ?_)⟩⟩;have c0:x.2.2≠0:=fun e=>by
  unfold plW at hb;rw[if_pos e] at hb;exact nb (hb.mpr (zdV (ks:= [zdJ, [78,65,77,69], [80,82,73,67,69]]) (by decide) ⟨zbO (by decide),up1,up2,trivial⟩))
 have eW:plW p x= [zdJ,x.1,zcd x.2.1 p,zhG,dg x.2.2.toNat]:=by
  unfold plW;rw[if_neg c0];rfl
 rw[eW] at hS;have c1:=ok.2.2.2;obtain⟨nk,nl,nv,n0⟩:=zcj (show x.2.2.toNat≤400 by omega);refine⟨_,l,_,rfl,s1.seq hS.1,by decide,fun w hw=>by have:=hS.2.2 w hw;omega,fun b H2 s2 hb2=>⟨b,rfl,?_⟩⟩;obtain rfl:b=true:=hb2.mpr (zdV (ks:= [zdJ, [78,65,77,69], [80,82,73,67,69],zhG, [78]]) (by decide) ⟨zbO (by decide),up1,up2,zbO (by decide),zdK nk,trivial⟩);rw[if_pos rfl];refine ixL (s2.seq (s1.seq hS.1)) (v:= .str (SL (dg x.2.2.toNat))) rfl ⟨rfl,?_⟩;rw[decide_eq_false fun e=>n0 (by omega) (by have:=V.str.inj e;rwa[zaQ] at this)];exact q _ (s1.trans s2)
def zcY(K:Fg)(H:Hp)(vs:List V)(wss:List (List (List Nat))):Prop:=vs.length=wss.length∧ ∀(i:Nat) v ws,vs[i]? =some v→wss[i]? =some ws→ ∃a,v= .ref a∧zcX K H a ws
theorem zcX.same{K:Fg}{H H':Hp}{l:Addr}{ws:List (List Nat)}(h:zcX K H l ws)(s:zau H H'):zcX K H' l ws:=⟨s.seq h.1,h.2⟩
theorem zcY.same{K:Fg}{H H':Hp}{vs:List V}{wss:List (List (List Nat))}(h:zcY K H vs wss)(s:zau H H'):zcY K H' vs wss:=⟨h.1,fun i v ws e1 e2=>let ⟨a,e,q⟩:=h.2 i v ws e1 e2;⟨a,e,q.same s⟩⟩
theorem zcY.get{K:Fg}{H:Hp}{vs:List V}{wss:List (List (List Nat))}(h:zcY K H vs wss){i:Nat}{ws:List (List Nat)}(e:wss[i]? =some ws): ∃a,vs[i]? =some (.ref a)∧zcX K H a ws:=by
 have hi:i<vs.length:=by rw[h.1];exact(List.getElem?_eq_some_iff.mp e).1
 obtain⟨a,e2,q⟩:=h.2 i _ ws (List.getElem?_eq_getElem hi) e;exact⟨a,by rw[List.getElem?_eq_getElem hi,e2],q⟩
def zjf(K:Fg):Sp:=fun vs H Q _=> ∃(l:Addr) (us:List V) (p:Nat) (xs:List Pl) (f:Int) (dy:Bool) (cc:Int),vs= [.ref l]∧SqL K H l us∧zcY K H us (rowsW p xs f dy cc)∧zd7 xs f dy cc∧p≤6∧ ∀H',zau H H'→Q (.bl true) H'
theorem zdL(p:Nat)(xs:List Pl)(f:Int)(dy:Bool)(cc:Int):(rowsW p xs f dy cc).length=xs.length+3:=by
 unfold rowsW;simp only[List.length_cons,List.length_map]
theorem zfe{p:Nat}{xs:List Pl}{f:Int}{dy:Bool}{cc:Int}{i:Nat}{x:Pl}(h:xs[i]? =some x):(rowsW p xs f dy cc)[3+i]? =some (plW p x):=by
 unfold rowsW;rw[show 3+i=i+1+1+1 by omega,List.getElem?_cons_succ,List.getElem?_cons_succ,List.getElem?_cons_succ,List.getElem?_map,h];rfl
theorem zff(ws:List (List Nat)):(ws.map fun w=>V.str (SL w)).all zdz=true:=by
 rw[List.all_map];exact List.all_eq_true.mpr fun w _=>rfl
theorem zg9{n i:Nat}{a u:V}(h:(List.replicate n a)[i]? =some u):u=a:=by
 rw[List.getElem?_replicate] at h;split at h
 ·exact(Option.some.inj h).symm
 ·cases h
theorem sc_0s:FnScope ["lines"] ["lines"] (zai s_0s):=⟨rfl,rfl,rfl,by decide+kernel,rfl,by decide+kernel,by decide+kernel⟩
theorem ok_0s(T:Txt K mg t):FnOk P w K mg base (CXE P w) 6 t.a_0s t.d_0s ["lines"] (zjf K):=by
 refine T.fn_0s.okX sc_0s (fun vs H Q E h=> ?_) (fun cdv A outer s H vs Q E L hr h=> ?_)
 ·obtain⟨l,us,p,xs,f,dy,cc,rfl,hS,hL,ok,hp,q⟩:=h;rfl
 obtain⟨l,us,p,xs,f,dy,cc,rfl,hS,hL,ok,hp,q⟩:=h;have nd:=sc_0s.nd;refine⟨_,(zaf (zaU (PW.pt (zcu (zas zdl (zan zaS (by rfl) T.no_len zbB (zaa (pv 0) zad)) zae (zar _)) (zcq (zbC (zan (zh1 (by rfl)) (by rfl) T.no_any zjQ (zaa (zdf (n:=1) (N:= ["words"]) (js:= []) (by rfl) rfl rfl (zcv (pv 0)) (fun a=>(zao (i:=0) (show List.Nodup (["words"]:List Str) from by decide+kernel) rfl (Or.inl rfl))) (fun a=>zcI) (fun a=>(zbA ze2 (zak st_14) (pv 0) rfl))) zad)))))) (zah (zam zcl)) zaq) (zaf (zaU (zcu (zcf (zbC (zag L.toLv (ok_0p T) (hr.mono (by decide)) (by rfl) T.mg_0p T.fn_0p.kp T.b_0p .nil (zaa (za9 zaR (pv 0) zae (fun _ _=>rfl)) zad)))) (zcu (zcf (zbC (zag L.toLv (ok_0m T) (hr.mono (by decide)) (by rfl) T.mg_0m T.fn_0m.kp T.b_0m .nil (zaa (zak st_33) (zaa (za9 zaR (pv 0) zae (fun _ _=>rfl)) zad za7) zac)))) (zcq (zcf (zbC (zag L.toLv (ok_0q T) (hr.mono (by decide)) (by rfl) T.mg_0q T.fn_0q.kp T.b_0q .nil (zaa (za9 zaR (pv 0) zae (fun _ _=>rfl)) zad))))))).pt (zah (zam zcl)) zaq) (zah (zam (zan (zew (by rfl)) (by rfl) T.no_all zgp (zaa (zdf (n:=1) (N:= ["words"]) (js:= []) (by rfl) rfl rfl (zcv (zcm zf0 (pv 0) (zcw zae) zcQ)) (fun a=>(zao (i:=0) (show List.Nodup (["words"]:List Str) from by decide+kernel) rfl (Or.inl rfl))) (fun a=>zcI) (fun a=>(zag zfX (ok_0r T) (hr.mono (by decide)) (by rfl) T.mg_0r T.fn_0r.kp T.b_0r .nil (zaa (pv 0) zad)))) zad)))))),?_⟩;simp only[za1,zb7,zaM,zbu,za6,za5,zbw,zaD,zaK,zaL,zaJ,zbl,zbt,za4,zaW,zax,zap,zay,zbH,List.replicate,Option.join_some,Option.join_none,zaQ,zb4,zbr,zaC,tSl,zb3,zb2,zb8,slT,zbW,Int.reduceLT,Int.reduceLE,Int.reduceToNat,Int.reduceNeg,Int.reduceAdd,Int.reduceSub,Int.reduceMul,forall_const,zbT,zbp,zbQ,zbU,zbv,zbq,zbL,zbd,zbh,zbV,zbR,tC,tOp,rI,rI0,tUn,rU,zbj,tB,zbX,tOr,zbS,zbn,zbY,zbo,tIf,zbk,zb1,zaX,za3,tCB,zaZ,rEq,rNe,zaE,zaF,zaG,zaH,zaI,za2,zb0,ipI,L2.start,List.map_cons,List.map_nil,List.length_cons,List.length_nil,List.cons_append,List.nil_append,List.append_nil,List.replicate_succ,List.replicate_zero,Nat.reduceAdd,Nat.reduceSub,List.getElem?_cons_zero,List.getElem?_cons_succ,List.set_cons_zero,List.set_cons_succ,Option.some.injEq,V.int.injEq,V.bl.injEq,V.ref.injEq,V.str.injEq,exists_eq_left',exists_eq_left,exists_eq',exists_and_left,List.cons.injEq,and_true,true_and,and_self,and_assoc,decide_eq_true_eq,if_true,if_false,Bool.true_eq_false,Bool.false_eq_true,Bool.not_eq_true',Bool.not_true,Bool.not_false,decide_eq_false_iff_not,ite_true,ite_false,reduceCtorEq,false_and,exists_false,false_or,or_false,and_false,Nat.reduceLeDiff,zdD,zdY];have rl:=zdL p xs f dy cc;have x1:=ok.1.1;have x2:=ok.1.2.1;have ul:=hL.1;have ro:=zdj (p:=p) ok hp;have c2:cc≤400:=by
  have:=ok.2.2.2;split at this<;>omega
 refine⟨_, .inl hS,?_⟩;rw[if_neg (by omega)];refine⟨⟨_,hS⟩,fun l1 hl1 _=> ?_⟩;refine zeh (List.replicate us.length (V.bl false)) (zcA hS) List.length_replicate hl1 (Nat.lt_of_le_of_lt (show us.length≤11 by omega) (by decide)) (fun i x u H1 K1 hx hu s1 k1=> ?_) (fun H1 s1 e1=> ?_)
 ·have hi:=(List.getElem?_eq_some_iff.mp hx).1;have hr:=List.getElem?_eq_getElem (l:=rowsW p xs f dy cc) (by omega:i<_);obtain⟨a,rfl,hA⟩:=hL.2 i x _ hx hr;obtain rfl:=zg9 hu;simp only[za1,zb7,zaM,zbu,za6,za5,zbw,zaD,zaK,zaL,zaJ,zbl,zbt,za4,zaW,zax,zap,zay,zbH,List.replicate,Option.join_some,Option.join_none,zaQ,zb4,zbr,zaC,tSl,zb3,zb2,zb8,slT,zbW,Int.reduceLT,Int.reduceLE,Int.reduceToNat,Int.reduceNeg,Int.reduceAdd,Int.reduceSub,Int.reduceMul,forall_const,zbT,zbp,zbQ,zbU,zbv,zbq,zbL,zbd,zbh,zbV,zbR,tC,tOp,rI,rI0,tUn,rU,zbj,tB,zbX,tOr,zbS,zbn,zbY,zbo,tIf,zbk,zb1,zaX,za3,tCB,zaZ,rEq,rNe,zaE,zaF,zaG,zaH,zaI,za2,zb0,ipI,L2.start,List.map_cons,List.map_nil,List.length_cons,List.length_nil,List.cons_append,List.nil_append,List.append_nil,List.replicate_succ,List.replicate_zero,Nat.reduceAdd,Nat.reduceSub,List.getElem?_cons_zero,List.getElem?_cons_succ,List.set_cons_zero,List.set_cons_succ,Option.some.injEq,V.int.injEq,V.bl.injEq,V.ref.injEq,V.str.injEq,exists_eq_left',exists_eq_left,exists_eq',exists_and_left,List.cons.injEq,and_true,true_and,and_self,and_assoc,decide_eq_true_eq,if_true,if_false,Bool.true_eq_false,Bool.false_eq_true,Bool.not_eq_true',Bool.not_true,Bool.not_false,decide_eq_false_iff_not,ite_true,ite_false,reduceCtorEq,false_and,exists_false,false_or,or_false,and_false,Nat.reduceLeDiff,zap,zax];refine⟨a,_,rfl, .inl (s1.seq hA.1),rfl,zff _,?_⟩;rw[if_neg (by decide),zeE,decide_eq_false fun z=>((ro _ (List.mem_of_getElem? hr)).2.2 _ z).1 rfl];exact k1 _ (zau.refl _)
 refine⟨l1,rfl,List.replicate us.length false,SqL.of (e1.trans (by rw[List.map_replicate])),?_⟩;rw[if_neg (by simp)];obtain⟨a0,u0,A0⟩:=hL.get (i:=0) rfl;obtain⟨a1,u1,A1⟩:=hL.get (i:=1) rfl;obtain⟨a2,u2,A2⟩:=hL.get (i:=2) rfl;refine ixL (s1.seq hS) (zaV (j:=0) u0) ⟨a0,p,rfl,A0.same s1,hp,fun H2 s2=>⟨true,rfl,?_⟩⟩;rw[if_neg (by decide)];have s12:=s1.trans s2;refine ixL (s12.seq hS) (zaV (j:=1) u1) ⟨_,a1,_,rfl,(A1.same s12).1,by decide,fun w hw=>by have:=A1.2.2 w hw;omega,fun b H3 s3 hb=>⟨b,rfl,?_⟩⟩;obtain rfl:b=true:=hb.mpr (zdV (ks:= [zdt, [68,65,84,69]]) (by decide) ⟨zbO (by decide),zfK (by decide) (by decide+kernel),trivial⟩);rw[if_neg (by decide)];have s13:=s12.trans s3;refine ixL (s13.seq hS) (zaV (j:=2) u2) ⟨a2,cc.toNat,dy,rfl,A2.same s13,by omega,fun H4 s4=>⟨true,rfl,?_⟩⟩;rw[if_neg (by decide)];have s14:=s13.trans s4;refine⟨l,us,rfl,s14.seq hS,fun pa H5 _ s5 e5=>⟨pa,rfl,⟨_,SqL.of e5⟩,fun l2 hl2 _=> ?_⟩⟩;rw[zf1 us (by decide) (by omega)] at e5;have s15:=s14.trans s5;refine zeh (List.replicate (us.drop 3).length (V.bl true)) (zcA (SqL.of e5)) List.length_replicate hl2 (Nat.lt_of_le_of_lt (show (us.drop 3).length≤11 by rw[List.length_drop];omega) (by decide)) (fun i x u H6 K1 hx hu s6 k1=> ?_) (fun H6 s6 e6=> ?_)
 ·have hi:=(List.getElem?_eq_some_iff.mp hx).1;rw[List.length_drop] at hi;have hr:=List.getElem?_eq_getElem (l:=xs) (by omega:i<_);rw[List.getElem?_drop] at hx;obtain⟨a,rfl,hA⟩:=hL.2 (3+i) x _ hx (zfe hr);obtain rfl:=zg9 hu;simp only[za1,zb7,zaM,zbu,za6,za5,zbw,zaD,zaK,zaL,zaJ,zbl,zbt,za4,zaW,zax,zap,zay,zbH,List.replicate,Option.join_some,Option.join_none,zaQ,zb4,zbr,zaC,tSl,zb3,zb2,zb8,slT,zbW,Int.reduceLT,Int.reduceLE,Int.reduceToNat,Int.reduceNeg,Int.reduceAdd,Int.reduceSub,Int.reduceMul,forall_const,zbT,zbp,zbQ,zbU,zbv,zbq,zbL,zbd,zbh,zbV,zbR,tC,tOp,rI,rI0,tUn,rU,zbj,tB,zbX,tOr,zbS,zbn,zbY,zbo,tIf,zbk,zb1,zaX,za3,tCB,zaZ,rEq,rNe,zaE,zaF,zaG,zaH,zaI,za2,zb0,ipI,L2.start,List.map_cons,List.map_nil,List.length_cons,List.length_nil,List.cons_append,List.nil_append,List.append_nil,List.replicate_succ,List.replicate_zero,Nat.reduceAdd,Nat.reduceSub,List.getElem?_cons_zero,List.getElem?_cons_succ,List.set_cons_zero,List.set_cons_succ,Option.some.injEq,V.int.injEq,V.bl.injEq,V.ref.injEq,V.str.injEq,exists_eq_left',exists_eq_left,exists_eq',exists_and_left,List.cons.injEq,and_true,true_and,and_self,and_assoc,decide_eq_true_eq,if_true,if_false,Bool.true_eq_false,Bool.false_eq_true,Bool.not_eq_true',Bool.not_true,Bool.not_false,decide_eq_false_iff_not,ite_true,ite_false,reduceCtorEq,false_and,exists_false,false_or,or_false,and_false,Nat.reduceLeDiff,zap,zax];exact⟨a,p,_,rfl,hA.same (s15.trans s6),ok.1.2.2.1 _ (List.mem_of_getElem? hr),hp,fun H7 s7=>k1 _ s7⟩
 refine⟨l2,rfl,List.replicate (us.drop 3).length true,SqL.of (e6.trans (by rw[List.map_replicate])),?_⟩;rw[show (List.replicate (us.drop 3).length true).all id=true by simp];exact q _ (s15.trans s6)
def ziA(K:Fg):Sp:=fun vs H Q _=> ∃(p:Int) (l:Addr) (x:Pl),vs= [.int p, .ref l]∧zcX K H l (plW p.toNat x)∧zdT x∧0≤p∧p≤6∧ ∀r H',zau H H'→H r=none→H' r=some (.tup [.str (SL x.1), .int x.2.1, .int x.2.2])→Q (.ref r) H'
theorem sc_0t:FnScope ["places","words","count"] ["places","words"] (zai s_0t):=⟨rfl,rfl,rfl,by decide+kernel,rfl,by decide+kernel,by decide+kernel⟩
theorem ok_0t(T:Txt K mg t):FnOkT P w K mg base (CXE P w) 3 t.a_0t t.d_0t ["places","words"] (ziA K):=by
 refine T.fn_0t.okXT sc_0t (fun vs H Q E h=> ?_) (fun cdv A outer s H vs Q E L hr h=> ?_)
 ·obtain⟨p,l,x,rfl,hS,ok,p0,p1,q⟩:=h;rfl
 obtain⟨p,l,x,rfl,hS,ok,p0,p1,q⟩:=h;have nd:=sc_0t.nd;refine⟨_,(zbc (PS.t (zaw (i:=2) nd rfl (Or.inl rfl) (zfQ (zas zc0 (zan zaS (by rfl) T.no_len zbB (zaa (pv 1) zad)) zae (zar _)) (zbb zbF (by rfl) T.no_int zcR (zaa (za9 zaR (pv 1) zae (fun _ _=>rfl)) zad)) zae))) (zeA (zgY (zf6 (zdh (PE.t (za9 zaR (pv 1) zae (fun _ _=>rfl))) (zdh (zcB L.toLv (ok_0j T) (hr.mono (by decide)) (by rfl) T.mg_0j T.fn_0j.kp T.b_0j .nil (PA.t (zaa (za9 zaR (pv 1) zae (fun _ _=>rfl)) (zaa (pv 0) zad zab) za7))) (PA.t (zaa (pv 2) zad)))))))),?_⟩;open_k0;obtain⟨nm,pr,ct⟩:=x;have c1:=ok.2.2.2;have pb:pr.natAbs<10 ^ 60:=by have:=ok.2.1;have:=ok.2.2.1;dsimp only at*;omega
 have as:=zcE pb (show p.toNat≤6 by omega);have rd: ∀H1 (R:VK),(∀H2,zau H1 H2→R (.int pr) H2)→ziv t [V.str (SL (zcd pr p.toNat)),V.int p] H1 R E:=fun H1 R k=>⟨_,p,rfl,zaz (by omega),p0,p1,fun n hw H2 s2=>by
  obtain rfl:=hw.one (zgZ pb (show p.toNat≤6 by omega));exact k H2 s2,fun no=>absurd (zgZ pb (show p.toNat≤6 by omega)) (no _)⟩
 dsimp only at c1 q;unfold plW at hS;by_cases c:ct=0
 ·rw[if_pos c] at hS;dsimp only at hS;refine⟨_, .inl hS.1,?_⟩;rw[if_neg (by rw[List.length_map];simp)];refine ixL hS.1 (zaV (j:=1) rfl) (ixL hS.1 (zaV (j:=2) rfl) (rd _ _ fun H1 s1 r H2 hr s2 e2=>q r H2 (s1.trans s2) (s1.free hr) ?_));rw[e2,c]
 ·rw[if_neg c] at hS;dsimp only at hS;refine⟨_, .inl hS.1,?_⟩;rw[if_pos (by rw[List.length_map];simp)];obtain⟨nk,nl,nv,_⟩:=zcj (show ct.toNat≤400 by omega);refine ixL hS.1 (zaV (j:=4) rfl) ⟨_,rfl,nk.1,nk.2.1,by omega,ixL hS.1 (zaV (j:=1) rfl) (ixL hS.1 (zaV (j:=2) rfl) (rd _ _ fun H1 s1 r H2 hr s2 e2=>q r H2 (s1.trans s2) (s1.free hr) ?_))⟩;rw[e2,nv,Int.toNat_of_nonneg c1.1]
def zfg:Sp:=fun vs H Q _=> ∃(p:Nat) (xs:List Pl) (f:Int) (dy:Bool) (cc:Int),vs= [.str (SL (txtF p xs f dy cc))]∧zd7 xs f dy cc∧p≤6∧ ∀r a l H',zau H H'→H l=none→H' r=some (.tup [.int p, .ref a])→zeL H' a l xs f dy cc→Q (.ref r) H'
theorem txt_len{p:Nat}{xs:List Pl}{f:Int}{dy:Bool}{cc:Int}(ok:zd7 xs f dy cc)(hp:p≤6):(txtF p xs f dy cc).length≤4000:=by
 have ro:=zdj (p:=p) ok hp;have h0:=zgH [10] ((rowsW p xs f dy cc).map (jn [32]));have h1:=sum_le (b:=315) (ys:=(rowsW p xs f dy cc).map (jn [32])) fun y hy=>by
  obtain⟨ws,hw,rfl⟩:=List.mem_map.mp hy;exact(ro ws hw).len
 have h2:=zdL p xs f dy cc;have h3:=ok.1.2.1;rw[List.length_map] at h0 h1;simp only[List.length_cons,List.length_nil] at h0;unfold txtF;omega
theorem txt_spl{p:Nat}{xs:List Pl}{f:Int}{dy:Bool}{cc:Int}(ok:zd7 xs f dy cc)(hp:p≤6):spl 10 (txtF p xs f dy cc)=(rowsW p xs f dy cc).map (jn [32]):=by
 have ro:=zdj (p:=p) ok hp;unfold txtF;refine zfE ?_ fun y hy=> ?_
 ·unfold rowsW;exact List.cons_ne_nil _ _
 ·obtain⟨ws,hw,rfl⟩:=List.mem_map.mp hy;exact(ro ws hw).nl
theorem zjg{ws:List (List Nat)}(h:zeM ws):spl 32 (jn [32] ws)=ws:=zfE h.1 fun w hw=>(h.2.2 w hw).2.2.1
theorem ziB{dy:Bool}{cc:Int}(h0:1≤cc)(h1:cc≤if dy then 400 else 12):zfb [.str (zcW dy), .int cc]=true:=by
 cases dy with
 |true=>
  show (decide (1≤cc) && decide (cc≤400))=true;rw[decide_eq_true h0,decide_eq_true (show cc≤400 from h1)];rfl
 |false=>
  show (decide (1≤cc) && decide (cc≤12))=true;rw[decide_eq_true h0,decide_eq_true (show cc≤12 from h1)];rfl
theorem zfL{f:D→V→Prop}: ∀{ds:List D} {xs:List V},ds.length=xs.length→(∀(i:Nat) d x,ds[i]? =some d→xs[i]? =some x→f d x)→zc1 f ds xs
 | [], [],_,_=>trivial
 |d::ds,x::xs,e,h=>⟨h 0 d x rfl rfl,zfL (by simpa using e) fun i d x e1 e2=>h (i+1) d x e1 e2⟩
 | [],_::_,e,_=>by cases e
 |_::_, [],e,_=>by cases e
theorem sc_0u:FnScope ["text","lines","places","first","cycle","account"] ["text"] (zai s_0u):=⟨rfl,rfl,rfl,by decide+kernel,rfl,by decide+kernel,by decide+kernel⟩
theorem ok_0u(T:Txt K mg t):FnOkT P w K mg base (CXE P w) 7 t.a_0u t.d_0u ["text"] (zfg):=by
 refine T.fn_0u.okXT sc_0u (fun vs H Q E h=> ?_) (fun cdv A outer s H vs Q E L hr h=> ?_)
 ·obtain⟨p,xs,f,dy,cc,rfl,ok,hp,q⟩:=h;rfl
 obtain⟨p,xs,f,dy,cc,rfl,ok,hp,q⟩:=h;have nd:=sc_0u.nd;refine⟨_,(zbc (PS.t (ziW (i:=1) nd rfl rfl (n:=1) (N:= ["line"]) (js:= []) (by rfl) rfl rfl (zcv (zcC PySem.F.plainAttrs_str PySem.F.slot_str_split PySem.F.type_str_split zeF (pv 0) (zaa (zak st_27) zad))) (fun a=>(zao (i:=0) (show List.Nodup (["line"]:List Str) from by decide+kernel) rfl (Or.inl rfl))) (fun a=>zcI) (fun a=>(zcC PySem.F.plainAttrs_str PySem.F.slot_str_split PySem.F.type_str_split zeF (pv 0) (zaa (zak st_21) zad))))) (zbc (PS.t (zaU (zcf (zbC (zag L.toLv (ok_0s T) (hr.mono (by decide)) (by rfl) T.mg_0s T.fn_0s.kp T.b_0s .nil (zaa (pv 1) zad)))) (zah (zbs L T.ex_Z0j (by rfl) (by rfl) T.mg_Z0j (zaa zbP zad))) zaq)) (zbc (PS.t (zaw (i:=2) nd rfl (Or.inr rfl) (zbb zbF (by rfl) T.no_int zcR (zaa (za9 zaR (za9 zaR (pv 1) zae (fun _ _=>rfl)) zae (fun _ _=>rfl)) zad)))) (zbc (PS.t (zaw (i:=3) nd rfl (Or.inl rfl) (zag L.toLv (ok_0g T) (hr.mono (by decide)) (by rfl) T.mg_0g T.fn_0g.kp T.b_0g .nil (zaa (za9 zaR (za9 zaR (pv 1) zae (fun _ _=>rfl)) zae (fun _ _=>rfl)) zad)))) (zbc (PS.t (zaw (i:=4) nd rfl (Or.inl rfl) (zcc (zaa (za9 zaR (za9 zaR (pv 1) zae (fun _ _=>rfl)) zae (fun _ _=>rfl)) (zaa (zbb zbF (by rfl) T.no_int zcR (zaa (za9 zaR (za9 zaR (pv 1) zae (fun _ _=>rfl)) zae (fun _ _=>rfl)) zad)) zad zbN) za7)))) (zbc (zfz (i:=5) nd rfl (Or.inl rfl) (zf6 (zdh (zin (n:=1) (N:= ["words","places"]) (js:= [2]) (by rfl) rfl rfl (zcv (zcm zf0 (pv 1) (zcw zae) zcQ)) (fun a=>(zao (i:=0) (show List.Nodup (["words","places"]:List Str) from by decide+kernel) rfl (Or.inl rfl))) (fun a=>zcI) (fun a=>(zcB zfX (ok_0t T) (hr.mono (by decide)) (by rfl) T.mg_0t T.fn_0t.kp T.b_0t .nil (PA.t (zaa (pv 1) (zaa (pv 0) zad zab) zab))))) (PA.t (zaa (pv 3) (zaa (pv 4) zad zab) zab))))) (PSs.t (zaf (zdy (zag L.toLv (ok_07 T) (hr.mono (by decide)) (by rfl) T.mg_07 T.fn_07.kp T.b_07 .nil (zaa (pv 5) zad))) (zah (zam (zcc (zaa (pv 2) (zaa (pv 5) zad zab) zab)))))))))))),?_⟩;simp only[za1,zb7,zaM,zbu,za6,za5,zbw,zaD,zaK,zaL,zaJ,zbl,zbt,za4,zaW,zax,zap,zay,zbH,List.replicate,Option.join_some,Option.join_none,zaQ,zb4,zbr,zaC,tSl,zb3,zb2,zb8,slT,zbW,Int.reduceLT,Int.reduceLE,Int.reduceToNat,Int.reduceNeg,Int.reduceAdd,Int.reduceSub,Int.reduceMul,forall_const,zbT,zbp,zbQ,zbU,zbv,zbq,zbL,zbd,zbh,zbV,zbR,tC,tOp,rI,rI0,tUn,rU,zbj,tB,zbX,tOr,zbS,zbn,zbY,zbo,tIf,zbk,zb1,zaX,za3,tCB,zaZ,rEq,rNe,zaE,zaF,zaG,zaH,zaI,za2,zb0,ipI,L2.start,List.map_cons,List.map_nil,List.length_cons,List.length_nil,List.cons_append,List.nil_append,List.append_nil,List.replicate_succ,List.replicate_zero,Nat.reduceAdd,Nat.reduceSub,List.getElem?_cons_zero,List.getElem?_cons_succ,List.set_cons_zero,List.set_cons_succ,Option.some.injEq,V.int.injEq,V.bl.injEq,V.ref.injEq,V.str.injEq,exists_eq_left',exists_eq_left,exists_eq',exists_and_left,List.cons.injEq,and_true,true_and,and_self,and_assoc,decide_eq_true_eq,if_true,if_false,Bool.true_eq_false,Bool.false_eq_true,Bool.not_eq_true',Bool.not_true,Bool.not_false,decide_eq_false_iff_not,ite_true,ite_false,reduceCtorEq,false_and,exists_false,false_or,or_false,and_false,Nat.reduceLeDiff,tBM,zdD,zdY];have tl:=txt_len ok hp;have ts:=txt_spl ok hp;have ro:=zdj (p:=p) ok hp;have rl:=zdL p xs f dy cc;have x1:=ok.1.1;have x2:=ok.1.2.1;have c2:cc≤400:=by
  have:=ok.2.2.2;split at this<;>omega
 refine⟨rfl,by omega,fun pl H1 _ s1 e1=>⟨pl,rfl,⟨_,SqL.of e1⟩,fun l hl _=> ?_⟩⟩;rw[ts] at e1;refine zg5 (fun i v H'=> ∃a ws,v= .ref a∧a≠l∧(rowsW p xs f dy cc)[i]? =some ws∧H' a=some (.lst (ws.map fun w=>V.str (SL w)))) (zcA (SqL.of e1)) hl (by rw[List.length_map,List.length_map,rl];exact Nat.lt_of_le_of_lt (show xs.length+3≤11 by omega) (by decide)) (fun i x H2 K1 hx s2 k1 nl=> ?_) (fun i v H2 H5 h h5=> ?_) (fun vs H2 s2 vl hv e2=> ?_)
 ·rw[List.getElem?_map,List.getElem?_map,Option.map_map] at hx;obtain⟨ws,hw,rfl⟩:=Option.map_eq_some_iff.mp hx;have rw_:=ro ws (List.mem_of_getElem? hw)
  have:=rw_.len;simp only[za1,zb7,zaM,zbu,za6,za5,zbw,zaD,zaK,zaL,zaJ,zbl,zbt,za4,zaW,zax,zap,zay,zbH,List.replicate,Option.join_some,Option.join_none,zaQ,zb4,zbr,zaC,tSl,zb3,zb2,zb8,slT,zbW,Int.reduceLT,Int.reduceLE,Int.reduceToNat,Int.reduceNeg,Int.reduceAdd,Int.reduceSub,Int.reduceMul,forall_const,zbT,zbp,zbQ,zbU,zbv,zbq,zbL,zbd,zbh,zbV,zbR,tC,tOp,rI,rI0,tUn,rU,zbj,tB,zbX,tOr,zbS,zbn,zbY,zbo,tIf,zbk,zb1,zaX,za3,tCB,zaZ,rEq,rNe,zaE,zaF,zaG,zaH,zaI,za2,zb0,ipI,L2.start,List.map_cons,List.map_nil,List.length_cons,List.length_nil,List.cons_append,List.nil_append,List.append_nil,List.replicate_succ,List.replicate_zero,Nat.reduceAdd,Nat.reduceSub,List.getElem?_cons_zero,List.getElem?_cons_succ,List.set_cons_zero,List.set_cons_succ,Option.some.injEq,V.int.injEq,V.bl.injEq,V.ref.injEq,V.str.injEq,exists_eq_left',exists_eq_left,exists_eq',exists_and_left,List.cons.injEq,and_true,true_and,and_self,and_assoc,decide_eq_true_eq,if_true,if_false,Bool.true_eq_false,Bool.false_eq_true,Bool.not_eq_true',Bool.not_true,Bool.not_false,decide_eq_false_iff_not,ite_true,ite_false,reduceCtorEq,false_and,exists_false,false_or,or_false,and_false,Nat.reduceLeDiff,zap,zax,Function.comp,tBM];refine⟨rfl,by omega,fun a H3 ha s3 e3=>k1 (.ref a) H3 s3 fun H5 h5=> ?_⟩;have al:a≠l:=fun z=>nl (z ▸ ha);rw[zjg rw_] at e3;exact⟨a,ws,rfl,al,hw,h5 a _ al e3⟩
 ·obtain⟨a,ws,rfl,al,hw,e⟩:=h;exact⟨a,ws,rfl,al,hw,h5 a _ al e⟩
 rw[List.length_map,List.length_map] at vl;have LA:zcY K H2 vs (rowsW p xs f dy cc):=⟨vl,fun i v ws ev ew=>by
  obtain⟨a,ws',rfl,_,hw,e⟩:=hv i v ev;rw[ew] at hw;cases hw;have rw_:=ro ws (List.mem_of_getElem? ew);exact⟨a,rfl,SqL.of e,by have:=rw_.2.1;omega,fun w hw=>by have:=(rw_.2.2 w hw).2.1;omega⟩⟩
 obtain⟨a0,u0,A0⟩:=LA.get (i:=0) rfl;obtain⟨a1,u1,A1⟩:=LA.get (i:=1) rfl;obtain⟨a2,u2,A2⟩:=LA.get (i:=2) rfl;have hS:SqL K H2 l vs:=SqL.of e2;refine⟨l,vs,p,xs,f,dy,cc,rfl,hS,LA,ok,hp,fun H3 s3=>⟨true,rfl,?_⟩⟩;rw[if_neg (by decide)];obtain⟨nk,nl,nv,_⟩:=zcj (show p≤400 by omega);obtain⟨ck,cl,cv,_⟩:=zcj (show cc.toNat≤400 by omega);refine ixL (s3.seq hS) (zaV (j:=0) u0) (ixL (A0.same s3).1 (zaV (j:=1) rfl) ⟨_,rfl,nk.1,nk.2.1,by omega,?_⟩);refine ixL (s3.seq hS) (zaV (j:=1) u1) (ixL (A1.same s3).1 (zaV (j:=1) rfl) ?_);obtain⟨y,m,d,va,hn⟩:=Cal.date_exists ok.2.1.1 (show f≤3652058 by have:=ok.2.1.2;omega);have ed:dtF f=zc8 y m d:=Dt.eq ⟨y,m,d,va,hn,rfl⟩;have dl:(zc8 y m d).length=10:=by simp [zc8,zcx]
 rw[ed];refine⟨_,rfl,zaz (by omega),fun y' m' d' dt' va'=> ?_,fun no=>absurd va (no y m d (zf7 va))⟩;obtain⟨rfl,rfl,rfl⟩:=zfd dt' (zf7 va);rw[hn];refine ixL (s3.seq hS) (zaV (j:=2) u2) (ixL (A2.same s3).1 (zaV (j:=2) rfl) ?_);refine ixL (s3.seq hS) (zaV (j:=2) u2) (ixL (A2.same s3).1 (zaV (j:=1) rfl) ⟨_,rfl,ck.1,ck.2.1,by omega,fun pc H4 _ s4 e4=> ?_⟩);rw[cv,Int.toNat_of_nonneg (by have:=ok.2.2.1;omega)] at e4;rw[nv];have s34:=s3.trans s4;refine⟨l,vs,rfl,s34.seq hS,fun pa H5 _ s5 e5=>⟨pa,rfl,⟨_,SqL.of e5⟩,fun lp hlp _=> ?_⟩⟩;rw[zf1 vs (by decide) (by omega)] at e5;have s35:=s34.trans s5;refine zg5 (fun i v H'=> ∃a x,v= .ref a∧a≠lp∧xs[i]? =some x∧H' a=some (.tup [.str (SL x.1), .int x.2.1, .int x.2.2])) (zcA (SqL.of e5)) hlp (Nat.lt_of_le_of_lt (show (vs.drop 3).length≤11 by rw[List.length_drop];omega) (by decide)) (fun i x H6 K1 hx s6 k1 nl=> ?_) (fun i v H6 H8 h h8=> ?_) (fun us H6 s6 ul hu e6=> ?_)
 ·have hi:=(List.getElem?_eq_some_iff.mp hx).1;rw[List.length_drop] at hi;have hr:=List.getElem?_eq_getElem (l:=xs) (by omega:i<_);rw[List.getElem?_drop] at hx;obtain⟨a,rfl,hA⟩:=LA.2 (3+i) x _ hx (zfe hr);simp only[za1,zb7,zaM,zbu,za6,za5,zbw,zaD,zaK,zaL,zaJ,zbl,zbt,za4,zaW,zax,zap,zay,zbH,List.replicate,Option.join_some,Option.join_none,zaQ,zb4,zbr,zaC,tSl,zb3,zb2,zb8,slT,zbW,Int.reduceLT,Int.reduceLE,Int.reduceToNat,Int.reduceNeg,Int.reduceAdd,Int.reduceSub,Int.reduceMul,forall_const,zbT,zbp,zbQ,zbU,zbv,zbq,zbL,zbd,zbh,zbV,zbR,tC,tOp,rI,rI0,tUn,rU,zbj,tB,zbX,tOr,zbS,zbn,zbY,zbo,tIf,zbk,zb1,zaX,za3,tCB,zaZ,rEq,rNe,zaE,zaF,zaG,zaH,zaI,za2,zb0,ipI,L2.start,List.map_cons,List.map_nil,List.length_cons,List.length_nil,List.cons_append,List.nil_append,List.append_nil,List.replicate_succ,List.replicate_zero,Nat.reduceAdd,Nat.reduceSub,List.getElem?_cons_zero,List.getElem?_cons_succ,List.set_cons_zero,List.set_cons_succ,Option.some.injEq,V.int.injEq,V.bl.injEq,V.ref.injEq,V.str.injEq,exists_eq_left',exists_eq_left,exists_eq',exists_and_left,List.cons.injEq,and_true,true_and,and_self,and_assoc,decide_eq_true_eq,if_true,if_false,Bool.true_eq_false,Bool.false_eq_true,Bool.not_eq_true',Bool.not_true,Bool.not_false,decide_eq_false_iff_not,ite_true,ite_false,reduceCtorEq,false_and,exists_false,false_or,or_false,and_false,Nat.reduceLeDiff,zap,zay,zax];refine⟨p,a,_,rfl,hA.same (s35.trans s6),ok.1.2.2.1 _ (List.mem_of_getElem? hr),by omega,by omega,fun r H7 s7 hr7 e7=>k1 (.ref r) H7 s7 fun H8 h8=> ?_⟩;have al:r≠lp:=fun z=>nl (z ▸ hr7);exact⟨r,_,rfl,al,hr,h8 r _ al e7⟩
 ·obtain⟨a,x,rfl,al,hw,e⟩:=h;exact⟨a,x,rfl,al,hw,h8 a _ al e⟩
 rw[List.length_drop] at ul;have ul':us.length=xs.length:=by omega
 intro pacc H7 _ s7 e7;have pat: ∀(i:Nat) v x,us[i]? =some v→xs[i]? =some x→zgG H7 v x:=fun i v x ev ex=>by
  obtain⟨a,x',rfl,_,hx,e⟩:=hu i v ev;rw[ex] at hx;cases hx;exact⟨a,rfl,s7 _ _ e⟩
 have ePc:=s7 _ _ (s6 _ _ (s5 _ _ e4));refine⟨pacc,xs.map plD,f, [.str (zcW dy), .int cc],rfl,zgq (SqT.of e7) ⟨zjU (SqL.of (s7 _ _ e6)) (zfL (by rw[List.length_map,List.length_map];omega) fun i d v ed ev=> ?_),zfy,zgq (SqT.of ePc) ⟨zh4,zfy,trivial⟩,trivial⟩,?_,?_,by rw[List.length_map];omega,fun _ H8 s8 r H9 _ s9 e9=> ?_,fun no=> ?_⟩
 ·rw[List.getElem?_map,List.getElem?_map,Option.map_map] at ed;obtain⟨x,hx,rfl⟩:=Option.map_eq_some_iff.mp ed;obtain⟨a,rfl,e⟩:=pat i v x ev hx;exact zgq (SqT.of e) ⟨zh4,zfy,zfy,trivial⟩
 ·intro ds hds;obtain⟨x,hx,rfl⟩:=List.mem_map.mp hds;exact zkJ (ok.1.2.2.1 x hx).len
 ·intro d hd;simp only[List.mem_cons,List.not_mem_nil,or_false] at hd;rcases hd with rfl|rfl
  ·exact .inr ⟨_,rfl,zaz (by unfold zcW;split<;>decide)⟩
  ·exact .inl ⟨_,rfl⟩
 ·have s79:=s8.trans s9;refine q r pacc lp H9 (((((((s1.trans s2).trans s35).trans s6).trans s7).trans s79))) (((s1.trans s2).trans s35).free hlp) e9 ⟨pc,us.zip xs,s79 _ _ e7,s79 _ _ ePc,?_,?_,fun z hz=> ?_⟩
  ·rw[s79 _ _ (s7 _ _ e6),List.map_fst_zip (by omega)]
  ·exact List.map_snd_zip (by omega)
  ·obtain⟨i,hi,rfl⟩:=List.getElem_of_mem hz;rw[List.length_zip] at hi;rw[List.getElem_zip];exact(pat i _ _ (List.getElem?_eq_getElem (by omega)) (List.getElem?_eq_getElem (by omega))).same s79
 ·exact absurd ⟨ok.1.ok,ok.2.1.1,ok.2.1.2,ziB ok.2.2.1 ok.2.2.2⟩ no
def zf8(cs:List Int)(k:Nat):Int:=cs.getD k 0
def ziC(c k:Int):Int:=
 let a:=(c % 2147483629*48271+69621*k+11) % 2147483587
 let b:=a*(a / 7+39373) % 2147483563
 let d:=b*(b / 5+16807+k) % 2147483399
 (a*2147483563+b)*2147483399+d
def zbi(cs:List Int)(s k:Nat):Int:=
 if zf8 cs s % 2=1 then ziC (zf8 cs (s+k)) k else zf8 cs (s+k) / (if k=0 then 2 else 1)
def zkj(K:Fg):Sp:=fun vs H Q _=> ∃(a:Addr) (cs:List Int) (k:Nat),vs= [.ref a, .int k]∧SqL K H a (cs.map V.int)∧Q (.int (zf8 cs k)) H
theorem sc_0v:FnScope ["_law_script","_law_k"] ["_law_script","_law_k"] (zai s_0v):=⟨rfl,rfl,rfl,by decide+kernel,rfl,by decide+kernel,by decide+kernel⟩
theorem ok_0v(T:Txt K mg t):FnOk P w K mg base (CXE P w) 1 t.a_0v t.d_0v ["_law_script","_law_k"] (zkj K):=by
 refine T.fn_0v.okX sc_0v (fun vs H Q E h=> ?_) (fun cdv A outer s H vs Q E L hr h=> ?_)
 ·obtain⟨a,cs,k,rfl,hS,q⟩:=h;rfl
 obtain⟨a,cs,k,rfl,hS,q⟩:=h;have nd:=sc_0v.nd;refine⟨_,(zaf (zaU (zas zdl (pv 1) (zan zaS (by rfl) T.no_len zbB (zaa (pv 0) zad)) (zar _)) (zah (zam (za9 zaR (pv 0) (pv 1) (fun _ _=>rfl)))) zaq) (zah (zam zae))),?_⟩;open_k0;unfold zf8 at q;refine⟨_, .inl hS,?_⟩;rw[List.length_map];refine za8 (fun h=>ixL hS (zcS (Int.natCast_nonneg _) h) ?_) (fun h=> ?_)
 ·rw[Int.toNat_natCast];exact q
 ·rw[List.getD_eq_getElem?_getD,List.getElem?_eq_none (by omega)] at q;exact q
def zkk:Sp:=fun vs H Q _=> ∃c k:Int,vs= [.int c, .int k]∧0≤k∧k≤1000∧Q (.int (ziC c k)) H
theorem sc_0w:FnScope ["_law_cell","_law_k","_law_one","_law_two","_law_three"] ["_law_cell","_law_k"] (zai s_0w):=⟨rfl,rfl,rfl,by decide+kernel,rfl,by decide+kernel,by decide+kernel⟩
theorem ok_0w(T:Txt K mg t):FnOk P w K mg base (CXE P w) 1 t.a_0w t.d_0w ["_law_cell","_law_k"] (zkk):=by
 refine T.fn_0w.okX sc_0w (fun vs H Q E h=> ?_) (fun cdv A outer s H vs Q E L hr h=> ?_)
 ·obtain⟨c,k,rfl,k0,k1,q⟩:=h;rfl
 obtain⟨c,k,rfl,k0,k1,q⟩:=h;have nd:=sc_0w.nd;refine⟨_,(zaf (zaw (i:=2) nd rfl (Or.inl rfl) (zal zcs (zal zbf (zal zbf (zal zdg (zal zcs (pv 0) zae) zae) (zal zdg zae (pv 1))) zae) zae)) (zaf (zaw (i:=3) nd rfl (Or.inl rfl) (zal zcs (zal zdg (pv 2) (zal zbf (zal zev (pv 2) zae) zae)) zae)) (zaf (zaw (i:=4) nd rfl (Or.inl rfl) (zal zcs (zal zdg (pv 3) (zal zbf (zal zbf (zal zev (pv 3) zae) zae) (pv 1))) zae)) (zah (zam (zal zbf (zal zdg (zal zbf (zal zdg (pv 2) zae) (pv 3)) zae) (pv 4))))))),?_⟩;open_k0;unfold ziC at q;dsimp only at q;have sm: ∀{i:Int}, -1000000000000000000≤i→i≤1000000000000000000→Sm i:=fun a b=>Sm.small a b;generalize h1:(c % 2147483629*48271+69621*k+11) % 2147483587=a at q ⊢;have b1:0≤a∧a<2147483587:=by rw[←h1];exact⟨Int.emod_nonneg _ (by decide),Int.emod_lt_of_pos _ (by decide)⟩
 generalize h2:a*(a / 7+39373) % 2147483563=b at q ⊢;have b2:0≤b∧b<2147483563:=by rw[←h2];exact⟨Int.emod_nonneg _ (by decide),Int.emod_lt_of_pos _ (by decide)⟩
 refine⟨.inr ⟨sm (by omega) (by omega),sm (by decide) (by decide)⟩, .inr ⟨sm (by decide) (by decide),sm (by omega) (by omega)⟩,sm (by decide) (by decide), .inr ⟨sm (by omega) (by omega),sm (by omega) (by omega)⟩,sm (by decide) (by decide), .inr ⟨sm (by omega) (by omega),sm (by omega) (by omega)⟩, .inr ⟨sm (by omega) (by omega),sm (by decide) (by decide)⟩, .inr ⟨Sm.pow10 (k:=30) (by decide) (by omega),sm (by decide) (by decide)⟩,q⟩
def zkl(K:Fg):Sp:=fun vs H Q _=> ∃(a:Addr) (cs:List Int) (s k:Nat),vs= [.ref a, .int s, .int k]∧SqL K H a (cs.map V.int)∧k≤1000∧New H (.lst [.int (zbi cs s k)]) Q
theorem sc_0x:FnScope ["_law_script","_law_start","_law_k","_law_cell"] ["_law_script","_law_start","_law_k"] (zai s_0x):=⟨rfl,rfl,rfl,by decide+kernel,rfl,by decide+kernel,by decide+kernel⟩
theorem ok_0x(T:Txt K mg t):FnOk P w K mg base (CXE P w) 2 t.a_0x t.d_0x ["_law_script","_law_start","_law_k"] (zkl K):=by
 refine T.fn_0x.okX sc_0x (fun vs H Q E h=> ?_) (fun cdv A outer s H vs Q E L hr h=> ?_)
 ·obtain⟨a,cs,s,k,rfl,hS,k1,q⟩:=h;rfl
 obtain⟨a,cs,s,k,rfl,hS,k1,q⟩:=h;have nd:=sc_0x.nd;refine⟨_,(zaf (zaw (i:=3) nd rfl (Or.inl rfl) (zag L.toLv (ok_0v T) (hr.mono (by decide)) (by rfl) T.mg_0v T.fn_0v.kp T.b_0v .nil (zaa (pv 0) (zaa (zal zbf (pv 1) (pv 2)) zad za0) zab))) (zaf (zaU (zas zca (zal zcs (zag L.toLv (ok_0v T) (hr.mono (by decide)) (by rfl) T.mg_0v T.fn_0v.kp T.b_0v .nil (zaa (pv 0) (zaa (pv 1) zad zab) zab)) zae) zae (zar _)) (zah (zam (zbE (zaa (zag L.toLv (ok_0w T) (hr.mono (by decide)) (by rfl) T.mg_0w T.fn_0w.kp T.b_0w .nil (zaa (pv 3) (zaa (pv 2) zad zab) zab)) zad)))) zaq) (zah (zam (zbE (zaa (zal zdc (pv 3) (za9 zaR (zbE (zaa zae (zaa zae zad zac) zac)) (zbb zhh (by rfl) T.no_int zcR (zaa (zbA zca (pv 2) zae (zar _)) zad)) (fun _ _=>rfl))) zad)))))),?_⟩;open_k0;unfold zbi at q;rw[show (s:Int)+k=((s+k:Nat):Int) by omega];refine⟨a,cs,s+k,rfl,hS,a,cs,s,rfl,hS,_,rfl,za8 (fun h=> ?_) (fun h=> ?_)⟩
 ·rw[if_pos h] at q;exact⟨_,_,rfl,by omega,by omega,q⟩
 ·rw[if_neg h] at q;intro p1 H1 _ s1 e1;by_cases z:k=0
  ·rw[if_pos z] at q;refine ixL (SqL.of e1) (v:= .int 2) (by rw[if_pos (by omega)];rfl) ⟨_,rfl,_,rfl,by decide,by decide,fun p2 H2 f2 s2 e2=>q p2 H2 (s1.free f2) (s1.trans s2) e2⟩
  ·rw[if_neg z] at q;refine ixL (SqL.of e1) (v:= .int 1) (by rw[if_neg (by omega)];rfl) ⟨_,rfl,_,rfl,by decide,by decide,fun p2 H2 f2 s2 e2=>q p2 H2 (s1.free f2) (s1.trans s2) e2⟩
def zjh:Sp:=fun vs H Q _=> ∃(d:Addr) (n m:Int),vs= [.ref d, .int m]∧H d=some (.lst [.int n])∧0<m∧m≤10 ^ 30∧Q (.int (n % m)) (upd H d (.lst [.int (n / m)]))
theorem sc_0y:FnScope ["_law_digits_here","_law_many","_law_found"] ["_law_digits_here","_law_many"] (zai s_0y):=⟨rfl,rfl,rfl,by decide+kernel,rfl,by decide+kernel,by decide+kernel⟩
theorem ok_0y(T:Txt K mg t):FnOk P w K mg base (CXE P w) 1 t.a_0y t.d_0y ["_law_digits_here","_law_many"] (zjh):=by
 refine T.fn_0y.okX sc_0y (fun vs H Q E h=> ?_) (fun cdv A outer s H vs Q E L hr h=> ?_)
 ·obtain⟨d,n,m,rfl,hd,m0,m1,q⟩:=h;rfl
 obtain⟨d,n,m,rfl,hd,m0,m1,q⟩:=h;have nd:=sc_0y.nd;refine⟨_,(zaf (zaw (i:=2) nd rfl (Or.inl rfl) (zal zcs (za9 zaR (pv 0) zae (fun _ _=>rfl)) (pv 1))) (zaf (zcr (zal zev (za9 zaR (pv 0) zae (fun _ _=>rfl)) (pv 1)) (zjD (pv 0) zae zhW)) (zah (zam (pv 2))))),?_⟩;simp only[za1,zb7,zaM,zbu,za6,za5,zbw,zaD,zaK,zaL,zaJ,zbl,zbt,za4,zaW,zax,zap,zay,zbH,List.replicate,Option.join_some,Option.join_none,zaQ,zb4,zbr,zaC,tSl,zb3,zb2,zb8,slT,zbW,Int.reduceLT,Int.reduceLE,Int.reduceToNat,Int.reduceNeg,Int.reduceAdd,Int.reduceSub,Int.reduceMul,forall_const,zbT,zbp,zbQ,zbU,zbv,zbq,zbL,zbd,zbh,zbV,zbR,tC,tOp,rI,rI0,tUn,rU,zbj,tB,zbX,tOr,zbS,zbn,zbY,zbo,tIf,zbk,zb1,zaX,za3,tCB,zaZ,rEq,rNe,zaE,zaF,zaG,zaH,zaI,za2,zb0,ipI,L2.start,List.map_cons,List.map_nil,List.length_cons,List.length_nil,List.cons_append,List.nil_append,List.append_nil,List.replicate_succ,List.replicate_zero,Nat.reduceAdd,Nat.reduceSub,List.getElem?_cons_zero,List.getElem?_cons_succ,List.set_cons_zero,List.set_cons_succ,Option.some.injEq,V.int.injEq,V.bl.injEq,V.ref.injEq,V.str.injEq,exists_eq_left',exists_eq_left,exists_eq',exists_and_left,List.cons.injEq,and_true,true_and,and_self,and_assoc,decide_eq_true_eq,if_true,if_false,Bool.true_eq_false,Bool.false_eq_true,Bool.not_eq_true',Bool.not_true,Bool.not_false,decide_eq_false_iff_not,ite_true,ite_false,reduceCtorEq,false_and,exists_false,false_or,or_false,and_false,Nat.reduceLeDiff,zkw,zjl];refine ixL (SqL.of hd) (v:= .int n) rfl ⟨_,rfl,m0,ixL (SqL.of hd) (v:= .int n) rfl ⟨_,rfl,m0,Sm.pow10 (k:=30) (by decide) (by omega),?_⟩⟩;exact⟨_,hd,0,rfl,q⟩
def But(d:Addr)(H H':Hp):Prop:= ∀b o,b≠d→H b=some o→H' b=some o
theorem But.of{d:Addr}{H H':Hp}(s:zau H H'):But d H H':=fun b o _ e=>s b o e
theorem But.trans{d:Addr}{H H1 H2:Hp}(a:But d H H1)(b:But d H1 H2):But d H H2:=fun x o n e=>b x o n (a x o n e)
theorem But.upd{d:Addr}{H:Hp}{o:HO}:But d H (upd H d o):=fun b u n e=>by rw[zaO n];exact e
def wsL:List (List Nat):= [[102,114,111,109], [112,101,114], [112,108,97,110], [115,101,97,116,115], [104,111,108,100], [103,111], [115,116,111,112], [108,97,115,116], [117,110,100,111], [103,114,97,110,116], [98,97,99,107], [110,111,110,101], [115,116,97,116,101], [115,112,97,110], [108,105,110,101,115], [115,117,109,115], [109,111,118,101,100], [102,105,114,115,116], [101,118,101,114,121], [112,108,97,99,101,115], [101,110,116,114,121]]
def zbJ:Nat→Int→List Nat×Int
 |0,n=>([],n)
 |k+1,n=>((zbJ k n).1++ [97+((zbJ k n).2 % 26).toNat],(zbJ k n).2 / 26)
def zcp(ns:List (List Nat))(w:List Nat):Nat→List Nat
 |0=>w
 |i+1=>if zcp ns w i∈ns then (zcp ns w i).take 7++ [97+i] else zcp ns w i
def zdu(n:Int):List Nat×Int:=
 if n / 21 % 8=3 then (wsL.getD (n % 21).toNat [],n / 21 / 8) else zbJ (1+(n / 21 / 8 % 8).toNat) (n / 21 / 8 / 8)
def zeO(n:Int)(ns:List (List Nat)):List Nat×Int:=(zcp ns (zdu n).1 26,(zdu n).2)
theorem at_strs{ws:List (List Nat)}{i:Int}(h0:0≤i)(h1:i<ws.length):atI (ws.map fun w=>V.str (SL w)) i=some (.str (SL (ws.getD i.toNat []))):=by
 obtain⟨k,rfl⟩:=Int.eq_ofNat_of_zero_le h0;refine zaV ?_;rw[List.getElem?_map,List.getElem?_eq_getElem (by omega),Int.toNat_natCast,List.getD_eq_getElem?_getD,List.getElem?_eq_getElem (by omega)];rfl
abbrev azN:List Nat:= [97,98,99,100,101,102,103,104,105,106,107,108,109,110,111,112,113,114,115,116,117,118,119,120,121,122]
theorem zkR: ∀(i:Nat) c,azN[i]? =some c→c=97+i:=by
 have: ∀i<26,azN[i]? =some (97+i):=by decide
 intro i c e;have hi:i<26:=(List.getElem?_eq_some_iff.mp e).1;rw[this i hi] at e;exact(Option.some.inj e).symm
theorem zda: ∀(k:Nat) (n:Int),(zbJ k n).1.length=k
 |0,_=>rfl
 |k+1,n=>by rw[zbJ,List.length_append,zda k n];rfl
theorem at_az{i:Int}(h0:0≤i)(h1:i<26):atI [97,98,99,100,101,102,103,104,105,106,107,108,109,110,111,112,113,114,115,116,117,118,119,120,121,122] i=some (97+i.toNat):=by
 obtain⟨k,rfl⟩:=Int.eq_ofNat_of_zero_le h0
 have: ∀k<26,([97,98,99,100,101,102,103,104,105,106,107,108,109,110,111,112,113,114,115,116,117,118,119,120,121,122]:List Nat)[k]? =some (97+k):=by decide
 rw[Int.toNat_natCast];exact zaV (this k (by omega))
theorem zf9(ns:List (List Nat)){w:List Nat}(h:w.length≤8): ∀i,(zcp ns w i).length≤8
 |0=>h
 |i+1=>by
  rw[zcp];split
  ·rw[List.length_append,List.length_take];simp only[List.length_cons,List.length_nil];omega
  ·exact zf9 ns h i
theorem zfM(n:Int):1≤(zdu n).1.length∧(zdu n).1.length≤8:=by
 unfold zdu;split
 ·have: ∀k<21,1≤(wsL.getD k []).length∧(wsL.getD k []).length≤8:=by decide
  exact this _ (by omega)
 ·rw[zda];omega
theorem zkm(cs:List Nat):zdp cs none (some 7)=cs.take 7:=by
 by_cases h:(7:Int)≤cs.length
 ·exact ze9 cs (by decide) h
 ·have e:zdp cs none (some 7)=cs:=by
   unfold zdp;rw[HT.sIx_none,show (7:Int)=((7:Nat):Int) from rfl,HT.sIx_nat,List.drop_zero,Nat.sub_zero,Nat.min_eq_right (by omega),List.take_length]
  rw[e,List.take_of_length_le (by omega)]
def zkn:Sp:=fun vs H Q _=> ∃(d l:Addr) (n:Int) (ns:List (List Nat)),vs= [.ref d, .ref l]∧H d=some (.lst [.int n])∧H l=some (.lst (ns.map fun w=>V.str (SL w)))∧l≠d∧ ∀H',But d H H'→H' d=some (.lst [.int (zeO n ns).2])→Q (.str (SL (zeO n ns).1)) H'
theorem sc_0z:FnScope ["_law_digits_here","_law_names","_law_letters","_law_some","_law_name_here","_law_j","_law_letter"] ["_law_digits_here","_law_names"] (zai s_0z):=⟨rfl,rfl,rfl,by decide+kernel,rfl,by decide+kernel,by decide+kernel⟩
theorem ok_0z(T:Txt K mg t):FnOk P w K mg base (CXE P w) 2 t.a_0z t.d_0z ["_law_digits_here","_law_names"] (zkn):=by
 refine T.fn_0z.okX sc_0z (fun vs H Q E h=> ?_) (fun cdv A outer s H vs Q E L hr h=> ?_)
 ·obtain⟨d,l,n,ns,rfl,hd,hl,ld,q⟩:=h;rfl
 obtain⟨d,l,n,ns,rfl,hd,hl,ld,q⟩:=h;have nd:=sc_0z.nd;refine⟨_,(zaf (zaw (i:=2) nd rfl (Or.inl rfl) (zak st_35)) (zaf (zaw (i:=3) nd rfl (Or.inl rfl) (zbE (zaa (zak st_36) (zaa (zak st_37) (zaa (zak st_38) (zaa (zak st_39) (zaa (zak st_40) (zaa (zak st_41) (zaa (zak st_42) (zaa (zak st_43) (zaa (zak st_44) (zaa (zak st_45) (zaa (zak st_46) (zaa (zak st_47) zad zac) zac) zac) zac) zac) zac) zac) zac) zac) zac) zac) zac))) (zaf (zaw (i:=3) nd rfl (Or.inl rfl) (zal zgW (pv 3) (zbE (zaa (zak st_48) (zaa (zak st_49) (zaa (zak st_50) (zaa (zak st_51) (zaa (zak st_52) (zaa (zak st_53) (zaa (zak st_54) (zaa (zak st_55) (zaa (zak st_56) zad zac) zac) zac) zac) zac) zac) zac) zac) zac)))) (zaf (zaw (i:=4) nd rfl (Or.inl rfl) (za9 zaR (pv 3) (zag L.toLv (ok_0y T) (hr.mono (by decide)) (by rfl) T.mg_0y T.fn_0y.kp T.b_0y .nil (zaa (pv 0) (zaa (zan zaS (by rfl) T.no_len zbB (zaa (pv 3) zad)) zad zbN) zab)) (fun _ _=>rfl))) (zaf (zft (zaU (zas zcZ (zag L.toLv (ok_0y T) (hr.mono (by decide)) (by rfl) T.mg_0y T.fn_0y.kp T.b_0y .nil (zaa (pv 0) (zaa zae zad zac) zab)) zae (zar _)) (zaf (zaw (i:=4) nd rfl (Or.inl rfl) (zak st_14)) (zah (zcK (by passes_own) rfl (zeV (by rfl) T.no_range (zaa (zal zbf zae (zag L.toLv (ok_0y T) (hr.mono (by decide)) (by rfl) T.mg_0y T.fn_0y.kp T.b_0y .nil (zaa (pv 0) (zaa zae zad zac) zab))) zad)) (zao (i:=5) nd rfl (Or.inl rfl)) (zah (zaw (i:=4) nd rfl (Or.inl rfl) (zal zaT (pv 4) (za9 zjR (pv 2) (zag L.toLv (ok_0y T) (hr.mono (by decide)) (by rfl) T.mg_0y T.fn_0y.kp T.b_0y .nil (zaa (pv 0) (zaa zae zad zac) zab)) (fun _ _=>rfl)))))))) zaq)) (zaf (zcK (by passes_own) rfl (zfu (pv 2)) (zao (i:=6) nd rfl (Or.inl rfl)) (zah (zaU (zas ze2 (pv 4) (pv 1) rfl) (zah (zaw (i:=4) nd rfl (Or.inl rfl) (zal zaT (zcm zdQ (pv 4) zcQ (zcw zae)) (pv 6)))) zaq))) (zah (zam (pv 4))))))))),?_⟩;open_k0;intro pa H1 fa s1 e1 pb H2 fb s2 e2;refine⟨pa,pb,_,_,rfl,rfl,s2 _ _ e1,e2,zaz (by decide),fun pc H3 fc s3 e3=>⟨pc,rfl,_, .inl (SqL.of e3),?_⟩⟩;have s13:=(s1.trans s2).trans s3;have h3d:=s13 _ _ hd;have cd:pc≠d:=fun z=>by rw[z,s2 _ _ (s1 _ _ hd)] at fc;cases fc
 refine⟨d,n,21,rfl,h3d,by decide,by decide,?_⟩;have e4:upd H3 d (.lst [.int (n / 21)]) pc=some (.lst (wsL.map fun w=>V.str (SL w))):=by rw[zaO cd];exact e3
 refine ixL (SqL.of e4) (at_strs (Int.emod_nonneg _ (by decide)) (Int.emod_lt_of_pos _ (by decide))) ?_;obtain⟨R,hR⟩: ∃R:St→Hp→Prop,R=fun σ' H'=> ∃x5,But d H H'∧H' d=some (.lst [.int (zdu n).2])∧σ'= [some (.ref d),some (.ref l),some (.str (SL azN)),some (.ref pc),some (.str (SL (zdu n).1)),x5,none]:=⟨_,rfl⟩
 refine⟨R,?_,fun σ2 H5 h5=> ?_⟩
 ·open_k0;refine⟨d,n / 21,8,rfl,zat,by decide,by decide,rfl,za8 (fun h=> ?_) (fun h=> ?_)⟩
  ·have h': ¬n / 21 % 8=3:=fun z=>h (by rw[z]);have ep:zdu n=zbJ (1+(n / 21 / 8 % 8).toNat) (n / 21 / 8 / 8):=by unfold zdu;rw[if_neg h']
   refine zex fun R0 hR0=> ?_;simp only[za1,zb7,zaM,zbu,za6,za5,zbw,zaD,zaK,zaL,zaJ,zbl,zbt,za4,zaW,zax,zap,zay,zbH,List.replicate,Option.join_some,Option.join_none,zaQ,zb4,zbr,zaC,tSl,zb3,zb2,zb8,slT,zbW,Int.reduceLT,Int.reduceLE,Int.reduceToNat,Int.reduceNeg,Int.reduceAdd,Int.reduceSub,Int.reduceMul,forall_const,zbT,zbp,zbQ,zbU,zbv,zbq,zbL,zbd,zbh,zbV,zbR,tC,tOp,rI,rI0,tUn,rU,zbj,tB,zbX,tOr,zbS,zbn,zbY,zbo,tIf,zbk,zb1,zaX,za3,tCB,zaZ,rEq,rNe,zaE,zaF,zaG,zaH,zaI,za2,zb0,ipI,L2.start,List.map_cons,List.map_nil,List.length_cons,List.length_nil,List.cons_append,List.nil_append,List.append_nil,List.replicate_succ,List.replicate_zero,Nat.reduceAdd,Nat.reduceSub,List.getElem?_cons_zero,List.getElem?_cons_succ,List.set_cons_zero,List.set_cons_succ,Option.some.injEq,V.int.injEq,V.bl.injEq,V.ref.injEq,V.str.injEq,exists_eq_left',exists_eq_left,exists_eq',exists_and_left,List.cons.injEq,and_true,true_and,and_self,and_assoc,decide_eq_true_eq,if_true,if_false,Bool.true_eq_false,Bool.false_eq_true,Bool.not_eq_true',Bool.not_true,Bool.not_false,decide_eq_false_iff_not,ite_true,ite_false,reduceCtorEq,false_and,exists_false,false_or,or_false,and_false,zeU,Nat.reduceLeDiff];have m8:0≤n / 21 / 8 % 8∧n / 21 / 8 % 8<8:=by omega
   have k8:1+(n / 21 / 8 % 8).toNat≤8:=by omega
   refine⟨d,n / 21 / 8,8,rfl,zat,by decide,by decide,_,rfl,by omega,by omega,hR0 _ _ ?_⟩;rw[show (1+n / 21 / 8 % 8).toNat=1+(n / 21 / 8 % 8).toNat by omega];generalize 1+(n / 21 / 8 % 8).toNat=k at ep k8 ⊢;generalize n / 21 / 8 / 8=m at ep ⊢;refine zdO (fun i σ1 H6=> ∃x5,But d H H6∧H6 d=some (.lst [.int (zbJ i m).2])∧σ1= [some (.ref d),some (.ref l),some (.str (SL azN)),some (.ref pc),some (.str (SL (zbJ i m).1)),x5,none]) ⟨_,(((But.of s13).trans But.upd).trans But.upd).trans But.upd,zat,rfl⟩ (fun i σ1 H6 hi h=> ?_) (fun σ1 H6 h=> ?_)
   ·obtain⟨x5,b6,e6,rfl⟩:=h;open_k0;refine⟨d,_,26,rfl,e6,by decide,by decide,_,rfl,_,at_az (Int.emod_nonneg _ (by decide)) (Int.emod_lt_of_pos _ (by decide)),?_⟩;exact⟨zaz (by rw[zda];omega),b6.trans But.upd,zat,rfl⟩
   ·obtain⟨x5,b6,e6,rfl⟩:=h;show R _ _;rw[hR,ep];exact⟨_,b6,e6,rfl⟩
  ·have h':n / 21 % 8=3:=Classical.byContradiction fun z=>h fun e=>z (V.int.inj e);have ep:zdu n=(wsL.getD (n % 21).toNat [],n / 21 / 8):=by unfold zdu;rw[if_pos h']
   rw[hR,ep];exact⟨_,((But.of s13).trans But.upd).trans But.upd,zat,rfl⟩
 rw[hR] at h5;obtain⟨x5,b5,e5,rfl⟩:=h5;clear hR;open_k0;have pl:=zfM n;refine⟨_,rfl,_,rfl,?_⟩;refine zed (cs:=azN) (fun i σ1 H6=>H6=H5∧ ∃x6,σ1= [some (.ref d),some (.ref l),some (.str (SL azN)),some (.ref pc),some (.str (SL (zcp ns (zdu n).1 i))),x5,x6]) ⟨rfl,_,rfl⟩ (fun i c σ1 H6 hc h=> ?_) (fun σ1 H6 h=> ?_)
 ·obtain⟨rfl,x6,rfl⟩:=h;obtain rfl:=zkR i c hc;have fl:=zf9 ns pl.2 i;open_k0;refine⟨l,_,rfl, .inl (SqL.of (b5 _ _ ld hl)),rfl,zff _,?_⟩;rw[if_neg (by decide),zeE];refine⟨_,rfl,?_⟩;rw[zkm,zcp];by_cases z:zcp ns (zdu n).1 i∈ns
  ·rw[decide_eq_true z,if_pos rfl,if_pos z];exact⟨zaz (by omega),zaz (by rw[List.length_take];omega),rfl,rfl⟩
  ·rw[decide_eq_false z,if_neg (by decide),if_neg z];exact⟨rfl,rfl⟩
 ·obtain⟨rfl,x6,rfl⟩:=h;open_k0;exact q _ b5 e5
def zdW:List Int:= [10 ^ 30,1000,100000,7]
def zd8(n:Int)(ns:List (List Nat)):Pl×Int:=
 let n1:=(zeO n ns).2
 let m:=zdW.getD (n1 % 4).toNat 0
 let n2:=n1 / 4
 let n3:=n2 / m
 let c:=n3 / 4 % 401
 (((zeO n ns).1,n2 % m,([0,0,c,28+c % 4]:List Int).getD (n3 % 4).toNat 0),n3 / 4 / 401)
def zko:Sp:=fun vs H Q _=> ∃(d l:Addr) (n:Int) (ns:List (List Nat)),vs= [.ref d, .ref l]∧H d=some (.lst [.int n])∧H l=some (.lst (ns.map fun w=>V.str (SL w)))∧l≠d∧ ∀r H',But d H H'→H r=none→H' r=some (.tup [.str (SL (zd8 n ns).1.1), .int (zd8 n ns).1.2.1, .int (zd8 n ns).1.2.2])→Q (.ref r) H'
theorem But.free{d r:Addr}{H H':Hp}{o:HO}(b:But d H H')(e:H' d=some o)(f:H' r=none):H r=none:=by
 by_cases z:r=d
 ·rw[z,e] at f;cases f
 ·cases h:H r with
  |none=>rfl
  |some u=>rw[b r u z h] at f;cases f
theorem zga{i:Int}(h0:0≤i)(h1:i<4):1≤zdW.getD i.toNat 0∧zdW.getD i.toNat 0≤10 ^ 30:=zcy (by decide) h0 h1
theorem sc_10:FnScope ["_law_digits_here","_law_names","_law_name_here","_law_price","_law_way","_law_count"] ["_law_digits_here","_law_names"] (zai s_10):=⟨rfl,rfl,rfl,by decide+kernel,rfl,by decide+kernel,by decide+kernel⟩
theorem ok_10(T:Txt K mg t):FnOk P w K mg base (CXE P w) 3 t.a_10 t.d_10 ["_law_digits_here","_law_names"] (zko):=by
 refine T.fn_10.okX sc_10 (fun vs H Q E h=> ?_) (fun cdv A outer s H vs Q E L hr h=> ?_)
 ·obtain⟨d,l,n,ns,rfl,hd,hl,ld,q⟩:=h;rfl
 obtain⟨d,l,n,ns,rfl,hd,hl,ld,q⟩:=h;have nd:=sc_10.nd;refine⟨_,(zaf (zaw (i:=2) nd rfl (Or.inl rfl) (zag L.toLv (ok_0z T) (hr.mono (by decide)) (by rfl) T.mg_0z T.fn_0z.kp T.b_0z .nil (zaa (pv 0) (zaa (pv 1) zad zab) zab))) (zaf (zaw (i:=3) nd rfl (Or.inl rfl) (zag L.toLv (ok_0y T) (hr.mono (by decide)) (by rfl) T.mg_0y T.fn_0y.kp T.b_0y .nil (zaa (pv 0) (zaa (za9 zaR (zbE (zaa (zal zhR zae zae) (zaa zae (zaa zae (zaa zae zad zac) zac) zac) za0)) (zag L.toLv (ok_0y T) (hr.mono (by decide)) (by rfl) T.mg_0y T.fn_0y.kp T.b_0y .nil (zaa (pv 0) (zaa zae zad zac) zab)) (fun _ _=>rfl)) zad za7) zab))) (zaf (zaw (i:=4) nd rfl (Or.inl rfl) (zag L.toLv (ok_0y T) (hr.mono (by decide)) (by rfl) T.mg_0y T.fn_0y.kp T.b_0y .nil (zaa (pv 0) (zaa zae zad zac) zab))) (zaf (zaw (i:=5) nd rfl (Or.inl rfl) (zag L.toLv (ok_0y T) (hr.mono (by decide)) (by rfl) T.mg_0y T.fn_0y.kp T.b_0y .nil (zaa (pv 0) (zaa zae zad zac) zab))) (zah (zam (zcc (zaa (pv 2) (zaa (pv 3) (zaa (za9 zaR (zbE (zaa zae (zaa zae (zaa (pv 5) (zaa (zal zbf zae (zal zcs (pv 5) zae)) zad za0) zab) zac) zac)) (pv 4) (fun _ _=>rfl)) zad za7) zab) zab)))))))),?_⟩;open_k0;unfold zd8 at q;refine⟨d,l,n,ns,rfl,hd,hl,ld,fun H1 b1 e1=>⟨(by unfold zkA;decide),fun pa H2 fa s2 e2=>⟨d,_,4,rfl,s2 _ _ e1,by decide,by decide,?_⟩⟩⟩;generalize (zeO n ns).1=nm at q ⊢;generalize (zeO n ns).2=n1 at e1 q ⊢;have ad:pa≠d:=fun z=>by rw[z,e1] at fa;cases fa
 have ea:upd H2 d (.lst [.int (n1 / 4)]) pa=some (.lst (zdW.map V.int)):=by rw[zaO ad];exact e2
 have m4:0≤n1 % 4∧n1 % 4<4:=by omega
 have mb:=zga m4.1 m4.2;refine ixL (SqL.of ea) (zcS m4.1 m4.2) ?_;dsimp only at q;generalize zdW.getD (n1 % 4).toNat 0=m at mb q ⊢;refine⟨d,_,m,rfl,zat,by omega,mb.2,d,_,4,rfl,zat,by decide,by decide,d,_,401,rfl,zat,by decide,by decide,_,rfl,fun pb H4 fb s4 e4=> ?_⟩;have b4:But d H H4:=((((((b1.trans (But.of s2)).trans But.upd).trans But.upd).trans But.upd).trans But.upd).trans (But.of s4))
 have e4d:=s4 _ _ (zat (H:=upd (upd (upd H2 d (.lst [.int (n1 / 4)])) d (.lst [.int (n1 / 4 / m)])) d (.lst [.int (n1 / 4 / m / 4)])) (a:=d) (o:= .lst [.int (n1 / 4 / m / 4 / 401)]));generalize n1 / 4 / m=n3 at*;refine ixL (xs:=([0,0,n3 / 4 % 401,28+n3 / 4 % 401 % 4]:List Int).map V.int) (SqL.of e4) (zcS (by omega) (by show n3 % 4<4;omega)) fun r H5 fr s5 e5=>q r H5 (b4.trans (But.of s5)) (b4.free e4d fr) e5
def zdb(n:Int):Int:=
 if n % 4=0 then n / 4 % 3500001
 else if n % 4=1 then ([0,3500000,30,59,1,3499999]:List Int).getD (n / 4 % 6).toNat 0
 else Cal.num (1+n / 4 % 9580) (1+n / 4 / 9580 % 12) 28+n / 4 / 9580 / 12 % 4
def zji:Sp:=fun vs H Q _=> ∃(d:Addr) (n:Int),vs= [.ref d]∧H d=some (.lst [.int n])∧ ∀H',But d H H'→Q (.int (zdb n)) H'
theorem zkS{y m d:Int}(h:Cal.Valid y m d)(hy:y≤9580):Cal.num y m d≤3499990:=by
 have h1:=(Cal.in_year h).2;have h2:=Cal.lp_01 y;have h3:=h.1;unfold Cal.num Cal.ahead;omega
theorem zdv(n:Int):Cal.Valid (1+n / 4 % 9580) (1+n / 4 / 9580 % 12) 28:=⟨by omega,by omega,by omega,by omega,by decide,(Cal.dim_bounds _ _).1⟩
theorem ziD(n:Int):0≤zdb n∧zdb n≤3500000:=by
 unfold zdb;split
 ·omega
 split
 ·exact zcy (by decide) (by omega) (by show n / 4 % 6<6;omega)
 ·have h1:=zkS (zdv n) (by omega);have h2:=(Cal.num_range (zdv n)).1;generalize Cal.num _ _ _=x at*;omega
theorem sc_11:FnScope ["_law_digits_here","_law_way","_law_year"] ["_law_digits_here"] (zai s_11):=⟨rfl,rfl,rfl,by decide+kernel,rfl,by decide+kernel,by decide+kernel⟩
theorem ok_11(T:Txt K mg t):FnOk P w K mg base (CXE P w) 4 t.a_11 t.d_11 ["_law_digits_here"] (zji):=by
 refine T.fn_11.okX sc_11 (fun vs H Q E h=> ?_) (fun cdv A outer s H vs Q E L hr h=> ?_)
 ·obtain⟨d,n,rfl,hd,q⟩:=h;rfl
 obtain⟨d,n,rfl,hd,q⟩:=h;have nd:=sc_11.nd;refine⟨_,(zaf (zaw (i:=1) nd rfl (Or.inl rfl) (zag L.toLv (ok_0y T) (hr.mono (by decide)) (by rfl) T.mg_0y T.fn_0y.kp T.b_0y .nil (zaa (pv 0) (zaa zae zad zac) zab))) (zaf (zaU (zas zca (pv 1) zae (zar _)) (zah (zam (zag L.toLv (ok_0y T) (hr.mono (by decide)) (by rfl) T.mg_0y T.fn_0y.kp T.b_0y .nil (zaa (pv 0) (zaa zae zad zac) zab)))) zaq) (zaf (zaU (zas zca (pv 1) zae (zar _)) (zah (zam (za9 zaR (zbE (zaa zae (zaa zae (zaa zae (zaa zae (zaa zae (zaa zae zad zac) zac) zac) zac) zac) zac)) (zag L.toLv (ok_0y T) (hr.mono (by decide)) (by rfl) T.mg_0y T.fn_0y.kp T.b_0y .nil (zaa (pv 0) (zaa zae zad zac) zab)) (fun _ _=>rfl)))) zaq) (zaf (zaw (i:=2) nd rfl (Or.inl rfl) (zal zbf zae (zag L.toLv (ok_0y T) (hr.mono (by decide)) (by rfl) T.mg_0y T.fn_0y.kp T.b_0y .nil (zaa (pv 0) (zaa zae zad zac) zab)))) (zah (zam (zal zbf (zag L.toLv (ok_0b T) (hr.mono (by decide)) (by rfl) T.mg_0b T.fn_0b.kp T.b_0b .nil (zaa (pv 2) (zaa (zal zbf zae (zag L.toLv (ok_0y T) (hr.mono (by decide)) (by rfl) T.mg_0y T.fn_0y.kp T.b_0y .nil (zaa (pv 0) (zaa zae zad zac) zab))) (zaa zae zad zac) za0) zab)) (zag L.toLv (ok_0y T) (hr.mono (by decide)) (by rfl) T.mg_0y T.fn_0y.kp T.b_0y .nil (zaa (pv 0) (zaa zae zad zac) zab))))))))),?_⟩;open_k0;unfold zdb at q;refine⟨d,n,4,rfl,hd,by decide,by decide,rfl,za8 (fun h=>⟨d,_,3500001,rfl,zat,by decide,by decide,?_⟩) (fun h=>⟨rfl,za8 (fun h1 pa H2 fa s2 e2=>⟨d,_,6,rfl,s2 _ _ zat,by decide,by decide,?_⟩) (fun h1=>⟨d,_,9580,rfl,zat,by decide,by decide,_,rfl,d,_,12,rfl,zat,by decide,by decide,_,rfl,_,_,_,rfl,fun _=>⟨d,_,4,rfl,zat,by decide,by decide,_,rfl,_,rfl,?_⟩,fun no=>absurd (zdv n) no⟩)⟩)⟩
 ·rw[if_pos (V.int.inj h)] at q;exact q _ (But.upd.trans But.upd)
 ·rw[if_neg (fun z=>h (by rw[z])),if_pos (V.int.inj h1)] at q;have ad:pa≠d:=fun z=>by rw[z,zat] at fa;cases fa
  exact ixL (xs:=([0,3500000,30,59,1,3499999]:List Int).map V.int) (SqL.of (by rw[zaO ad];exact e2)) (zcS (by omega) (by show n / 4 % 6<6;omega)) (q _ ((But.upd.trans (But.of s2)).trans But.upd))
 ·rw[if_neg (fun z=>h (by rw[z])),if_neg (fun z=>h1 (by rw[z]))] at q;exact q _ (((But.upd.trans But.upd).trans But.upd).trans But.upd)
def zce(cs:List Int)(s:Nat):Nat→List Pl
 |0=> []
 |i+1=>zce cs s i++ [(zd8 (zbi cs s (3+i)) ((zce cs s i).map (·.1))).1]
def zdk(cs:List Int)(s:Nat):Int:=zbi cs s 0 % 7
def zd9(cs:List Int)(s:Nat):Int:=1+zbi cs s 0 / 7 / 2 % ([4,8]:List Int).getD (zbi cs s 0 / 7 % 2).toNat 0
def zkp(cs:List Int)(s:Nat):Int:=zdb (zbi cs s 1)
def dyF(cs:List Int)(s:Nat):Bool:=decide (¬1<zbi cs s 2 % 4)
def ccF(cs:List Int)(s:Nat):Int:=
 let n:=zbi cs s 2
 let m:=([400,40]:List Int).getD (n % 4 % 2).toNat 0
 if 1<n % 4 then 1+n / 4 / m % ([12,3]:List Int).getD (n % 4 % 2).toNat 0 else 1+n / 4 % m
def zkT(K:Fg):Sp:=fun vs H Q _=> ∃(a:Addr) (cs:List Int) (s:Nat),vs= [.ref a, .int s]∧SqL K H a (cs.map V.int)∧ ∀r ac l H',zau H H'→H' r=some (.tup [.int (zdk cs s), .ref ac])→zeL H' ac l (zce cs s (zd9 cs s).toNat) (zkp cs s) (dyF cs s) (ccF cs s)→Q (.ref r) H'
theorem zau.but{d:Addr}{H H1 H2:Hp}(s:zau H H1)(f:H d=none)(b:But d H1 H2):zau H H2:=fun x o e=>b x o (fun z=>by rw[z,f] at e;cases e) (s x o e)
theorem zcP(cs:List Int)(s:Nat): ∀i,(zce cs s i).length=i
 |0=>rfl
 |i+1=>by rw[zce,List.length_append,zcP cs s i];rfl
theorem zha(cs:List Int)(s:Nat):1≤zd9 cs s∧zd9 cs s≤8:=by
 unfold zd9;have h:4≤([4,8]:List Int).getD (zbi cs s 0 / 7 % 2).toNat 0∧([4,8]:List Int).getD (zbi cs s 0 / 7 % 2).toNat 0≤8:=zcy (by decide) (by omega) (by show _<2;omega);generalize ([4,8]:List Int).getD (zbi cs s 0 / 7 % 2).toNat 0=m at h;have h1:=Int.emod_nonneg (zbi cs s 0 / 7 / 2) (show m≠0 by omega);have h2:=Int.emod_lt_of_pos (zbi cs s 0 / 7 / 2) (show 0<m by omega);omega
theorem sc_12:FnScope ["_law_script","_law_start","_law_head","_law_places","_law_many","_law_first_here","_law_digits_here","_law_way","_law_cycle","_law_plans","_law_k"] ["_law_script","_law_start"] (zai s_12):=⟨rfl,rfl,rfl,by decide+kernel,rfl,by decide+kernel,by decide+kernel⟩
theorem ok_12(T:Txt K mg t):FnOk P w K mg base (CXE P w) 5 t.a_12 t.d_12 ["_law_script","_law_start"] (zkT K):=by
 refine T.fn_12.okX sc_12 (fun vs H Q E h=> ?_) (fun cdv A outer s H vs Q E L hr h=> ?_)
 ·obtain⟨a,cs,s,rfl,hS,q⟩:=h;rfl
 obtain⟨a,cs,s,rfl,hS,q⟩:=h;have nd:=sc_12.nd;refine⟨_,(zaf (zaw (i:=2) nd rfl (Or.inl rfl) (zag L.toLv (ok_0x T) (hr.mono (by decide)) (by rfl) T.mg_0x T.fn_0x.kp T.b_0x .nil (zaa (pv 0) (zaa (pv 1) (zaa zae zad zac) zab) zab))) (zaf (zaw (i:=3) nd rfl (Or.inl rfl) (zag L.toLv (ok_0y T) (hr.mono (by decide)) (by rfl) T.mg_0y T.fn_0y.kp T.b_0y .nil (zaa (pv 2) (zaa zae zad zac) zab))) (zaf (zaw (i:=4) nd rfl (Or.inl rfl) (zal zbf zae (zag L.toLv (ok_0y T) (hr.mono (by decide)) (by rfl) T.mg_0y T.fn_0y.kp T.b_0y .nil (zaa (pv 2) (zaa (za9 zaR (zbE (zaa zae (zaa zae zad zac) zac)) (zag L.toLv (ok_0y T) (hr.mono (by decide)) (by rfl) T.mg_0y T.fn_0y.kp T.b_0y .nil (zaa (pv 2) (zaa zae zad zac) zab)) (fun _ _=>rfl)) zad za7) zab)))) (zaf (zaw (i:=5) nd rfl (Or.inl rfl) (zag L.toLv (ok_11 T) (hr.mono (by decide)) (by rfl) T.mg_11 T.fn_11.kp T.b_11 .nil (zaa (zag L.toLv (ok_0x T) (hr.mono (by decide)) (by rfl) T.mg_0x T.fn_0x.kp T.b_0x .nil (zaa (pv 0) (zaa (pv 1) (zaa zae zad zac) zab) zab)) zad))) (zaf (zaw (i:=6) nd rfl (Or.inl rfl) (zag L.toLv (ok_0x T) (hr.mono (by decide)) (by rfl) T.mg_0x T.fn_0x.kp T.b_0x .nil (zaa (pv 0) (zaa (pv 1) (zaa zae zad zac) zab) zab))) (zaf (zaw (i:=7) nd rfl (Or.inl rfl) (zag L.toLv (ok_0y T) (hr.mono (by decide)) (by rfl) T.mg_0y T.fn_0y.kp T.b_0y .nil (zaa (pv 6) (zaa zae zad zac) zab))) (zaf (zaw (i:=8) nd rfl (Or.inl rfl) (zcc (zaa (zak st_0) (zaa (zal zbf zae (zag L.toLv (ok_0y T) (hr.mono (by decide)) (by rfl) T.mg_0y T.fn_0y.kp T.b_0y .nil (zaa (pv 6) (zaa (za9 zaR (zbE (zaa zae (zaa zae zad zac) zac)) (zal zcs (pv 7) zae) (fun _ _=>rfl)) zad za7) zab))) zad za0) zac))) (zaf (zft (zaU (zas zc0 (pv 7) zae (zar _)) (zah (zaw (i:=8) nd rfl (Or.inl rfl) (zcc (zaa (zak st_1) (zaa (zal zbf zae (zag L.toLv (ok_0y T) (hr.mono (by decide)) (by rfl) T.mg_0y T.fn_0y.kp T.b_0y .nil (zaa (pv 6) (zaa (za9 zaR (zbE (zaa zae (zaa zae zad zac) zac)) (zal zcs (pv 7) zae) (fun _ _=>rfl)) zad za7) zab))) zad za0) zac)))) zaq)) (zaf (zaw (i:=9) nd rfl (Or.inl rfl) (zbE zad)) (zaf (zcK (by passes_own) rfl (zeV (by rfl) T.no_range (zaa (pv 4) zad)) (zao (i:=10) nd rfl (Or.inl rfl)) (zah (zdy (zcC PySem.F.plainAttrs_list PySem.F.slot_list_append PySem.F.type_list_append zcN (pv 9) (zaa (zag L.toLv (ok_10 T) (hr.mono (by decide)) (by rfl) T.mg_10 T.fn_10.kp T.b_10 .nil (zaa (zag L.toLv (ok_0x T) (hr.mono (by decide)) (by rfl) T.mg_0x T.fn_0x.kp T.b_0x .nil (zaa (pv 0) (zaa (pv 1) (zaa (zal zbf zae (pv 10)) zad za0) zab) zab)) (zaa (zdf (n:=1) (N:= ["_law_plan_here"]) (js:= []) (by rfl) rfl rfl (zcv (pv 9)) (fun a=>(zao (i:=0) (show List.Nodup (["_law_plan_here"]:List Str) from by decide+kernel) rfl (Or.inl rfl))) (fun a=>zcI) (fun a=>(za9 zc2 (pv 0) zae (fun _ _=>rfl)))) zad) zbN)) zad))))) (zah (zam (zcc (zaa (pv 3) (zaa (zcc (zaa (pv 9) (zaa (pv 5) (zaa (pv 8) zad zab) zab) zab)) zad zdr) zab)))))))))))))),?_⟩;open_k0;refine⟨a,cs,s,0,rfl,hS,by decide,fun d0 H1 f1 s1 e1=> ?_⟩;refine⟨d0,_,7,rfl,e1,by decide,by decide,fun pa H2 f2 s2 e2=> ?_⟩;have ad:pa≠d0:=fun z=>by rw[z,zat] at f2;cases f2
 refine⟨d0,_,2,rfl,s2 _ _ zat,by decide,by decide,?_⟩;have mi:=zha cs s;unfold zd9 at mi q;unfold zdk at q;have mb:4≤([4,8]:List Int).getD (zbi cs s 0 / 7 % 2).toNat 0∧([4,8]:List Int).getD (zbi cs s 0 / 7 % 2).toNat 0≤8:=zcy (by decide) (by omega) (by show _<2;omega);refine ixL (xs:=([4,8]:List Int).map V.int) (SqL.of (by rw[zaO ad];exact e2)) (zcS (by omega) (by show zbi cs s 0 / 7 % 2<2;omega)) ?_;generalize ([4,8]:List Int).getD (zbi cs s 0 / 7 % 2).toNat 0=m at mb mi q ⊢;refine⟨d0,_,m,rfl,zat,by omega,by omega,_,rfl,?_⟩;generalize zbi cs s 0 / 7 / 2 % m=mn at mi q ⊢;generalize zbi cs s 0 % 7=pl at q ⊢;obtain⟨H3,hH3⟩: ∃H3,H3=upd (upd H2 d0 (.lst [.int (zbi cs s 0 / 7 / 2)])) d0 (.lst [.int (zbi cs s 0 / 7 / 2 / m)]):=⟨_,rfl⟩
 rw[←hH3];have t3:zau H H3:=zau.but s1 f1 (by rw[hH3];exact((But.upd.trans (But.of s2)).trans But.upd).trans But.upd);clear hH3 e2 f2 s2 e1 s1 ad;refine⟨a,cs,s,1,rfl,t3.seq hS,by decide,fun d1 H4 f4 s4 e4=>⟨d1,_,rfl,e4,fun H5 b5=> ?_⟩⟩;have t5:zau H H5:=zau.but (t3.trans s4) (t3.free f4) b5;refine⟨a,cs,s,2,rfl,t5.seq hS,by decide,fun d2 H6 f6 s6 e6=>⟨d2,_,4,rfl,e6,by decide,by decide,fun pb H7 f7 s7 e7=>⟨_,rfl,?_⟩⟩⟩;have fd2:=t5.free f6;have t7:zau H H7:=zau.but (t5.trans s6) fd2 (But.upd.trans (But.of s7));have e7d:=s7 _ _ (zat (H:=H6) (a:=d2) (o:= .lst [.int (zbi cs s 2 / 4)]));unfold dyF ccF at q;dsimp only at q;have m2b:40≤([400,40]:List Int).getD (zbi cs s 2 % 4 % 2).toNat 0∧([400,40]:List Int).getD (zbi cs s 2 % 4 % 2).toNat 0≤400:=zcy (by decide) (by omega) (by show _<2;omega);have m3b:3≤([12,3]:List Int).getD (zbi cs s 2 % 4 % 2).toNat 0∧([12,3]:List Int).getD (zbi cs s 2 % 4 % 2).toNat 0≤12:=zcy (by decide) (by omega) (by show _<2;omega);refine ixL (xs:=([400,40]:List Int).map V.int) (SqL.of e7) (zcS (by omega) (by show zbi cs s 2 % 4 % 2<2;omega)) ?_;generalize zbi cs s 2=n2 at*;generalize ([400,40]:List Int).getD (n2 % 4 % 2).toNat 0=m2 at m2b q ⊢;refine⟨d2,_,m2,rfl,e7d,by omega,by omega,_,rfl,fun pc H8 f8 s8 e8=> ?_⟩;have t8:zau H H8:=zau.but t7 fd2 (But.upd.trans (But.of s8));obtain⟨dy,hdy⟩: ∃dy,dy=decide (¬1<n2 % 4):=⟨_,rfl⟩
 obtain⟨cc,hcc⟩: ∃cc,cc=(if 1<n2 % 4 then 1+n2 / 4 / m2 % ([12,3]:List Int).getD (n2 % 4 % 2).toNat 0 else 1+n2 / 4 % m2):=⟨_,rfl⟩
 rw[←hdy,←hcc] at q;obtain⟨R,hR⟩: ∃R:St→Hp→Prop,R=fun σ' H'=> ∃pe,zau H H'∧H' pe=some (.tup [.str (SL (zcW dy)), .int cc])∧σ'= [some (.ref a),some (.int s),some (.ref d0),some (.int pl),some (.int (1+mn)),some (.int (zdb (zbi cs s 1))),some (.ref d2),some (.int (n2 % 4)),some (.ref pe),none,none]:=⟨_,rfl⟩
 refine⟨R,?_,fun σ9 H9 h9=> ?_⟩
 ·open_k0;refine za8 (fun h=> ?_) (fun h=> ?_)
  ·intro pd H9 f9 s9 e9;have e9d:=s9 _ _ (s8 _ _ (zat (H:=H7) (a:=d2) (o:= .lst [.int (n2 / 4 / m2)])));rw[if_pos h] at hcc;refine ixL (xs:=([12,3]:List Int).map V.int) (SqL.of e9) (zcS (by omega) (by show n2 % 4 % 2<2;omega)) ?_;generalize ([12,3]:List Int).getD (n2 % 4 % 2).toNat 0=m3 at m3b hcc ⊢;refine⟨d2,_,m3,rfl,e9d,by omega,by omega,_,rfl,fun pe Ha fa sa ea=> ?_⟩;rw[hR];refine⟨pe,zau.but (t8.trans s9) fd2 (But.upd.trans (But.of sa)),?_,rfl⟩;rw[ea,hdy,hcc,decide_eq_false (fun z=>z h)];rfl
  ·rw[if_neg h] at hcc;rw[hR];refine⟨pc,t8,?_,rfl⟩;rw[e8,hdy,hcc,decide_eq_true h];rfl
 rw[hR] at h9;obtain⟨pe,t9,e9,rfl⟩:=h9;clear hR hcc hdy m3b m2b e8 f8 s8 t8 e7d t7 e7 f7 s7 e6 s6 f6 fd2 t5 b5 e4 s4 f4 t3 mb;open_k0;intro lp Ha fl sa ea;refine zex fun R0 hR0=> ?_;simp only[za1,zb7,zaM,zbu,za6,za5,zbw,zaD,zaK,zaL,zaJ,zbl,zbt,za4,zaW,zax,zap,zay,zbH,List.replicate,Option.join_some,Option.join_none,zaQ,zb4,zbr,zaC,tSl,zb3,zb2,zb8,slT,zbW,Int.reduceLT,Int.reduceLE,Int.reduceToNat,Int.reduceNeg,Int.reduceAdd,Int.reduceSub,Int.reduceMul,forall_const,zbT,zbp,zbQ,zbU,zbv,zbq,zbL,zbd,zbh,zbV,zbR,tC,tOp,rI,rI0,tUn,rU,zbj,tB,zbX,tOr,zbS,zbn,zbY,zbo,tIf,zbk,zb1,zaX,za3,tCB,zaZ,rEq,rNe,zaE,zaF,zaG,zaH,zaI,za2,zb0,ipI,L2.start,List.map_cons,List.map_nil,List.length_cons,List.length_nil,List.cons_append,List.nil_append,List.append_nil,List.replicate_succ,List.replicate_zero,Nat.reduceAdd,Nat.reduceSub,List.getElem?_cons_zero,List.getElem?_cons_succ,List.set_cons_zero,List.set_cons_succ,Option.some.injEq,V.int.injEq,V.bl.injEq,V.ref.injEq,V.str.injEq,exists_eq_left',exists_eq_left,exists_eq',exists_and_left,List.cons.injEq,and_true,true_and,and_self,and_assoc,decide_eq_true_eq,if_true,if_false,Bool.true_eq_false,Bool.false_eq_true,Bool.not_eq_true',Bool.not_true,Bool.not_false,decide_eq_false_iff_not,ite_true,ite_false,reduceCtorEq,false_and,exists_false,false_or,or_false,and_false,zeU,Nat.reduceLeDiff];refine⟨by omega,by omega,hR0 _ _ ?_⟩;clear hR0;refine zdO (fun i σ1 Hb=> ∃(zs:List (V×Pl)) (x10:Option V),zau H Hb∧Hb pe=some (.tup [.str (SL (zcW dy)), .int cc])∧Hb lp=some (.lst (zs.map (·.1)))∧zs.map (·.2)=zce cs s i∧(∀z∈zs,zgG Hb z.1 z.2)∧σ1= [some (.ref a),some (.int s),some (.ref d0),some (.int pl),some (.int (1+mn)),some (.int (zdb (zbi cs s 1))),some (.ref d2),some (.int (n2 % 4)),some (.ref pe),some (.ref lp),x10]) ⟨[],_,t9.trans sa,sa _ _ e9,ea,rfl,(List.forall_mem_nil _),rfl⟩ (fun i σ1 Hb hi h=> ?_) (fun σ1 Hb h=> ?_)
 ·obtain⟨zs,x10,tb,eb,el,ez,pz,rfl⟩:=h;simp only[za1,zb7,zaM,zbu,za6,za5,zbw,zaD,zaK,zaL,zaJ,zbl,zbt,za4,zaW,zax,zap,zay,zbH,List.replicate,Option.join_some,Option.join_none,zaQ,zb4,zbr,zaC,tSl,zb3,zb2,zb8,slT,zbW,Int.reduceLT,Int.reduceLE,Int.reduceToNat,Int.reduceNeg,Int.reduceAdd,Int.reduceSub,Int.reduceMul,forall_const,zbT,zbp,zbQ,zbU,zbv,zbq,zbL,zbd,zbh,zbV,zbR,tC,tOp,rI,rI0,tUn,rU,zbj,tB,zbX,tOr,zbS,zbn,zbY,zbo,tIf,zbk,zb1,zaX,za3,tCB,zaZ,rEq,rNe,zaE,zaF,zaG,zaH,zaI,za2,zb0,ipI,L2.start,List.map_cons,List.map_nil,List.length_cons,List.length_nil,List.cons_append,List.nil_append,List.append_nil,List.replicate_succ,List.replicate_zero,Nat.reduceAdd,Nat.reduceSub,List.getElem?_cons_zero,List.getElem?_cons_succ,List.set_cons_zero,List.set_cons_succ,Option.some.injEq,V.int.injEq,V.bl.injEq,V.ref.injEq,V.str.injEq,exists_eq_left',exists_eq_left,exists_eq',exists_and_left,List.cons.injEq,and_true,true_and,and_self,and_assoc,decide_eq_true_eq,if_true,if_false,Bool.true_eq_false,Bool.false_eq_true,Bool.not_eq_true',Bool.not_true,Bool.not_false,decide_eq_false_iff_not,ite_true,ite_false,reduceCtorEq,false_and,exists_false,false_or,or_false,and_false,Nat.reduceLeDiff,tBM,zdD,zdY];rw[show (3:Int)+(0+(i:Int))=((3+i:Nat):Int) by omega];have zl:zs.length=i:=by have:=congrArg List.length ez;rwa[List.length_map,zcP] at this
  have i8:i<8:=by omega
  have lpf:=t9.free fl;refine⟨.inl ⟨rfl,_,SqL.of el⟩,a,cs,s,3+i,rfl,tb.seq hS,by omega,fun d Hc fc sc ec=>⟨⟨_,SqL.of (sc _ _ el)⟩,fun l hl _=> ?_⟩⟩;have lpd:lp≠d:=fun z=>by rw[←z,el] at fc;cases fc
  have ped:pe≠d:=fun z=>by rw[←z,eb] at fc;cases fc
  refine zeh (zs.map fun z=>V.str (SL z.2.1)) (zcA (SqL.of (sc _ _ el))) (by rw[List.length_map,List.length_map]) hl (by rw[List.length_map];exact Nat.lt_of_le_of_lt (show zs.length≤8 by omega) (by decide)) (fun j x u Hd K1 hx hu sd k1=> ?_) (fun Hd sd ed=> ?_)
  ·rw[List.getElem?_map] at hx hu;obtain⟨z,hz,rfl⟩:=Option.map_eq_some_iff.mp hx;rw[hz] at hu;cases hu;obtain⟨p,ep,hp⟩:=pz z (List.mem_of_getElem? hz);rw[ep];simp only[za1,zb7,zaM,zbu,za6,za5,zbw,zaD,zaK,zaL,zaJ,zbl,zbt,za4,zaW,zax,zap,zay,zbH,List.replicate,Option.join_some,Option.join_none,zaQ,zb4,zbr,zaC,tSl,zb3,zb2,zb8,slT,zbW,Int.reduceLT,Int.reduceLE,Int.reduceToNat,Int.reduceNeg,Int.reduceAdd,Int.reduceSub,Int.reduceMul,forall_const,zbT,zbp,zbQ,zbU,zbv,zbq,zbL,zbd,zbh,zbV,zbR,tC,tOp,rI,rI0,tUn,rU,zbj,tB,zbX,tOr,zbS,zbn,zbY,zbo,tIf,zbk,zb1,zaX,za3,tCB,zaZ,rEq,rNe,zaE,zaF,zaG,zaH,zaI,za2,zb0,ipI,L2.start,List.map_cons,List.map_nil,List.length_cons,List.length_nil,List.cons_append,List.nil_append,List.append_nil,List.replicate_succ,List.replicate_zero,Nat.reduceAdd,Nat.reduceSub,List.getElem?_cons_zero,List.getElem?_cons_succ,List.set_cons_zero,List.set_cons_succ,Option.some.injEq,V.int.injEq,V.bl.injEq,V.ref.injEq,V.str.injEq,exists_eq_left',exists_eq_left,exists_eq',exists_and_left,List.cons.injEq,and_true,true_and,and_self,and_assoc,decide_eq_true_eq,if_true,if_false,Bool.true_eq_false,Bool.false_eq_true,Bool.not_eq_true',Bool.not_true,Bool.not_false,decide_eq_false_iff_not,ite_true,ite_false,reduceCtorEq,false_and,exists_false,false_or,or_false,and_false,Nat.reduceLeDiff,zap,zax];exact ixT (SqT.of (sd _ _ (sc _ _ hp))) (zaV (j:=0) rfl) (k1 _ (zau.refl _))
  have en:(zs.map fun z=>V.str (SL z.2.1))=((zce cs s i).map (·.1)).map fun w=>V.str (SL w):=by rw[←ez,List.map_map,List.map_map];rfl
  rw[en] at ed;refine⟨d,l,_,(zce cs s i).map (fun x:Pl=>x.1),rfl,sd _ _ ec,ed,(fun z=>by rw[z,ec] at hl;cases hl),fun r He be fr er=> ?_⟩;have elE:=be _ _ lpd (sd _ _ (sc _ _ el));have tE:zau H He:=zau.but (tb.trans (sc.trans sd)) (tb.free fc) be;refine⟨lp,_,_,rfl,rfl,elE,by rw[List.length_map];exact Nat.lt_of_le_of_lt (show zs.length≤8 by omega) (by decide),zcO tE lpf,?_,zs++ [(.ref r,(zd8 (zbi cs s (3+i)) ((zce cs s i).map (·.1))).1)],?_,?_,fun z hz=> ?_⟩
  ·rw[zaO (fun z=>by rw[z,el] at eb;cases eb)];exact be _ _ ped (sd _ _ (sc _ _ eb))
  ·rw[zat,List.map_append];rfl
  ·rw[List.map_append,ez];rfl
  ·rcases List.mem_append.mp hz with g|g
   ·obtain⟨p,ep,hp⟩:=pz z g;refine⟨p,ep,?_⟩;rw[zaO (fun z=>by rw[z,el] at hp;cases hp)];exact be _ _ (fun z=>by rw[z,fc] at hp;cases hp) (sd _ _ (sc _ _ hp))
   ·rw[List.mem_singleton.mp g];refine⟨r,rfl,?_⟩;rw[zaO (fun z=>by rw[z,elE] at er;cases er)];exact er
 ·obtain⟨zs,x10,tb,eb,el,ez,pz,rfl⟩:=h;open_k0;intro pf Hc ff sc ec r Hd fr sd ed;exact q r pf lp Hd ((tb.trans sc).trans sd) ed ⟨pe,zs,sd _ _ ec,sd _ _ (sc _ _ eb),sd _ _ (sc _ _ el),ez,fun z hz=>((pz z hz).same sc).same sd⟩
theorem zfh{ns:List (List Nat)}{w:List Nat}(h:zi4 w): ∀i≤26,zi4 (zcp ns w i)
 |0,_=>h
 |i+1,hi=>by
  have ih:=zfh (ns:=ns) h i (by omega);rw[zcp];split
  ·refine⟨by rw[List.length_append];exact Nat.le_add_left _ _,by rw[List.length_append,List.length_take];simp only[List.length_cons,List.length_nil];omega,fun c hc=> ?_⟩;rcases List.mem_append.mp hc with g|g
   ·exact ih.2.2 c (List.mem_of_mem_take g)
   ·rw[List.mem_singleton.mp g];omega
  ·exact ih
theorem zgI(k:Nat)(n:Int): ∀c∈(zbJ k n).1,97≤c∧c≤122:=by
 induction k with
 |zero=>exact List.forall_mem_nil _
 |succ k ih=>
  intro c hc;rw[zbJ] at hc;rcases List.mem_append.mp hc with g|g
  ·exact ih c g
  ·rw[List.mem_singleton.mp g];omega
theorem ziE(n:Int):zi4 (zdu n).1:=by
 refine⟨(zfM n).1,(zfM n).2,?_⟩;unfold zdu;split
 ·have: ∀k<21,∀c∈wsL.getD k [],97≤c∧c≤122:=by decide
  exact this _ (by omega)
 ·exact zgI _ _
theorem zfi{p r:List Nat→Bool}(h: ∀w,p w=true→r w=true){x:List Nat}(hp:p x=false)(hr:r x=true): ∀{l:List (List Nat)},x∈l→l.countP p+1≤l.countP r
 |y::l,hx=>by
  have mono:l.countP p≤l.countP r:=List.countP_mono_left fun w _=>h w;rw[List.countP_cons,List.countP_cons];rcases List.mem_cons.mp hx with rfl|hx
  ·rw[if_neg (by rw[hp];decide),if_pos hr];omega
  ·have ih:=zfi h hp hr hx;by_cases z:p y=true
   ·rw[if_pos z,if_pos (h y z)];omega
   ·rw[if_neg z];split<;>omega
theorem ziF{ns:List (List Nat)}{w:List Nat}(hn:ns.length≤24):zcp ns w 26∉ns:=by
 have key: ∀i,zcp ns w i∉ns∨(∀j,i=j+1→(zcp ns w i).getLastD 0=97+j∧j≤ns.countP fun u=>decide (u.getLastD 0<97+j)):=by
  intro i;induction i with
  |zero=>exact .inr fun j e=>by cases e
  |succ i ih=>
   rw[zcp];by_cases z:zcp ns w i∈ns
   ·rw[if_pos z];refine .inr fun j e=> ?_;obtain rfl:i=j:=by omega
    refine⟨by simp,?_⟩;rcases ih with ih|ih
    ·exact absurd z ih
    cases i with
    |zero=>exact Nat.zero_le _
    |succ k=>
     obtain⟨h1,h2⟩:=ih k rfl
     have:=zfi (p:=fun u=>decide (u.getLastD 0<97+k)) (r:=fun u=>decide (u.getLastD 0<97+(k+1))) (fun u hu=>by have:=of_decide_eq_true hu;exact decide_eq_true (by omega)) (x:=zcp ns w (k+1)) (by rw[h1];exact decide_eq_false (by omega)) (by rw[h1];exact decide_eq_true (by omega)) z;omega
   ·rw[if_neg z];exact .inl z
 rcases key 26 with h|h
 ·exact h
 ·have h1:=(h 25 rfl).2;have h2:=List.countP_le_length (p:=fun u:List Nat=>decide (u.getLastD 0<97+25)) (l:=ns);omega
theorem zjj(n:Int)(ns:List (List Nat)):zdT (zd8 n ns).1:=by
 unfold zd8;dsimp only;refine⟨zfh (ziE n) 26 (Nat.le_refl _),?_⟩;generalize (zeO n ns).2=n1;have mb:=zga (i:=n1 % 4) (by omega) (by omega);generalize zdW.getD (n1 % 4).toNat 0=m at mb ⊢;have h1:=Int.emod_nonneg (n1 / 4) (show m≠0 by omega);have h2:=Int.emod_lt_of_pos (n1 / 4) (show 0<m by omega);generalize n1 / 4 / m=n3;have h3: ∀c:Int,0≤c→c≤400→0≤([0,0,c,28+c % 4]:List Int).getD (n3 % 4).toNat 0∧([0,0,c,28+c % 4]:List Int).getD (n3 % 4).toNat 0≤400:=fun c c0 c1=>zcy (lo:=0) (hi:=400) (fun x hx=>by
  simp only[List.mem_cons,List.not_mem_nil,or_false] at hx;rcases hx with rfl|rfl|rfl|rfl<;>omega) (by omega) (by show n3 % 4<4;omega)
 have h4:=h3 (n3 / 4 % 401) (by omega) (by omega);exact⟨h1,Int.lt_of_lt_of_le h2 mb.2,h4.1,h4.2⟩
theorem zgb(cs:List Int)(s:Nat): ∀i≤8,(∀x∈zce cs s i,zdT x)∧((zce cs s i).map (·.1)).Nodup
 |0,_=>⟨List.forall_mem_nil _,List.Pairwise.nil⟩
 |i+1,hi=>by
  obtain⟨h1,h2⟩:=zgb cs s i (by omega);rw[zce];refine⟨fun x hx=> ?_,?_⟩
  ·rcases List.mem_append.mp hx with g|g
   ·exact h1 x g
   ·rw[List.mem_singleton.mp g];exact zjj _ _
  ·rw[List.map_append,List.nodup_append];refine⟨h2,List.pairwise_singleton _ _,fun a ha b hb e=> ?_⟩;rw[List.map_cons,List.map_nil,List.mem_singleton] at hb;rw[e,hb] at ha;exact ziF (by rw[List.length_map,zcP];omega) ha
theorem zkq(cs:List Int)(s:Nat):zd7 (zce cs s (zd9 cs s).toNat) (zkp cs s) (dyF cs s) (ccF cs s):=by
 have mi:=zha cs s;obtain⟨h1,h2⟩:=zgb cs s (zd9 cs s).toNat (by omega);refine⟨⟨by rw[zcP];omega,by rw[zcP];omega,h1,h2⟩,ziD _,?_⟩;unfold ccF dyF;dsimp only;generalize zbi cs s 2=n;have m2b:40≤([400,40]:List Int).getD (n % 4 % 2).toNat 0∧([400,40]:List Int).getD (n % 4 % 2).toNat 0≤400:=zcy (by decide) (by omega) (by show _<2;omega);have m3b:3≤([12,3]:List Int).getD (n % 4 % 2).toNat 0∧([12,3]:List Int).getD (n % 4 % 2).toNat 0≤12:=zcy (by decide) (by omega) (by show _<2;omega);generalize ([400,40]:List Int).getD (n % 4 % 2).toNat 0=m2 at m2b ⊢;generalize ([12,3]:List Int).getD (n % 4 % 2).toNat 0=m3 at m3b ⊢;by_cases z:1<n % 4
 ·rw[if_pos z,decide_eq_false (fun h=>h z)];have h1:=Int.emod_nonneg (n / 4 / m2) (show m3≠0 by omega);have h2:=Int.emod_lt_of_pos (n / 4 / m2) (show 0<m3 by omega);exact⟨by omega,by show _≤(12:Int);omega⟩
 ·rw[if_neg z,decide_eq_true z];have h1:=Int.emod_nonneg (n / 4) (show m2≠0 by omega);have h2:=Int.emod_lt_of_pos (n / 4) (show 0<m2 by omega);exact⟨by omega,by show _≤(400:Int);omega⟩
theorem zhK(cs:List Int)(s:Nat):0≤zdk cs s∧zdk cs s≤6:=by unfold zdk;omega
def zkr:Sp:=fun vs H Q _=> ∃(p:Int) (a l:Addr) (xs:List Pl) (f:Int) (dy:Bool) (cc:Int),vs= [.int p, .ref a]∧zeL H a l xs f dy cc∧zd7 xs f dy cc∧0≤p∧p≤6∧ ∀H',zau H H'→Q (.str (SL (txtF p.toNat xs f dy cc))) H'
theorem sc_13:FnScope ["_law_places","_law_account_here","_law_plans","_law_first_here","_law_cycle","_law_rows","_law_name_here","_law_price","_law_count","_law_row"] ["_law_places","_law_account_here"] (zai s_13):=⟨rfl,rfl,rfl,by decide+kernel,rfl,by decide+kernel,by decide+kernel⟩
theorem ok_13(T:Txt K mg t):FnOk P w K mg base (CXE P w) 5 t.a_13 t.d_13 ["_law_places","_law_account_here"] (zkr):=by
 refine T.fn_13.okX sc_13 (fun vs H Q E h=> ?_) (fun cdv A outer s H vs Q E L hr h=> ?_)
 ·obtain⟨p,a,l,xs,f,dy,cc,rfl,at_,ok,p0,p1,q⟩:=h;rfl
 obtain⟨p,a,l,xs,f,dy,cc,rfl,at_,ok,p0,p1,q⟩:=h;have nd:=sc_13.nd;refine⟨_,(zaf (zcr (pv 1) (zb9 (n:=3) rfl (zav (zao (i:=2) nd rfl (Or.inl rfl)) (zav (zao (i:=3) nd rfl (Or.inl rfl)) (zav (zao (i:=4) nd rfl (Or.inl rfl)) zbG))))) (zaf (zaw (i:=5) nd rfl (Or.inl rfl) (zbE (zaa (zal zaT (zak st_24) (zbb zby (by rfl) T.no_str zct (zaa (pv 0) zad))) (zaa (zal zaT (zak st_25) (zag L.toLv (ok_0e T) (hr.mono (by decide)) (by rfl) T.mg_0e T.fn_0e.kp T.b_0e .nil (zaa (pv 3) zad))) (zaa (zal zaT (zal zaT (zal zaT (zak st_26) (zbb zby (by rfl) T.no_str zct (zaa (za9 zc2 (pv 4) zae (fun _ _=>rfl)) zad))) (zak st_21)) (za9 zc2 (pv 4) zae (fun _ _=>rfl))) zad za0) za0) za0))) (zaf (zcK (by passes_own) rfl (zcv (pv 2)) (zb9 (n:=3) rfl (zav (zao (i:=6) nd rfl (Or.inl rfl)) (zav (zao (i:=7) nd rfl (Or.inl rfl)) (zav (zao (i:=8) nd rfl (Or.inl rfl)) zbG)))) (zaf (zaw (i:=9) nd rfl (Or.inl rfl) (zal zaT (zal zaT (zal zaT (zak st_23) (pv 6)) (zak st_21)) (zag L.toLv (ok_0h T) (hr.mono (by decide)) (by rfl) T.mg_0h T.fn_0h.kp T.b_0h .nil (zaa (pv 7) (zaa (pv 0) zad zab) zab)))) (zaf (zaU (zas zc0 (pv 8) zae (zar _)) (zah (zaw (i:=9) nd rfl (Or.inl rfl) (zal zaT (zal zaT (pv 9) (zak st_22)) (zbb zby (by rfl) T.no_str zct (zaa (pv 8) zad))))) zaq) (zah (zdy (zcC PySem.F.plainAttrs_list PySem.F.slot_list_append PySem.F.type_list_append zcN (pv 5) (zaa (pv 9) zad))))))) (zah (zam (zcC PySem.F.plainAttrs_str PySem.F.slot_str_join PySem.F.type_str_join zfw (zak st_27) (zaa (pv 5) zad))))))),?_⟩;obtain⟨pc,zs,h1,h2,h3,rfl,h5⟩:=at_;open_k0;refine⟨a,_,rfl,SqT.of h1,rfl,?_⟩;lge_open0
 have ok':=ok;obtain⟨pok,⟨f0,f1⟩,c0,c1⟩:=ok;have c2:cc≤400:=by split at c1<;>omega
 have pd:=(zcj (show p.toNat≤400 by omega)).2.1;have cd:=(zcj (show cc.toNat≤400 by omega)).2.1;have cw:(zcW dy).length≤6:=by unfold zcW;split<;>decide
 obtain⟨y,m,d,va,hn⟩:=Cal.date_exists f0 (show f≤3652058 by omega);have ed:dtF f=zc8 y m d:=Dt.eq ⟨y,m,d,va,hn,rfl⟩;have dl:(zc8 y m d).length=10:=by simp [zc8,zcx]
 refine⟨p0,zbD (by omega) (by omega),zaz (by omega),f,y,m,d,rfl,va,hn,fun H1 s1=>⟨_,rfl,zaz (by omega),?_⟩⟩;refine ixT (SqT.of (s1 _ _ h2)) (zaV (j:=1) rfl) ⟨_,rfl,by omega,zbD (by omega) (by omega),zaz (by omega),zaz (by omega),ixT (SqT.of (s1 _ _ h2)) (zaV (j:=0) rfl) ⟨_,rfl,zaz (by simp only[List.length_append,List.length_cons,List.length_nil];omega),fun lr H2 fl s2 e2=> ?_⟩⟩;have s12:=s1.trans s2;have zl:zs.length≤8:=by have:=pok.2.1;rwa[List.length_map] at this
 have zok: ∀z∈zs,zdT z.2:=fun z hz=>pok.2.2.1 _ (List.mem_map_of_mem hz);have lrf:=s1.free fl
 ((try dsimp only);refine zex fun R hR=> ?_;simp only[za1,zb7,zaM,zbu,za6,za5,zbw,zaD,zaK,zaL,zaJ,zbl,zbt,za4,zaW,zax,zap,zay,zbH,List.replicate,Option.join_some,Option.join_none,zaQ,zb4,zbr,zaC,tSl,zb3,zb2,zb8,slT,zbW,Int.reduceLT,Int.reduceLE,Int.reduceToNat,Int.reduceNeg,Int.reduceAdd,Int.reduceSub,Int.reduceMul,forall_const,zbT,zbp,zbQ,zbU,zbv,zbq,zbL,zbd,zbh,zbV,zbR,tC,tOp,rI,rI0,tUn,rU,zbj,tB,zbX,tOr,zbS,zbn,zbY,zbo,tIf,zbk,zb1,zaX,za3,tCB,zaZ,rEq,rNe,zaE,zaF,zaG,zaH,zaI,za2,zb0,ipI,L2.start,List.map_cons,List.map_nil,List.length_cons,List.length_nil,List.cons_append,List.nil_append,List.append_nil,List.replicate_succ,List.replicate_zero,Nat.reduceAdd,Nat.reduceSub,List.getElem?_cons_zero,List.getElem?_cons_succ,List.set_cons_zero,List.set_cons_succ,Option.some.injEq,V.int.injEq,V.bl.injEq,V.ref.injEq,V.str.injEq,exists_eq_left',exists_eq_left,exists_eq',exists_and_left,List.cons.injEq,and_true,true_and,and_self,and_assoc,decide_eq_true_eq,if_true,if_false,Bool.true_eq_false,Bool.false_eq_true,Bool.not_eq_true',Bool.not_true,Bool.not_false,decide_eq_false_iff_not,ite_true,ite_false,reduceCtorEq,false_and,exists_false,false_or,or_false,and_false,zdY,zjF,zjV,zeU,zgL,Nat.reduceLeDiff])
 refine⟨⟨_,s12.seq (SqL.of h3)⟩,hR _ _ ?_⟩;clear hR;refine zel (xs:=zs.map (·.1)) (fun i σ1 H3=>zau H H3∧H3 lr=some (.lst ((([zcJ,dg p.toNat]:: [zdt,dtF f]:: [zcV,dg cc.toNat,zcW dy]::((zs.take i).map fun z=>plW p.toNat z.2)).map (jn [32])).map fun w=>V.str (SL w)))∧ ∃x6 x7 x8 x9,σ1= [some (.int p),some (.ref a),some (.ref l),some (.int f),some (.ref pc),some (.ref lr),x6,x7,x8,x9]) ⟨s12,?_,_,_,_,_,rfl⟩ (fun _ _ _ _ h=>h.1.seq (SqL.of h3)) (fun i x σ1 H3 hx h=> ?_) (fun σ1 H3 h=> ?_)
 ·rw[e2,ed];simp [jn,zcJ,zdt,zcV]
 ·obtain⟨s3,e3,x6,x7,x8,x9,rfl⟩:=h;rw[List.getElem?_map] at hx;obtain⟨z,hz,rfl⟩:=Option.map_eq_some_iff.mp hx;have zm:=List.mem_of_getElem? hz;obtain⟨pz,ez,hp⟩:=h5 z zm;obtain⟨⟨n1,n2,n3⟩,r0,r1,ct0,ct1⟩:=zok z zm;rw[ez];refine⟨pz,_,rfl,SqT.of (s3 _ _ hp),rfl,?_⟩;lge_open0
  have nb:z.2.2.1.natAbs<10 ^ 60:=by omega
  have as:=zcE nb (show p.toNat≤6 by omega);refine⟨zaz (by omega),zaz (by omega),z.2.2.1,p,rfl,p0,p1,by omega,by omega,fun H4 s4=>⟨_,rfl,zaz (by simp only[List.length_append,List.length_cons,List.length_nil];omega),?_⟩⟩;have dl:=(zcj (show z.2.2.2.toNat≤400 by omega)).2.1;have ln: ∀i,(List.map (fun w=>V.str (SL w)) (List.map (jn [32]) ([zcJ,dg p.toNat]:: [zdt,dtF f]:: [zcV,dg cc.toNat,zcW dy]::List.map (fun z=>plW p.toNat z.snd) (List.take i zs)))).length<sizeLine:=fun i=>by
   rw[List.length_map,List.length_map,List.length_cons,List.length_cons,List.length_cons,List.length_map,List.length_take];exact Nat.lt_of_le_of_lt (show min i zs.length+1+1+1≤11 by omega) (by decide)
  have fin: ∀cs,cs=jn [32] (plW p.toNat z.2)→zgR (V.ref lr) [V.str (SL cs)] H4 fun x H1=>zau H H1∧H1 lr=some (HO.lst (V.str (SL (jn [32] [zcJ,dg p.toNat]))::V.str (SL (jn [32] [zdt,dtF f]))::V.str (SL (jn [32] [zcV,dg cc.toNat,zcW dy]))::List.map (fun w=>V.str (SL w)) (List.map (jn [32]) (List.map (fun z=>plW p.toNat z.snd) (List.take (i+1) zs))))):=fun cs e=>by
   refine⟨lr,_,_,rfl,rfl,s4 _ _ e3,ln i,zcO (s3.trans s4) lrf,?_⟩;rw[zat,e,List.take_add_one,hz];simp
  refine za8 (fun c=>⟨zaz (by simp only[List.length_append,List.length_cons,List.length_nil];omega),ct0,zbD (by omega) (by omega),zaz (by simp only[List.length_append,List.length_cons,List.length_nil];omega), .inl ⟨rfl,_,SqL.of (s4 _ _ e3)⟩,fin _ ?_⟩) (fun c=>⟨.inl ⟨rfl,_,SqL.of (s4 _ _ e3)⟩,fin _ ?_⟩)
  ·unfold plW;rw[if_neg (by omega)];simp [jn,zdJ,zhG]
  ·unfold plW;rw[if_pos (by omega)];simp [jn,zdJ]
 ·obtain⟨s3,e3,x6,x7,x8,x9,rfl⟩:=h;rw[List.length_map,List.take_length] at e3;lge_open0
  have ro:=zdj (p:=p.toNat) ok' (by omega);refine⟨rfl,(rowsW p.toNat (zs.map (fun z:V×Pl=>z.2)) f dy cc).map (jn [32]),SqL.of (e3.trans ?_),?_,q _ s3⟩
  ·unfold rowsW;rw[show (zs.map (fun z:V×Pl=>z.2)).map (plW p.toNat)=zs.map fun z=>plW p.toNat z.2 by rw[List.map_map];rfl]
  ·have h1:=sum_le (b:=315) (ys:=(rowsW p.toNat (zs.map (·.2)) f dy cc).map (jn [32])) fun y hy=>by
    obtain⟨ws,hw,rfl⟩:=List.mem_map.mp hy;exact(ro ws hw).len
   have h2:=zdL p.toNat (zs.map (·.2)) f dy cc;rw[List.length_map] at h2;rw[List.length_map] at h1 ⊢;omega
def zjk:Sp:=fun vs H Q _=> ∃i:Int,vs= [.int i]∧Q (.bl true) H
theorem sc_14:FnScope ["_law_found"] ["_law_found"] (zai s_14):=⟨rfl,rfl,rfl,by decide+kernel,rfl,by decide+kernel,by decide+kernel⟩
theorem ok_14(T:Txt K mg t):FnOk P w K mg base (CXE P w) 1 t.a_14 t.d_14 ["_law_found"] (zjk):=by
 refine T.fn_14.okX sc_14 (fun vs H Q E h=> ?_) (fun cdv A outer s H vs Q E L hr h=> ?_)
 ·obtain⟨i,rfl,q⟩:=h;rfl
 obtain⟨i,rfl,q⟩:=h;have nd:=sc_14.nd;refine⟨_,(zah (zam (zcg (zan zba (by rfl) T.no_isinstance zaN (zaa (pv 0) (zaa (zcG (by rfl) T.no_int zcR) zad zab) zab)) (zbZ (zge (zan zba (by rfl) T.no_isinstance zaN (zaa (pv 0) (zaa (zcG (by rfl) T.no_bool zgS) zad zab) zab))))))),?_⟩;open_k0;refine⟨_, .old (.int _),_,rfl,_,zd0,?_⟩;rw[if_pos rfl];refine⟨_, .old (.int _),_,rfl,_,zdA,?_⟩;exact q
def zgJ(n:Nat):Sp:=fun vs H Q _=>n≠0∧ ∃(x y:V) (d:D),vs= [x,y]∧Tk H n d x∧Tk H n d y∧ ∀H',zau H H'→Q (.bl true) H'
theorem zej{K:Fg}:PySem.W.kitAny K (.type "list") [.type "list", .type "tuple"]=some true∧PySem.W.kitAny K (.type "tuple") [.type "list", .type "tuple"]=some true∧PySem.W.kitAny K (.type "str") [.type "list", .type "tuple"]=some false∧PySem.W.kitAny K (.type "int") [.type "list", .type "tuple"]=some false:=by
 refine⟨rfl,rfl,rfl,rfl⟩
theorem zdX{K:Fg}:PySem.W.kitOne K (.type "list") (.type "tuple")=some false∧PySem.W.kitOne K (.type "tuple") (.type "list")=some false∧PySem.W.kitOne K (.type "tuple") (.type "tuple")=some true:=⟨rfl,rfl,rfl⟩
theorem sc_15:FnScope ["_law_found","_law_due"] ["_law_found","_law_due"] (zai s_15):=⟨rfl,rfl,rfl,by decide+kernel,rfl,by decide+kernel,by decide+kernel⟩
theorem zgc(T:Txt K mg t)(n:Nat):FnOk P w K mg base (CXE P w) (n+2) t.a_15 t.d_15 ["_law_found","_law_due"] (zgJ n):=by
 induction n with
 |zero=>exact T.fn_15.okX sc_15 (fun vs H Q E h=>(h.1 rfl).elim) (fun cdv A outer s H vs Q E L hr h=>(h.1 rfl).elim)
 |succ n ih=>
 refine T.fn_15.okX sc_15 (fun vs H Q E h=> ?_) (fun cdv A outer s H vs Q E L hr h=> ?_)
 ·obtain⟨_,x,y,d,rfl,hx,hy,q⟩:=h;rfl
 obtain⟨_,x,y,d,rfl,hx,hy,q⟩:=h;have nd:=sc_15.nd;refine⟨_,(zaf (zaU (zbC (zan zfG (by rfl) T.no_isinstance zaN (zaa (pv 1) (zaa (zcc (zaa (zcG (by rfl) T.no_list zfs) (zaa (zcG (by rfl) T.no_tuple zeo) zad zab) zab)) zad zdr) zab))) (zaf (zaU (zcu (zas zcZ (zan zba (by rfl) T.no_isinstance zaN (zaa (pv 1) (zaa (zcG (by rfl) T.no_list zfs) zad zab) zab)) (zan zba (by rfl) T.no_isinstance zaN (zaa (pv 0) (zaa (zcG (by rfl) T.no_list zfs) zad zab) zab)) (zar _)) (zcq (zas zcZ (zan zba (by rfl) T.no_isinstance zaN (zaa (pv 1) (zaa (zcG (by rfl) T.no_tuple zeo) zad zab) zab)) (zan zba (by rfl) T.no_isinstance zaN (zaa (pv 0) (zaa (zcG (by rfl) T.no_tuple zeo) zad zab) zab)) (zar _)))).pt (zah (zam zcl)) zaq) (zah (zam (zcg (zbA zca (zan zaS (by rfl) T.no_len zbB (zaa (pv 0) zad)) (zan zaS (by rfl) T.no_len zbB (zaa (pv 1) zad)) (zar _)) (zbZ (zan (zew (by rfl)) (by rfl) T.no_all zgp (zaa (zdf (n:=2) (N:= ["_law_one","_law_other"]) (js:= []) (by rfl) rfl rfl (zg4 (by rfl) T.no_zip (zaa (pv 0) (zaa (pv 1) zad zab) zab)) (fun a=>(zb9 (n:=2) rfl (zav (zao (i:=0) (show List.Nodup (["_law_one","_law_other"]:List Str) from by decide+kernel) rfl (Or.inl rfl)) (zav (zao (i:=1) (show List.Nodup (["_law_one","_law_other"]:List Str) from by decide+kernel) rfl (Or.inl rfl)) zbG)))) (fun a=>zcI) (fun a=>(zag zfX ih (hr.mono (by omega)) (by rfl) T.mg_15 T.fn_15.kp T.b_15 .nil (zaa (pv 0) (zaa (pv 1) zad zab) zab)))) zad))))))) zaq) (zaf (zaU (zbC (zan zba (by rfl) T.no_isinstance zaN (zaa (pv 1) (zaa (zcG (by rfl) T.no_str zct) zad zab) zab))) (zah (zam (zcg (zan zba (by rfl) T.no_isinstance zaN (zaa (pv 0) (zaa (zcG (by rfl) T.no_str zct) zad zab) zab)) (zbZ (zbA zca (pv 0) (pv 1) (zar _)))))) zaq) (zah (zam (zcg (zag L.toLv (ok_14 T) (hr.mono (by omega)) (by rfl) T.mg_14 T.fn_14.kp T.b_14 .nil (zaa (pv 0) zad)) (zbZ (zbA zca (pv 0) (pv 1) (zar _)))))))),?_⟩;simp only[za1,zb7,zaM,zbu,za6,za5,zbw,zaD,zaK,zaL,zaJ,zbl,zbt,za4,zaW,zax,zap,zay,zbH,List.replicate,Option.join_some,Option.join_none,zaQ,zb4,zbr,zaC,tSl,zb3,zb2,zb8,slT,zbW,Int.reduceLT,Int.reduceLE,Int.reduceToNat,Int.reduceNeg,Int.reduceAdd,Int.reduceSub,Int.reduceMul,forall_const,zbT,zbp,zbQ,zbU,zbv,zbq,zbL,zbd,zbh,zbV,zbR,tC,tOp,rI,rI0,tUn,rU,zbj,tB,zbX,tOr,zbS,zbn,zbY,zbo,tIf,zbk,zb1,zaX,za3,tCB,zaZ,rEq,rNe,zaE,zaF,zaG,zaH,zaI,za2,zb0,ipI,L2.start,List.map_cons,List.map_nil,List.length_cons,List.length_nil,List.cons_append,List.nil_append,List.append_nil,List.replicate_succ,List.replicate_zero,Nat.reduceAdd,Nat.reduceSub,List.getElem?_cons_zero,List.getElem?_cons_succ,List.set_cons_zero,List.set_cons_succ,Option.some.injEq,V.int.injEq,V.bl.injEq,V.ref.injEq,V.str.injEq,exists_eq_left',exists_eq_left,exists_eq',exists_and_left,List.cons.injEq,and_true,true_and,and_self,and_assoc,decide_eq_true_eq,if_true,if_false,Bool.true_eq_false,Bool.false_eq_true,Bool.not_eq_true',Bool.not_true,Bool.not_false,decide_eq_false_iff_not,ite_true,ite_false,reduceCtorEq,false_and,exists_false,false_or,or_false,and_false,Nat.reduceLeDiff,zdD,ziq];intro p1 H1 f1 s1 e1;have hx1:=hx.same s1;have hy1:=hy.same s1;cases d with
 |non=>exact hx.elim
 |bl b=>exact hx.elim
 |int i=>
  cases hx;cases hy;refine⟨p1,rfl,_, .int _, ["list","tuple"],e1,_,zej.2.2.2,?_⟩;rw[if_neg (by decide)];refine⟨_, .old (.int _),_,rfl,_,zd5,?_⟩;rw[if_neg (by decide)];refine⟨i,rfl,_,rfl,?_⟩;rw[if_pos rfl,decide_eq_true rfl];exact⟨rfl,q _ s1⟩
 |str cs=>
  cases hx;cases hy;refine⟨p1,rfl,_, .str _, ["list","tuple"],e1,_,zej.2.2.1,?_⟩;rw[if_neg (by decide)];refine⟨_, .old (.str _),_,rfl,_,zcH,?_⟩;rw[if_pos rfl];refine⟨_, .old (.str _),_,rfl,_,zcH,?_⟩;rw[if_pos rfl,decide_eq_true rfl];exact⟨rfl,q _ s1⟩
 |lst ds=>
  obtain⟨a,us,rfl,ha,za,qa⟩:=hx1;obtain⟨b,vs,rfl,hb,zb,qb⟩:=hy1;refine⟨p1,rfl,_, .lst hb, ["list","tuple"],e1,_,zej.1,?_⟩;rw[if_pos rfl];refine⟨_, .old (.lst hb),_,rfl,_,zd3,_, .old (.lst ha),_,rfl,_,zd3,?_⟩;rw[if_neg (fun z=>z rfl)];refine⟨_, .old (.lst hb),_,rfl,_,zdX.1,_, .old (.lst ha),_,rfl,_,zdX.1,?_⟩;rw[if_neg (fun z=>z rfl)];have la:=zcD qa;have lb:=zcD qb;refine⟨a,rfl,us, .inl (SqL.of ha),b,rfl,vs, .inl (SqL.of hb),?_⟩;rw[if_pos (by omega)];have A:SqK false K H1 a us:= .inr ⟨rfl,SqL.of ha⟩;have B:SqK false K H1 b vs:= .inr ⟨rfl,SqL.of hb⟩;refine⟨false,a,rfl,b,rfl,⟨_,A⟩,⟨_,B⟩,fun l hl _=> ?_⟩;refine zdU (fun i ws=>ws=List.replicate i (V.bl true)) A B (by omega) hl (Nat.lt_of_le_of_lt za (by decide)) (fun v w=>by simp only[List.set,zap,zax]) rfl (fun i x y ws H2 K1 hx hy s2 pv k=> ?_) (fun ws H2 s2 pv e2=> ?_)
  ·obtain⟨d1,h1,t1⟩:=zc7 qa hx;obtain⟨d2,h2,t2⟩:=zc7 qb hy;rw[h1] at h2;cases h2;open_k0;exact⟨fun z=>by subst z;exact t1,x,y,d1,rfl,t1.same s2,t2.same s2,fun H3 s3=>k _ _ s3 (by rw[pv,List.replicate_succ'])⟩
  ·refine⟨l,rfl,List.replicate us.length true,SqL.of (e2.trans (by rw[pv,List.map_replicate])),?_⟩;rw[show (List.replicate us.length true).all id=true by simp];exact q _ (s1.trans s2)
 |tup ds=>
  obtain⟨a,us,rfl,ha,za,qa⟩:=hx1;obtain⟨b,vs,rfl,hb,zb,qb⟩:=hy1;refine⟨p1,rfl,_, .tup hb, ["list","tuple"],e1,_,zej.2.1,?_⟩;rw[if_pos rfl];refine⟨_, .old (.tup hb),_,rfl,_,zdX.2.1,_, .old (.tup ha),_,rfl,_,zdX.2.1,?_⟩;rw[if_neg (fun z=>z rfl)];refine⟨_, .old (.tup hb),_,rfl,_,zdX.2.2,_, .old (.tup ha),_,rfl,_,zdX.2.2,?_⟩;rw[if_neg (fun z=>z rfl)];have la:=zcD qa;have lb:=zcD qb;refine⟨a,rfl,us, .inr (SqT.of ha),b,rfl,vs, .inr (SqT.of hb),?_⟩;rw[if_pos (by omega)];have A:SqK true K H1 a us:= .inl ⟨rfl,SqT.of ha⟩;have B:SqK true K H1 b vs:= .inl ⟨rfl,SqT.of hb⟩;refine⟨true,a,rfl,b,rfl,⟨_,A⟩,⟨_,B⟩,fun l hl _=> ?_⟩;refine zdU (fun i ws=>ws=List.replicate i (V.bl true)) A B (by omega) hl (Nat.lt_of_le_of_lt za (by decide)) (fun v w=>by simp only[List.set,zap,zax]) rfl (fun i x y ws H2 K1 hx hy s2 pv k=> ?_) (fun ws H2 s2 pv e2=> ?_)
  ·obtain⟨d1,h1,t1⟩:=zc7 qa hx;obtain⟨d2,h2,t2⟩:=zc7 qb hy;rw[h1] at h2;cases h2;open_k0;exact⟨fun z=>by subst z;exact t1,x,y,d1,rfl,t1.same s2,t2.same s2,fun H3 s3=>k _ _ s3 (by rw[pv,List.replicate_succ'])⟩
  ·refine⟨l,rfl,List.replicate us.length true,SqL.of (e2.trans (by rw[pv,List.map_replicate])),?_⟩;rw[show (List.replicate us.length true).all id=true by simp];exact q _ (s1.trans s2)
theorem ok_15(T:Txt K mg t):FnOk P w K mg base (CXE P w) 8 t.a_15 t.d_15 ["_law_found","_law_due"] (zgJ 6):=zgc T 6
def accD(xs:List Pl)(f:Int)(dy:Bool)(cc:Int):D:= .tup [.lst (xs.map fun x=> .tup (plD x)), .int f, .tup [.str (zcW dy), .int cc]]
theorem zeL.tree{H:Hp}{p l:Addr}{xs:List Pl}{f:Int}{dy:Bool}{cc:Int}{n:Nat}(h:zeL H p l xs f dy cc)(x8:xs.length≤8):Tk H (n+4) (accD xs f dy cc) (.ref p):=by
 obtain⟨pc,zs,h1,h2,h3,rfl,h5⟩:=h;rw[List.length_map] at x8;refine Tk.tup h1 (by simp) ⟨Tk.lst h3 (by rw[List.length_map];omega) (zfL (by rw[List.length_map,List.length_map,List.length_map]) fun i d v ed ev=> ?_),Tk.int,Tk.tup h2 (by simp) ⟨Tk.str,Tk.int,trivial⟩,trivial⟩;rw[List.getElem?_map,List.getElem?_map,Option.map_map] at ed;rw[List.getElem?_map] at ev;obtain⟨z,hz,rfl⟩:=Option.map_eq_some_iff.mp ev;rw[hz] at ed;cases ed;obtain⟨a,e,q⟩:=h5 z (List.mem_of_getElem? hz);rw[e];exact Tk.tup q (by simp) ⟨Tk.str,Tk.int,Tk.int,trivial⟩
def zgd(K:Fg):Sp:=fun vs H Q _=> ∃(a:Addr) (cs:List Int) (s:Nat),vs= [.ref a, .int s]∧SqL K H a (cs.map V.int)∧ ∀H',zau H H'→Q (.bl true) H'
theorem sc_16:FnScope ["_law_script","_law_start","_law_places","_law_account_here","_law_text_here","_law_found","_law_again"] ["_law_script","_law_start"] (zai s_16):=⟨rfl,rfl,rfl,by decide+kernel,rfl,by decide+kernel,by decide+kernel⟩
theorem ok_16(T:Txt K mg t):FnOkT P w K mg base (CXE P w) 9 t.a_16 t.d_16 ["_law_script","_law_start"] (zgd K):=by
 refine T.fn_16.okXT sc_16 (fun vs H Q E h=> ?_) (fun cdv A outer s H vs Q E L hr h=> ?_)
 ·obtain⟨a,cs,s,rfl,hS,q⟩:=h;rfl
 obtain⟨a,cs,s,rfl,hS,q⟩:=h;have nd:=sc_16.nd;refine⟨_,(zbc (PS.t (zcr (zag L.toLv (ok_12 T) (hr.mono (by decide)) (by rfl) T.mg_12 T.fn_12.kp T.b_12 .nil (zaa (pv 0) (zaa (pv 1) zad zab) zab)) (zb9 (n:=2) rfl (zav (zao (i:=2) nd rfl (Or.inl rfl)) (zav (zao (i:=3) nd rfl (Or.inl rfl)) zbG))))) (zbc (PS.t (zaw (i:=4) nd rfl (Or.inl rfl) (zag L.toLv (ok_13 T) (hr.mono (by decide)) (by rfl) T.mg_13 T.fn_13.kp T.b_13 .nil (zaa (pv 2) (zaa (pv 3) zad zab) zab)))) (zbc (PS.t (zaw (i:=5) nd rfl (Or.inl rfl) (zag L.toLv (ok_0o T) (hr.mono (by decide)) (by rfl) T.mg_0o T.fn_0o.kp T.b_0o .nil (zaa (pv 2) (zaa (pv 3) zad zab) zab)))) (zbc (PS.t (zaU (zcu (zcf (zbC (zan zba (by rfl) T.no_isinstance zaN (zaa (pv 5) (zaa (zcG (by rfl) T.no_str zct) zad zab) zab)))) (zcu (zas zcZ (pv 5) (pv 4) (zar _)) (zcq (zcf (zbC (zag L.toLv (ok_15 T) (hr.mono (by decide)) (by rfl) T.mg_15 T.fn_15.kp T.b_15 .nil (zaa (pv 3) (zaa (za9 zc2 (zag L.toLv (ok_12 T) (hr.mono (by decide)) (by rfl) T.mg_12 T.fn_12.kp T.b_12 .nil (zaa (pv 0) (zaa (pv 1) zad zab) zab)) zae (fun _ _=>rfl)) zad za7) zab))))))).pt (zah (zam zcl)) zaq)) (zbc (zfz (i:=6) nd rfl (Or.inl rfl) (zcB L.toLv (ok_0u T) (hr.mono (by decide)) (by rfl) T.mg_0u T.fn_0u.kp T.b_0u .nil (PA.t (zaa (pv 4) zad)))) (zbc (PS.t (zaU (zcf (zbC (zag L.toLv (ok_15 T) (hr.mono (by decide)) (by rfl) T.mg_15 T.fn_15.kp T.b_15 .nil (zaa (pv 6) (zaa (zcc (zaa (pv 2) (zaa (pv 3) zad zab) zab)) zad zdr) zab)))) (zah (zam zcl)) zaq)) (zbc (PS.t (zdy (zcC PySem.F.plainAttrs_list PySem.F.slot_list_append PySem.F.type_list_append zcN (za9 zc2 (za9 zc2 (pv 6) zae (fun _ _=>rfl)) zae (fun _ _=>rfl)) (zaa (zcc (zaa (zak st_57) (zaa zae (zaa zae zad zac) zac) zac)) zad)))) (zeA (zgY (zcB L.toLv (FnOk.t (ok_15 T)) (hr.mono (by decide)) (by rfl) T.mg_15 T.fn_15.kp T.b_15 .nil (zdh (zcB L.toLv (ok_0u T) (hr.mono (by decide)) (by rfl) T.mg_0u T.fn_0u.kp T.b_0u .nil (PA.t (zaa (pv 4) zad))) (PA.t (zaa (zcc (zaa (pv 2) (zaa (pv 3) zad zab) zab)) zad))))))))))))),?_⟩;open_k0;have ok:=zkq cs s;have pb:=zhK cs s;have x8:=ok.1.2.1;refine⟨a,cs,s,rfl,hS,fun r ac l H1 s1 e1 hA=>⟨r,_,rfl,SqT.of e1,rfl,?_⟩⟩;generalize hxs:zce cs s (zd9 cs s).toNat=xs at*;generalize hf:zkp cs s=f at*;generalize hdy:dyF cs s=dy at*;generalize hcc:ccF cs s=cc at*;generalize hp:zdk cs s=p at*;open_k0;refine⟨p,ac,l,xs,f,dy,cc,rfl,hA,ok,pb.1,pb.2,fun H2 s2=> ?_⟩;refine⟨p,ac,l,xs,f,dy,cc,rfl,hA.same s2,ok,pb.1,pb.2,fun H3 s3=> ?_⟩;have s13:=(s1.trans s2).trans s3;try open_k0
 refine⟨_, .old (.str _),_,rfl,_,zcH,?_⟩;rw[if_neg (by decide),if_neg (by decide)];have ac3:=(hA.same s2).same s3;refine⟨a,cs,s,rfl,s13.seq hS,fun r2 ac2 l2 H4 s4 e4 hA2=> ?_⟩;rw[hxs,hf,hdy,hcc] at hA2;refine ixT (SqT.of e4) (zaV (j:=1) rfl) ⟨by decide,_,_,accD xs f dy cc,rfl,(ac3.same s4).tree x8,hA2.tree x8,fun H5 s5=>⟨_,rfl,?_⟩⟩;rw[if_neg (by decide)];have ac5:=(ac3.same s4).same s5;have s15:=(s13.trans s4).trans s5;have rd: ∀(HH:Hp) (Q2:VK) (E2:XK),zau H5 HH→(∀r3 a3 l3 H6,zau HH H6→HH l3=none→H6 r3=some (.tup [.int p, .ref a3])→zeL H6 a3 l3 xs f dy cc→Q2 (.ref r3) H6)→zfg [V.str (SL (txtF p.toNat xs f dy cc))] HH Q2 E2:=fun HH Q2 E2 _ k=>⟨p.toNat,xs,f,dy,cc,rfl,ok,by omega,fun r3 a3 l3 H6 s6 f6 e6 h6=>k r3 a3 l3 H6 s6 f6 (by rw[e6,Int.toNat_of_nonneg pb.1]) h6⟩
 have sm: ∀(HH:Hp) (r3 a3 l3 pn:Addr) (Q2:VK) (E2:XK),zau H5 HH→HH r3=some (.tup [.int p, .ref a3])→zeL HH a3 l3 xs f dy cc→HH pn=some (.tup [.int p, .ref ac])→(∀H',zau HH H'→Q2 (.bl true) H')→zgJ 6 [.ref r3, .ref pn] HH Q2 E2:=fun HH r3 a3 l3 pn Q2 E2 sh er hr en k=>⟨by decide,_,_, .tup [.int p,accD xs f dy cc],rfl,Tk.tup er (by simp) ⟨Tk.int,hr.tree x8,trivial⟩,Tk.tup en (by simp) ⟨Tk.int,(ac5.same sh).tree x8,trivial⟩,k⟩
 refine rd _ _ _ (zau.refl _) fun r3 a3 l3 H6 s6 f6 e6 hA3=> ?_;intro pn H7 fn s7 e7;refine sm _ _ _ _ _ _ _ (s6.trans s7) (s7 _ _ e6) (hA3.same s7) e7 fun H8 s8=>⟨_,rfl,?_⟩
 rw[if_neg (by decide)];have s78:=s7.trans s8;obtain⟨pc3,zs3,g1,g2,g3,g4,g5⟩:=hA3.same s78;lge_open0
 refine ixT (SqT.of (s78 _ _ e6)) (zaV (j:=1) rfl) (ixT (SqT.of g1) (zaV (j:=0) rfl) ?_);refine⟨.inl ⟨rfl,_,SqL.of g3⟩,fun pt H9 ft s9 e9=>⟨l3,_,_,rfl,rfl,s9 _ _ g3,?_,?_⟩⟩
 ·rw[List.length_map,←List.length_map (f:=fun z:V×Pl=>z.2),g4];exact Nat.lt_of_le_of_lt x8 (by decide)
 have s59:zau H5 (upd H9 l3 (.lst (List.map (fun x=>x.fst) zs3++ [.ref pt]))):=zcO (((s6.trans s78).trans s9)) f6;refine rd _ _ _ s59 fun r4 a4 l4 Ha sa fa ea hA4=> ?_;intro pm Hb fb sb eb;exact sm _ _ _ _ _ _ _ ((s59.trans sa).trans sb) (sb _ _ ea) (hA4.same sb) eb fun Hc sc=>q _ ((((s15.trans s59).trans sa).trans sb).trans sc)
def ziG(K:Fg):Sp:=fun vs H Q _=> ∃(a:Addr) (ns:List Int),vs= [.ref a]∧SqL K H a (ns.map V.int)∧ns.length≤63∧ ∀H',Q (.bl true) H'
theorem sc_17:FnScope ["_law_script","_law_start"] ["_law_script"] (zai s_17):=⟨rfl,rfl,rfl,by decide+kernel,rfl,by decide+kernel,by decide+kernel⟩
theorem ok_17(T:Txt K mg t):FnOk P w K mg base (CXE P w) 10 t.a_17 t.d_17 ["_law_script"] (ziG K):=by
 refine T.fn_17.okX sc_17 (fun vs H Q E h=> ?_) (fun cdv A outer s H vs Q E L hr h=> ?_)
 ·obtain⟨a,ns,rfl,hS,h63,q⟩:=h;rfl
 obtain⟨a,ns,rfl,hS,h63,q⟩:=h;have nd:=sc_17.nd;refine⟨_,(zaf (zcK (by passes_own) rfl (zcv (zbE (zaa zae (zaa zae (zaa zae (zaa zae zad zac) zac) zac) zac))) (zao (i:=1) nd rfl (Or.inl rfl)) (zah (zj2 (zj1 (zi6 zca (pv 1) (zar _)) (ziY (PT.t (zas zdl (pv 1) (zan zaS (by rfl) T.no_len zbB (zaa (pv 0) zad)) (zar _))))) (zeA (zjW (ziZ (ziX (zcB L.toLv (ok_16 T) (hr.mono (by decide)) (by rfl) T.mg_16 T.fn_16.kp T.b_16 .nil (PA.t (zaa (pv 0) (zaa (pv 1) zad zab) zab))))) (PSs.t (zah (zam zcl))) (PSs.t zaq))) (PSs.t zaq)))) (zah (zam zcl))),?_⟩;open_k0
 ((try dsimp only);refine zex fun R hR=> ?_;simp only[za1,zb7,zaM,zbu,za6,za5,zbw,zaD,zaK,zaL,zaJ,zbl,zbt,za4,zaW,zax,zap,zay,zbH,List.replicate,Option.join_some,Option.join_none,zaQ,zb4,zbr,zaC,tSl,zb3,zb2,zb8,slT,zbW,Int.reduceLT,Int.reduceLE,Int.reduceToNat,Int.reduceNeg,Int.reduceAdd,Int.reduceSub,Int.reduceMul,forall_const,zbT,zbp,zbQ,zbU,zbv,zbq,zbL,zbd,zbh,zbV,zbR,tC,tOp,rI,rI0,tUn,rU,zbj,tB,zbX,tOr,zbS,zbn,zbY,zbo,tIf,zbk,zb1,zaX,za3,tCB,zaZ,rEq,rNe,zaE,zaF,zaG,zaH,zaI,za2,zb0,ipI,L2.start,List.map_cons,List.map_nil,List.length_cons,List.length_nil,List.cons_append,List.nil_append,List.append_nil,List.replicate_succ,List.replicate_zero,Nat.reduceAdd,Nat.reduceSub,List.getElem?_cons_zero,List.getElem?_cons_succ,List.set_cons_zero,List.set_cons_succ,Option.some.injEq,V.int.injEq,V.bl.injEq,V.ref.injEq,V.str.injEq,exists_eq_left',exists_eq_left,exists_eq',exists_and_left,List.cons.injEq,and_true,true_and,and_self,and_assoc,decide_eq_true_eq,if_true,if_false,Bool.true_eq_false,Bool.false_eq_true,Bool.not_eq_true',Bool.not_true,Bool.not_false,decide_eq_false_iff_not,ite_true,ite_false,reduceCtorEq,false_and,exists_false,false_or,or_false,and_false,zdY,zjF,zjV,zeU,zgL,Nat.reduceLeDiff])
 intro p1 H1 f1 s1 e1;refine⟨p1,rfl,⟨_,SqL.of e1⟩,hR _ _ ?_⟩;clear hR;refine zel (xs:=([0,11,22,33]:List Nat).map fun k:Nat=>V.int (k:Int)) (fun i σ1 H2=>zau H1 H2∧ ∃x1,σ1= [some (.ref a),x1]) ⟨zau.refl _,_,rfl⟩ (fun _ _ _ _ h=>h.1.seq (SqL.of e1)) (fun i x σ1 H2 hx h=> ?_) (fun σ1 H2 h=> ?_)
 ·obtain⟨s2,x1,rfl⟩:=h;rw[List.getElem?_map] at hx;obtain⟨k,hk,rfl⟩:=Option.map_eq_some_iff.mp hx;have go: ∀(R:Hp→Prop),(∀H',zau H2 H'→R H')→zgd K [.ref a, .int k] H2 (fun x H1=> ∃c,x=V.bl c∧if c=false then Q (V.bl false) H1 else R H1) E:=fun R hR=>⟨a,ns,k,rfl,(s1.trans s2).seq hS,fun H3 s3=>⟨_,rfl,by rw[if_neg (by decide)];exact hR _ s3⟩⟩
  open_k0;exact za8 (fun _=>go _ fun H' s'=>s2.trans s') (fun _=>⟨_, .inl ((s1.trans s2).seq hS),za8 (fun _=>go _ fun H' s'=>s2.trans s') (fun _=>s2)⟩)
 ·obtain⟨s2,x1,rfl⟩:=h;open_k0;exact q _
end
theorem zcz{α:Type}{P:List α→Prop}(h: ∀a0,P [a0])(us:List α)(l:us.length=1):P us:=match us,l with| [a0],_=>h a0
theorem zdw{α:Type}{P:List α→Prop}(h: ∀a0 a1,P [a0,a1])(us:List α)(l:us.length=2):P us:=match us,l with| [a0,a1],_=>h a0 a1
theorem zks{α:Type}{P:List α→Prop}(h: ∀a0 a1 a2,P [a0,a1,a2])(us:List α)(l:us.length=3):P us:=match us,l with| [a0,a1,a2],_=>h a0 a1 a2
abbrev fnS(x q:Str)(s:Stmt)(tV kV dc pm:Value)(an:Option Addr)(cd ct:Value):=PySem.W.fnOf x q (zcF s) (zbM s) (zai s) tV kV dc pm an cd ct
open PySem.W in
theorem txt_mk{K:Fg}{h:Heap}{mg:Str→Option Value}(X:K.In h)(G:h.Ns mainGlobals mg)
  (ha0:nsIn K mainGlobals "is_whole"=some (some (.ref f0)))
  (hl0:K.lookup f0=some ⟨oc0,od0, .func (fnS "is_whole" "is_whole" s_00 .none kV0 dc0 pm0 an0 cd0 ct0),sl0⟩)
  (hc0:codeIn K cd0 "is_whole"=true)
  (hk0:keepIn K (.ref f0)=true)
  (ha1:nsIn K mainGlobals "is_whole_between"=some (some (.ref f1)))
  (hl1:K.lookup f1=some ⟨oc1,od1, .func (fnS "is_whole_between" "is_whole_between" s_01 .none kV1 dc1 pm1 an1 cd1 ct1),sl1⟩)
  (hc1:codeIn K cd1 "is_whole_between"=true)
  (hk1:keepIn K (.ref f1)=true)
  (ha2:nsIn K mainGlobals "is_name"=some (some (.ref f2)))
  (hl2:K.lookup f2=some ⟨oc2,od2, .func (fnS "is_name" "is_name" s_02 .none kV2 dc2 pm2 an2 cd2 ct2),sl2⟩)
  (hc2:codeIn K cd2 "is_name"=true)
  (hk2:keepIn K (.ref f2)=true)
  (ha3:nsIn K mainGlobals "is_price"=some (some (.ref f3)))
  (hl3:K.lookup f3=some ⟨oc3,od3, .func (fnS "is_price" "is_price" s_03 .none kV3 dc3 pm3 an3 cd3 ct3),sl3⟩)
  (hc3:codeIn K cd3 "is_price"=true)
  (hk3:keepIn K (.ref f3)=true)
  (ha4:nsIn K mainGlobals "is_plan"=some (some (.ref f4)))
  (hl4:K.lookup f4=some ⟨oc4,od4, .func (fnS "is_plan" "is_plan" s_04 .none kV4 dc4 pm4 an4 cd4 ct4),sl4⟩)
  (hc4:codeIn K cd4 "is_plan"=true)
  (hk4:keepIn K (.ref f4)=true)
  (ha5:nsIn K mainGlobals "is_cycle"=some (some (.ref f5)))
  (hl5:K.lookup f5=some ⟨oc5,od5, .func (fnS "is_cycle" "is_cycle" s_05 .none kV5 dc5 pm5 an5 cd5 ct5),sl5⟩)
  (hc5:codeIn K cd5 "is_cycle"=true)
  (hk5:keepIn K (.ref f5)=true)
  (ha6:nsIn K mainGlobals "check_plans"=some (some (.ref f6)))
  (hl6:K.lookup f6=some ⟨oc6,od6, .func (fnS "check_plans" "check_plans" s_06 .none kV6 dc6 pm6 an6 cd6 ct6),sl6⟩)
  (hc6:codeIn K cd6 "check_plans"=true)
  (hk6:keepIn K (.ref f6)=true)
  (ha7:nsIn K mainGlobals "check_account"=some (some (.ref f7)))
  (hl7:K.lookup f7=some ⟨oc7,od7, .func (fnS "check_account" "check_account" s_07 .none kV7 dc7 pm7 an7 cd7 ct7),sl7⟩)
  (hc7:codeIn K cd7 "check_account"=true)
  (hk7:keepIn K (.ref f7)=true)
  (ha8:nsIn K mainGlobals "has_leap_day"=some (some (.ref f8)))
  (hl8:K.lookup f8=some ⟨oc8,od8, .func (fnS "has_leap_day" "has_leap_day" s_08 .none kV8 dc8 pm8 an8 cd8 ct8),sl8⟩)
  (hc8:codeIn K cd8 "has_leap_day"=true)
  (hk8:keepIn K (.ref f8)=true)
  (ha9:nsIn K mainGlobals "days_in"=some (some (.ref f9)))
  (hl9:K.lookup f9=some ⟨oc9,od9, .func (fnS "days_in" "days_in" s_09 .none kV9 dc9 pm9 an9 cd9 ct9),sl9⟩)
  (hc9:codeIn K cd9 "days_in"=true)
  (hk9:keepIn K (.ref f9)=true)
  (ha10:nsIn K mainGlobals "days_ahead_of_year"=some (some (.ref f10)))
  (hl10:K.lookup f10=some ⟨oc10,od10, .func (fnS "days_ahead_of_year" "days_ahead_of_year" s_0a .none kV10 dc10 pm10 an10 cd10 ct10),sl10⟩)
  (hc10:codeIn K cd10 "days_ahead_of_year"=true)
  (hk10:keepIn K (.ref f10)=true)
  (ha11:nsIn K mainGlobals "day_of"=some (some (.ref f11)))
  (hl11:K.lookup f11=some ⟨oc11,od11, .func (fnS "day_of" "day_of" s_0b .none kV11 dc11 pm11 an11 cd11 ct11),sl11⟩)
  (hc11:codeIn K cd11 "day_of"=true)
  (hk11:keepIn K (.ref f11)=true)
  (ha12:nsIn K mainGlobals "year_of"=some (some (.ref f12)))
  (hl12:K.lookup f12=some ⟨oc12,od12, .func (fnS "year_of" "year_of" s_0c .none kV12 dc12 pm12 an12 cd12 ct12),sl12⟩)
  (hc12:codeIn K cd12 "year_of"=true)
  (hk12:keepIn K (.ref f12)=true)
  (ha13:nsIn K mainGlobals "date_of"=some (some (.ref f13)))
  (hl13:K.lookup f13=some ⟨oc13,od13, .func (fnS "date_of" "date_of" s_0d .none kV13 dc13 pm13 an13 cd13 ct13),sl13⟩)
  (hc13:codeIn K cd13 "date_of"=true)
  (hk13:keepIn K (.ref f13)=true)
  (ha14:nsIn K mainGlobals "show_date"=some (some (.ref f14)))
  (hl14:K.lookup f14=some ⟨oc14,od14, .func (fnS "show_date" "show_date" s_0e .none kV14 dc14 pm14 an14 cd14 ct14),sl14⟩)
  (hc14:codeIn K cd14 "show_date"=true)
  (hk14:keepIn K (.ref f14)=true)
  (ha15:nsIn K mainGlobals "read_figures"=some (some (.ref f15)))
  (hl15:K.lookup f15=some ⟨oc15,od15, .func (fnS "read_figures" "read_figures" s_0f .none kV15 dc15 pm15 an15 cd15 ct15),sl15⟩)
  (hc15:codeIn K cd15 "read_figures"=true)
  (hk15:keepIn K (.ref f15)=true)
  (ha16:nsIn K mainGlobals "read_date"=some (some (.ref f16)))
  (hl16:K.lookup f16=some ⟨oc16,od16, .func (fnS "read_date" "read_date" s_0g .none kV16 dc16 pm16 an16 cd16 ct16),sl16⟩)
  (hc16:codeIn K cd16 "read_date"=true)
  (hk16:keepIn K (.ref f16)=true)
  (ha17:nsIn K mainGlobals "show_amount"=some (some (.ref f17)))
  (hl17:K.lookup f17=some ⟨oc17,od17, .func (fnS "show_amount" "show_amount" s_0h (.ref T17) kV17 dc17 pm17 an17 cd17 ct17),sl17⟩)
  (hc17:codeIn K cd17 "show_amount"=true)
  (hk17:keepIn K (.ref f17)=true)
  (ht17:K.lookup T17=some ⟨.type "tuple",dd17, .seq #[.int 2 dk17] dn17,ds17⟩)
  (ha18:nsIn K mainGlobals "only_figures"=some (some (.ref f18)))
  (hl18:K.lookup f18=some ⟨oc18,od18, .func (fnS "only_figures" "only_figures" s_0i .none kV18 dc18 pm18 an18 cd18 ct18),sl18⟩)
  (hc18:codeIn K cd18 "only_figures"=true)
  (hk18:keepIn K (.ref f18)=true)
  (ha19:nsIn K mainGlobals "read_amount"=some (some (.ref f19)))
  (hl19:K.lookup f19=some ⟨oc19,od19, .func (fnS "read_amount" "read_amount" s_0j (.ref T19) kV19 dc19 pm19 an19 cd19 ct19),sl19⟩)
  (hc19:codeIn K cd19 "read_amount"=true)
  (hk19:keepIn K (.ref f19)=true)
  (ht19:K.lookup T19=some ⟨.type "tuple",dd19, .seq #[.int 2 dk19] dn19,ds19⟩)
  (ha20:nsIn K mainGlobals "is_number"=some (some (.ref f20)))
  (hl20:K.lookup f20=some ⟨oc20,od20, .func (fnS "is_number" "is_number" s_0k .none kV20 dc20 pm20 an20 cd20 ct20),sl20⟩)
  (hc20:codeIn K cd20 "is_number"=true)
  (hk20:keepIn K (.ref f20)=true)
  (ha21:nsIn K mainGlobals "fits_word"=some (some (.ref f21)))
  (hl21:K.lookup f21=some ⟨oc21,od21, .func (fnS "fits_word" "fits_word" s_0l .none kV21 dc21 pm21 an21 cd21 ct21),sl21⟩)
  (hc21:codeIn K cd21 "fits_word"=true)
  (hk21:keepIn K (.ref f21)=true)
  (ha22:nsIn K mainGlobals "fits_form"=some (some (.ref f22)))
  (hl22:K.lookup f22=some ⟨oc22,od22, .func (fnS "fits_form" "fits_form" s_0m .none kV22 dc22 pm22 an22 cd22 ct22),sl22⟩)
  (hc22:codeIn K cd22 "fits_form"=true)
  (hk22:keepIn K (.ref f22)=true)
  (ha23:nsIn K mainGlobals "show_plan"=some (some (.ref f23)))
  (hl23:K.lookup f23=some ⟨oc23,od23, .func (fnS "show_plan" "show_plan" s_0n .none kV23 dc23 pm23 an23 cd23 ct23),sl23⟩)
  (hc23:codeIn K cd23 "show_plan"=true)
  (hk23:keepIn K (.ref f23)=true)
  (ha24:nsIn K mainGlobals "show_account"=some (some (.ref f24)))
  (hl24:K.lookup f24=some ⟨oc24,od24, .func (fnS "show_account" "show_account" s_0o .none kV24 dc24 pm24 an24 cd24 ct24),sl24⟩)
  (hc24:codeIn K cd24 "show_account"=true)
  (hk24:keepIn K (.ref f24)=true)
  (ha25:nsIn K mainGlobals "fits_places"=some (some (.ref f25)))
  (hl25:K.lookup f25=some ⟨oc25,od25, .func (fnS "fits_places" "fits_places" s_0p .none kV25 dc25 pm25 an25 cd25 ct25),sl25⟩)
  (hc25:codeIn K cd25 "fits_places"=true)
  (hk25:keepIn K (.ref f25)=true)
  (ha26:nsIn K mainGlobals "fits_cycle"=some (some (.ref f26)))
  (hl26:K.lookup f26=some ⟨oc26,od26, .func (fnS "fits_cycle" "fits_cycle" s_0q .none kV26 dc26 pm26 an26 cd26 ct26),sl26⟩)
  (hc26:codeIn K cd26 "fits_cycle"=true)
  (hk26:keepIn K (.ref f26)=true)
  (ha27:nsIn K mainGlobals "fits_plan"=some (some (.ref f27)))
  (hl27:K.lookup f27=some ⟨oc27,od27, .func (fnS "fits_plan" "fits_plan" s_0r .none kV27 dc27 pm27 an27 cd27 ct27),sl27⟩)
  (hc27:codeIn K cd27 "fits_plan"=true)
  (hk27:keepIn K (.ref f27)=true)
  (ha28:nsIn K mainGlobals "fits_lines"=some (some (.ref f28)))
  (hl28:K.lookup f28=some ⟨oc28,od28, .func (fnS "fits_lines" "fits_lines" s_0s .none kV28 dc28 pm28 an28 cd28 ct28),sl28⟩)
  (hc28:codeIn K cd28 "fits_lines"=true)
  (hk28:keepIn K (.ref f28)=true)
  (ha29:nsIn K mainGlobals "read_plan"=some (some (.ref f29)))
  (hl29:K.lookup f29=some ⟨oc29,od29, .func (fnS "read_plan" "read_plan" s_0t .none kV29 dc29 pm29 an29 cd29 ct29),sl29⟩)
  (hc29:codeIn K cd29 "read_plan"=true)
  (hk29:keepIn K (.ref f29)=true)
  (ha30:nsIn K mainGlobals "read_account"=some (some (.ref f30)))
  (hl30:K.lookup f30=some ⟨oc30,od30, .func (fnS "read_account" "read_account" s_0u .none kV30 dc30 pm30 an30 cd30 ct30),sl30⟩)
  (hc30:codeIn K cd30 "read_account"=true)
  (hk30:keepIn K (.ref f30)=true)
  (ha31:nsIn K mainGlobals "_law_cell_at"=some (some (.ref f31)))
  (hl31:K.lookup f31=some ⟨oc31,od31, .func (fnS "_law_cell_at" "_law_cell_at" s_0v .none kV31 dc31 pm31 an31 cd31 ct31),sl31⟩)
  (hc31:codeIn K cd31 "_law_cell_at"=true)
  (hk31:keepIn K (.ref f31)=true)
  (ha32:nsIn K mainGlobals "_law_rich"=some (some (.ref f32)))
  (hl32:K.lookup f32=some ⟨oc32,od32, .func (fnS "_law_rich" "_law_rich" s_0w .none kV32 dc32 pm32 an32 cd32 ct32),sl32⟩)
  (hc32:codeIn K cd32 "_law_rich"=true)
  (hk32:keepIn K (.ref f32)=true)
  (ha33:nsIn K mainGlobals "_law_digits"=some (some (.ref f33)))
  (hl33:K.lookup f33=some ⟨oc33,od33, .func (fnS "_law_digits" "_law_digits" s_0x .none kV33 dc33 pm33 an33 cd33 ct33),sl33⟩)
  (hc33:codeIn K cd33 "_law_digits"=true)
  (hk33:keepIn K (.ref f33)=true)
  (ha34:nsIn K mainGlobals "_law_digit"=some (some (.ref f34)))
  (hl34:K.lookup f34=some ⟨oc34,od34, .func (fnS "_law_digit" "_law_digit" s_0y .none kV34 dc34 pm34 an34 cd34 ct34),sl34⟩)
  (hc34:codeIn K cd34 "_law_digit"=true)
  (hk34:keepIn K (.ref f34)=true)
  (ha35:nsIn K mainGlobals "_law_name"=some (some (.ref f35)))
  (hl35:K.lookup f35=some ⟨oc35,od35, .func (fnS "_law_name" "_law_name" s_0z .none kV35 dc35 pm35 an35 cd35 ct35),sl35⟩)
  (hc35:codeIn K cd35 "_law_name"=true)
  (hk35:keepIn K (.ref f35)=true)
  (ha36:nsIn K mainGlobals "_law_plan"=some (some (.ref f36)))
  (hl36:K.lookup f36=some ⟨oc36,od36, .func (fnS "_law_plan" "_law_plan" s_10 .none kV36 dc36 pm36 an36 cd36 ct36),sl36⟩)
  (hc36:codeIn K cd36 "_law_plan"=true)
  (hk36:keepIn K (.ref f36)=true)
  (ha37:nsIn K mainGlobals "_law_first"=some (some (.ref f37)))
  (hl37:K.lookup f37=some ⟨oc37,od37, .func (fnS "_law_first" "_law_first" s_11 .none kV37 dc37 pm37 an37 cd37 ct37),sl37⟩)
  (hc37:codeIn K cd37 "_law_first"=true)
  (hk37:keepIn K (.ref f37)=true)
  (ha38:nsIn K mainGlobals "_law_account"=some (some (.ref f38)))
  (hl38:K.lookup f38=some ⟨oc38,od38, .func (fnS "_law_account" "_law_account" s_12 .none kV38 dc38 pm38 an38 cd38 ct38),sl38⟩)
  (hc38:codeIn K cd38 "_law_account"=true)
  (hk38:keepIn K (.ref f38)=true)
  (ha39:nsIn K mainGlobals "_law_text"=some (some (.ref f39)))
  (hl39:K.lookup f39=some ⟨oc39,od39, .func (fnS "_law_text" "_law_text" s_13 .none kV39 dc39 pm39 an39 cd39 ct39),sl39⟩)
  (hc39:codeIn K cd39 "_law_text"=true)
  (hk39:keepIn K (.ref f39)=true)
  (ha40:nsIn K mainGlobals "_law_whole"=some (some (.ref f40)))
  (hl40:K.lookup f40=some ⟨oc40,od40, .func (fnS "_law_whole" "_law_whole" s_14 .none kV40 dc40 pm40 an40 cd40 ct40),sl40⟩)
  (hc40:codeIn K cd40 "_law_whole"=true)
  (hk40:keepIn K (.ref f40)=true)
  (ha41:nsIn K mainGlobals "_law_same"=some (some (.ref f41)))
  (hl41:K.lookup f41=some ⟨oc41,od41, .func (fnS "_law_same" "_law_same" s_15 .none kV41 dc41 pm41 an41 cd41 ct41),sl41⟩)
  (hc41:codeIn K cd41 "_law_same"=true)
  (hk41:keepIn K (.ref f41)=true)
  (ha42:nsIn K mainGlobals "_law_right"=some (some (.ref f42)))
  (hl42:K.lookup f42=some ⟨oc42,od42, .func (fnS "_law_right" "_law_right" s_16 .none kV42 dc42 pm42 an42 cd42 ct42),sl42⟩)
  (hc42:codeIn K cd42 "_law_right"=true)
  (hk42:keepIn K (.ref f42)=true)
  (ha43:nsIn K mainGlobals "law"=some (some (.ref f43)))
  (hl43:K.lookup f43=some ⟨oc43,od43, .func (fnS "law" "law" s_17 .none kV43 dc43 pm43 an43 cd43 ct43),sl43⟩)
  (hc43:codeIn K cd43 "law"=true)
  (hk43:keepIn K (.ref f43)=true)
  (g_Z0l:nsIn K mainGlobals "SpanError"=some (some (.ref C_Z0l)))
  (gc_Z0l:clsIn K C_Z0l=some cd_Z0l)
  (gt_Z0l:typeIn K (.ref C_Z0l)=some (.type "type"))
  (gm_Z0l:mroIn K C_Z0l (.ref C_Z0l)=some true)
  (g_Z0i:nsIn K mainGlobals "NoDate"=some (some (.ref C_Z0i)))
  (gc_Z0i:clsIn K C_Z0i=some cd_Z0i)
  (gt_Z0i:typeIn K (.ref C_Z0i)=some (.type "type"))
  (gm_Z0i:mroIn K C_Z0i (.ref C_Z0i)=some true)
  (g_Z0h:nsIn K mainGlobals "NoAmount"=some (some (.ref C_Z0h)))
  (gc_Z0h:clsIn K C_Z0h=some cd_Z0h)
  (gt_Z0h:typeIn K (.ref C_Z0h)=some (.type "type"))
  (gm_Z0h:mroIn K C_Z0h (.ref C_Z0h)=some true)
  (g_Z0g:nsIn K mainGlobals "NoAccount"=some (some (.ref C_Z0g)))
  (gc_Z0g:clsIn K C_Z0g=some cd_Z0g)
  (gt_Z0g:typeIn K (.ref C_Z0g)=some (.type "type"))
  (gm_Z0g:mroIn K C_Z0g (.ref C_Z0g)=some true)
  (g_Z0j:nsIn K mainGlobals "NoText"=some (some (.ref C_Z0j)))
  (gc_Z0j:clsIn K C_Z0j=some cd_Z0j)
  (gt_Z0j:typeIn K (.ref C_Z0j)=some (.type "type"))
  (gm_Z0j:mroIn K C_Z0j (.ref C_Z0j)=some true)
  (gx_Z0g:excIn K C_Z0g [.type "ValueError", .type "Exception", .type "BaseException", .type "object"] "ValueError.__new__"=true)
  (gx_Z0i:excIn K C_Z0i [.type "ValueError", .type "Exception", .type "BaseException", .type "object"] "ValueError.__new__"=true)
  (gx_Z0h:excIn K C_Z0h [.type "ValueError", .type "Exception", .type "BaseException", .type "object"] "ValueError.__new__"=true)
  (gx_Z0j:excIn K C_Z0j [.type "ValueError", .type "Exception", .type "BaseException", .type "object"] "ValueError.__new__"=true)
  (k_Z06:nsIn K mainGlobals "LETTERS"=some (some (.str "abcdefghijklmnopqrstuvwxyz" tk_Z06)))
  (k_Z0c:nsIn K mainGlobals "MOST_LETTERS"=some (some (.int 8 tk_Z0c)))
  (k_Z0f:nsIn K mainGlobals "MOST_PLANS"=some (some (.int 8 tk_Z0f)))
  (k_Z08:nsIn K mainGlobals "MOST_COUNT"=some (some (.int 400 tk_Z08)))
  (k_Z04:nsIn K mainGlobals "LAST_FIRST_DAY"=some (some (.int 3500000 tk_Z04)))
  (k_Z09:nsIn K mainGlobals "MOST_DAYS"=some (some (.int 400 tk_Z09)))
  (k_Z0d:nsIn K mainGlobals "MOST_MONTHS"=some (some (.int 12 tk_Z0d)))
  (k_Z05:nsIn K mainGlobals "LAST_YEAR"=some (some (.int 9999 tk_Z05)))
  (k_Z03:nsIn K mainGlobals "LAST_DAY"=some (some (.int 3652058 tk_Z03)))
  (k_Z07:nsIn K mainGlobals "MONTH_DAYS"=some (some (.ref A_Z07)))
  (kl_Z07:K.lookup A_Z07=some ⟨.type "tuple",od_Z07, .seq its_Z07 n_Z07,sl_Z07⟩)
  (kz_Z07:its_Z07.size≤sizeLine)
  (kv_Z07:zaP [.int 31, .int 28, .int 31, .int 30, .int 31, .int 30, .int 31, .int 31, .int 30, .int 31, .int 30, .int 31] its_Z07.toList)
  (k_Z0k:nsIn K mainGlobals "ROUND_DAYS"=some (some (.int 146097 tk_Z0k)))
  (k_Z02:nsIn K mainGlobals "HUNDRED_YEARS_DAYS"=some (some (.int 36524 tk_Z02)))
  (k_Z01:nsIn K mainGlobals "FOUR_YEARS_DAYS"=some (some (.int 1461 tk_Z01)))
  (k_Z0m:nsIn K mainGlobals "YEAR_DAYS"=some (some (.int 365 tk_Z0m)))
  (k_Z00:nsIn K mainGlobals "FIGURES"=some (some (.str "0123456789" tk_Z00)))
  (k_Z0a:nsIn K mainGlobals "MOST_FIGURES"=some (some (.int 60 tk_Z0a)))
  (k_Z0b:nsIn K mainGlobals "MOST_FIGURES_OF_NUMBER"=some (some (.int 9 tk_Z0b)))
  (k_Z0e:nsIn K mainGlobals "MOST_PLACES"=some (some (.int 6 tk_Z0e)))
  (z_isinstance:nsIn K mainGlobals "isinstance"=some none)
  (z_int:nsIn K mainGlobals "int"=some none)
  (z_bool:nsIn K mainGlobals "bool"=some none)
  (z_str:nsIn K mainGlobals "str"=some none)
  (z_len:nsIn K mainGlobals "len"=some none)
  (z_range:nsIn K mainGlobals "range"=some none)
  (z_divmod:nsIn K mainGlobals "divmod"=some none)
  (z_min:nsIn K mainGlobals "min"=some none)
  (z_abs:nsIn K mainGlobals "abs"=some none)
  (z_all:nsIn K mainGlobals "all"=some none)
  (z_zip:nsIn K mainGlobals "zip"=some none)
  (z_any:nsIn K mainGlobals "any"=some none)
  (z_list:nsIn K mainGlobals "list"=some none)
  (z_tuple:nsIn K mainGlobals "tuple"=some none)
  (xga_NoAccount:findIn K (.ref C_Z0g) "__getattribute__"=some (some (.builtin "BaseException.__getattribute__")))
  (xgt_NoAccount:findIn K (.ref C_Z0g) "__getattr__"=some none)
  (xcl_NoAccount:findIn K (.ref C_Z0g) "__class__"=some (some (.builtin "object.__class__")))
  (xmo_NoAccount:mroIn K C_Z0g (.type "object")=some true)
  (xmb_NoAccount:mroIn K C_Z0g (.type "BaseException")=some true)
  (m_NoAccount_SpanError:mroIn K C_Z0g (.ref C_Z0l)=some true)
  (m_NoAccount_NoDate:mroIn K C_Z0g (.ref C_Z0i)=some false)
  (m_NoAccount_NoAmount:mroIn K C_Z0g (.ref C_Z0h)=some false)
  (m_NoAccount_NoAccount:mroIn K C_Z0g (.ref C_Z0g)=some true)
  (m_NoAccount_NoText:mroIn K C_Z0g (.ref C_Z0j)=some false)
  (m_NoAccount_ValueError:mroIn K C_Z0g (.type "ValueError")=some true)
  (m_SpanError_BaseException:mroIn K C_Z0l (.type "BaseException")=some true)
  : ∃t,Txt K mg t:=
 ⟨{a_00:=f0,d_00:=fnS "is_whole" "is_whole" s_00 .none kV0 dc0 pm0 an0 cd0 ct0,
   a_01:=f1,d_01:=fnS "is_whole_between" "is_whole_between" s_01 .none kV1 dc1 pm1 an1 cd1 ct1,
   a_02:=f2,d_02:=fnS "is_name" "is_name" s_02 .none kV2 dc2 pm2 an2 cd2 ct2,
   a_03:=f3,d_03:=fnS "is_price" "is_price" s_03 .none kV3 dc3 pm3 an3 cd3 ct3,
   a_04:=f4,d_04:=fnS "is_plan" "is_plan" s_04 .none kV4 dc4 pm4 an4 cd4 ct4,
   a_05:=f5,d_05:=fnS "is_cycle" "is_cycle" s_05 .none kV5 dc5 pm5 an5 cd5 ct5,
   a_06:=f6,d_06:=fnS "check_plans" "check_plans" s_06 .none kV6 dc6 pm6 an6 cd6 ct6,
   a_07:=f7,d_07:=fnS "check_account" "check_account" s_07 .none kV7 dc7 pm7 an7 cd7 ct7,
   a_08:=f8,d_08:=fnS "has_leap_day" "has_leap_day" s_08 .none kV8 dc8 pm8 an8 cd8 ct8,
   a_09:=f9,d_09:=fnS "days_in" "days_in" s_09 .none kV9 dc9 pm9 an9 cd9 ct9,
   a_0a:=f10,d_0a:=fnS "days_ahead_of_year" "days_ahead_of_year" s_0a .none kV10 dc10 pm10 an10 cd10 ct10,
   a_0b:=f11,d_0b:=fnS "day_of" "day_of" s_0b .none kV11 dc11 pm11 an11 cd11 ct11,
   a_0c:=f12,d_0c:=fnS "year_of" "year_of" s_0c .none kV12 dc12 pm12 an12 cd12 ct12,
   a_0d:=f13,d_0d:=fnS "date_of" "date_of" s_0d .none kV13 dc13 pm13 an13 cd13 ct13,
   a_0e:=f14,d_0e:=fnS "show_date" "show_date" s_0e .none kV14 dc14 pm14 an14 cd14 ct14,
   a_0f:=f15,d_0f:=fnS "read_figures" "read_figures" s_0f .none kV15 dc15 pm15 an15 cd15 ct15,
   a_0g:=f16,d_0g:=fnS "read_date" "read_date" s_0g .none kV16 dc16 pm16 an16 cd16 ct16,
   a_0h:=f17,d_0h:=fnS "show_amount" "show_amount" s_0h (.ref T17) kV17 dc17 pm17 an17 cd17 ct17,
   a_0i:=f18,d_0i:=fnS "only_figures" "only_figures" s_0i .none kV18 dc18 pm18 an18 cd18 ct18,
   a_0j:=f19,d_0j:=fnS "read_amount" "read_amount" s_0j (.ref T19) kV19 dc19 pm19 an19 cd19 ct19,
   a_0k:=f20,d_0k:=fnS "is_number" "is_number" s_0k .none kV20 dc20 pm20 an20 cd20 ct20,
   a_0l:=f21,d_0l:=fnS "fits_word" "fits_word" s_0l .none kV21 dc21 pm21 an21 cd21 ct21,
   a_0m:=f22,d_0m:=fnS "fits_form" "fits_form" s_0m .none kV22 dc22 pm22 an22 cd22 ct22,
   a_0n:=f23,d_0n:=fnS "show_plan" "show_plan" s_0n .none kV23 dc23 pm23 an23 cd23 ct23,
   a_0o:=f24,d_0o:=fnS "show_account" "show_account" s_0o .none kV24 dc24 pm24 an24 cd24 ct24,
   a_0p:=f25,d_0p:=fnS "fits_places" "fits_places" s_0p .none kV25 dc25 pm25 an25 cd25 ct25,
   a_0q:=f26,d_0q:=fnS "fits_cycle" "fits_cycle" s_0q .none kV26 dc26 pm26 an26 cd26 ct26,
   a_0r:=f27,d_0r:=fnS "fits_plan" "fits_plan" s_0r .none kV27 dc27 pm27 an27 cd27 ct27,
   a_0s:=f28,d_0s:=fnS "fits_lines" "fits_lines" s_0s .none kV28 dc28 pm28 an28 cd28 ct28,
   a_0t:=f29,d_0t:=fnS "read_plan" "read_plan" s_0t .none kV29 dc29 pm29 an29 cd29 ct29,
   a_0u:=f30,d_0u:=fnS "read_account" "read_account" s_0u .none kV30 dc30 pm30 an30 cd30 ct30,
   a_0v:=f31,d_0v:=fnS "_law_cell_at" "_law_cell_at" s_0v .none kV31 dc31 pm31 an31 cd31 ct31,
   a_0w:=f32,d_0w:=fnS "_law_rich" "_law_rich" s_0w .none kV32 dc32 pm32 an32 cd32 ct32,
   a_0x:=f33,d_0x:=fnS "_law_digits" "_law_digits" s_0x .none kV33 dc33 pm33 an33 cd33 ct33,
   a_0y:=f34,d_0y:=fnS "_law_digit" "_law_digit" s_0y .none kV34 dc34 pm34 an34 cd34 ct34,
   a_0z:=f35,d_0z:=fnS "_law_name" "_law_name" s_0z .none kV35 dc35 pm35 an35 cd35 ct35,
   a_10:=f36,d_10:=fnS "_law_plan" "_law_plan" s_10 .none kV36 dc36 pm36 an36 cd36 ct36,
   a_11:=f37,d_11:=fnS "_law_first" "_law_first" s_11 .none kV37 dc37 pm37 an37 cd37 ct37,
   a_12:=f38,d_12:=fnS "_law_account" "_law_account" s_12 .none kV38 dc38 pm38 an38 cd38 ct38,
   a_13:=f39,d_13:=fnS "_law_text" "_law_text" s_13 .none kV39 dc39 pm39 an39 cd39 ct39,
   a_14:=f40,d_14:=fnS "_law_whole" "_law_whole" s_14 .none kV40 dc40 pm40 an40 cd40 ct40,
   a_15:=f41,d_15:=fnS "_law_same" "_law_same" s_15 .none kV41 dc41 pm41 an41 cd41 ct41,
   a_16:=f42,d_16:=fnS "_law_right" "_law_right" s_16 .none kV42 dc42 pm42 an42 cd42 ct42,
   a_17:=f43,d_17:=fnS "law" "law" s_17 .none kV43 dc43 pm43 an43 cd43 ct43,
   c_Z0l:=C_Z0l,
   c_Z0i:=C_Z0i,
   c_Z0h:=C_Z0h,
   c_Z0g:=C_Z0g,
   c_Z0j:=C_Z0j},
  {mg_00:=mg_of X G ha0,
   fn_00:=zaj (st:=s_00) hl0 hc0 hk0,
   b_00:=(zaj (st:=s_00) hl0 hc0 hk0).binds fun _ _ _ _ _ _=>zcz fun _=>rfl,
   mg_01:=mg_of X G ha1,
   fn_01:=zaj (st:=s_01) hl1 hc1 hk1,
   b_01:=(zaj (st:=s_01) hl1 hc1 hk1).binds fun _ _ _ _ _ _=>zks fun _ _ _=>rfl,
   mg_02:=mg_of X G ha2,
   fn_02:=zaj (st:=s_02) hl2 hc2 hk2,
   b_02:=(zaj (st:=s_02) hl2 hc2 hk2).binds fun _ _ _ _ _ _=>zcz fun _=>rfl,
   mg_03:=mg_of X G ha3,
   fn_03:=zaj (st:=s_03) hl3 hc3 hk3,
   b_03:=(zaj (st:=s_03) hl3 hc3 hk3).binds fun _ _ _ _ _ _=>zcz fun _=>rfl,
   mg_04:=mg_of X G ha4,
   fn_04:=zaj (st:=s_04) hl4 hc4 hk4,
   b_04:=(zaj (st:=s_04) hl4 hc4 hk4).binds fun _ _ _ _ _ _=>zcz fun _=>rfl,
   mg_05:=mg_of X G ha5,
   fn_05:=zaj (st:=s_05) hl5 hc5 hk5,
   b_05:=(zaj (st:=s_05) hl5 hc5 hk5).binds fun _ _ _ _ _ _=>zcz fun _=>rfl,
   mg_06:=mg_of X G ha6,
   fn_06:=zaj (st:=s_06) hl6 hc6 hk6,
   b_06:=(zaj (st:=s_06) hl6 hc6 hk6).binds fun _ _ _ _ _ _=>zcz fun _=>rfl,
   mg_07:=mg_of X G ha7,
   fn_07:=zaj (st:=s_07) hl7 hc7 hk7,
   b_07:=(zaj (st:=s_07) hl7 hc7 hk7).binds fun _ _ _ _ _ _=>zcz fun _=>rfl,
   mg_08:=mg_of X G ha8,
   fn_08:=zaj (st:=s_08) hl8 hc8 hk8,
   b_08:=(zaj (st:=s_08) hl8 hc8 hk8).binds fun _ _ _ _ _ _=>zcz fun _=>rfl,
   mg_09:=mg_of X G ha9,
   fn_09:=zaj (st:=s_09) hl9 hc9 hk9,
   b_09:=(zaj (st:=s_09) hl9 hc9 hk9).binds fun _ _ _ _ _ _=>zdw fun _ _=>rfl,
   mg_0a:=mg_of X G ha10,
   fn_0a:=zaj (st:=s_0a) hl10 hc10 hk10,
   b_0a:=(zaj (st:=s_0a) hl10 hc10 hk10).binds fun _ _ _ _ _ _=>zcz fun _=>rfl,
   mg_0b:=mg_of X G ha11,
   fn_0b:=zaj (st:=s_0b) hl11 hc11 hk11,
   b_0b:=(zaj (st:=s_0b) hl11 hc11 hk11).binds fun _ _ _ _ _ _=>zks fun _ _ _=>rfl,
   mg_0c:=mg_of X G ha12,
   fn_0c:=zaj (st:=s_0c) hl12 hc12 hk12,
   b_0c:=(zaj (st:=s_0c) hl12 hc12 hk12).binds fun _ _ _ _ _ _=>zcz fun _=>rfl,
   mg_0d:=mg_of X G ha13,
   fn_0d:=zaj (st:=s_0d) hl13 hc13 hk13,
   b_0d:=(zaj (st:=s_0d) hl13 hc13 hk13).binds fun _ _ _ _ _ _=>zcz fun _=>rfl,
   mg_0e:=mg_of X G ha14,
   fn_0e:=zaj (st:=s_0e) hl14 hc14 hk14,
   b_0e:=(zaj (st:=s_0e) hl14 hc14 hk14).binds fun _ _ _ _ _ _=>zcz fun _=>rfl,
   mg_0f:=mg_of X G ha15,
   fn_0f:=zaj (st:=s_0f) hl15 hc15 hk15,
   b_0f:=(zaj (st:=s_0f) hl15 hc15 hk15).binds fun _ _ _ _ _ _=>zcz fun _=>rfl,
   mg_0g:=mg_of X G ha16,
   fn_0g:=zaj (st:=s_0g) hl16 hc16 hk16,
   b_0g:=(zaj (st:=s_0g) hl16 hc16 hk16).binds fun _ _ _ _ _ _=>zcz fun _=>rfl,
   mg_0h:=mg_of X G ha17,
   fn_0h:=zgX (st:=s_0h) hl17 hc17 hk17,
   b_0h:=ze7 fun s u v hk=> .of_defaults rfl (hk _ _ ht17) rfl rfl rfl,
   bd_0h:=⟨_,zez fun s u hk=> .of_defaults rfl (hk _ _ ht17) rfl rfl rfl⟩,
   kb_0h:=zey fun s u v hk=> .of_defaults rfl (hk _ _ ht17) rfl rfl rfl,
   mg_0i:=mg_of X G ha18,
   fn_0i:=zaj (st:=s_0i) hl18 hc18 hk18,
   b_0i:=(zaj (st:=s_0i) hl18 hc18 hk18).binds fun _ _ _ _ _ _=>zcz fun _=>rfl,
   mg_0j:=mg_of X G ha19,
   fn_0j:=zgX (st:=s_0j) hl19 hc19 hk19,
   b_0j:=ze7 fun s u v hk=> .of_defaults rfl (hk _ _ ht19) rfl rfl rfl,
   bd_0j:=⟨_,zez fun s u hk=> .of_defaults rfl (hk _ _ ht19) rfl rfl rfl⟩,
   kb_0j:=zey fun s u v hk=> .of_defaults rfl (hk _ _ ht19) rfl rfl rfl,
   mg_0k:=mg_of X G ha20,
   fn_0k:=zaj (st:=s_0k) hl20 hc20 hk20,
   b_0k:=(zaj (st:=s_0k) hl20 hc20 hk20).binds fun _ _ _ _ _ _=>zcz fun _=>rfl,
   mg_0l:=mg_of X G ha21,
   fn_0l:=zaj (st:=s_0l) hl21 hc21 hk21,
   b_0l:=(zaj (st:=s_0l) hl21 hc21 hk21).binds fun _ _ _ _ _ _=>zdw fun _ _=>rfl,
   mg_0m:=mg_of X G ha22,
   fn_0m:=zaj (st:=s_0m) hl22 hc22 hk22,
   b_0m:=(zaj (st:=s_0m) hl22 hc22 hk22).binds fun _ _ _ _ _ _=>zdw fun _ _=>rfl,
   mg_0n:=mg_of X G ha23,
   fn_0n:=zaj (st:=s_0n) hl23 hc23 hk23,
   b_0n:=(zaj (st:=s_0n) hl23 hc23 hk23).binds fun _ _ _ _ _ _=>zdw fun _ _=>rfl,
   mg_0o:=mg_of X G ha24,
   fn_0o:=zaj (st:=s_0o) hl24 hc24 hk24,
   b_0o:=(zaj (st:=s_0o) hl24 hc24 hk24).binds fun _ _ _ _ _ _=>zdw fun _ _=>rfl,
   mg_0p:=mg_of X G ha25,
   fn_0p:=zaj (st:=s_0p) hl25 hc25 hk25,
   b_0p:=(zaj (st:=s_0p) hl25 hc25 hk25).binds fun _ _ _ _ _ _=>zcz fun _=>rfl,
   mg_0q:=mg_of X G ha26,
   fn_0q:=zaj (st:=s_0q) hl26 hc26 hk26,
   b_0q:=(zaj (st:=s_0q) hl26 hc26 hk26).binds fun _ _ _ _ _ _=>zcz fun _=>rfl,
   mg_0r:=mg_of X G ha27,
   fn_0r:=zaj (st:=s_0r) hl27 hc27 hk27,
   b_0r:=(zaj (st:=s_0r) hl27 hc27 hk27).binds fun _ _ _ _ _ _=>zcz fun _=>rfl,
   mg_0s:=mg_of X G ha28,
   fn_0s:=zaj (st:=s_0s) hl28 hc28 hk28,
   b_0s:=(zaj (st:=s_0s) hl28 hc28 hk28).binds fun _ _ _ _ _ _=>zcz fun _=>rfl,
   mg_0t:=mg_of X G ha29,
   fn_0t:=zaj (st:=s_0t) hl29 hc29 hk29,
   b_0t:=(zaj (st:=s_0t) hl29 hc29 hk29).binds fun _ _ _ _ _ _=>zdw fun _ _=>rfl,
   mg_0u:=mg_of X G ha30,
   fn_0u:=zaj (st:=s_0u) hl30 hc30 hk30,
   b_0u:=(zaj (st:=s_0u) hl30 hc30 hk30).binds fun _ _ _ _ _ _=>zcz fun _=>rfl,
   mg_0v:=mg_of X G ha31,
   fn_0v:=zaj (st:=s_0v) hl31 hc31 hk31,
   b_0v:=(zaj (st:=s_0v) hl31 hc31 hk31).binds fun _ _ _ _ _ _=>zdw fun _ _=>rfl,
   mg_0w:=mg_of X G ha32,
   fn_0w:=zaj (st:=s_0w) hl32 hc32 hk32,
   b_0w:=(zaj (st:=s_0w) hl32 hc32 hk32).binds fun _ _ _ _ _ _=>zdw fun _ _=>rfl,
   mg_0x:=mg_of X G ha33,
   fn_0x:=zaj (st:=s_0x) hl33 hc33 hk33,
   b_0x:=(zaj (st:=s_0x) hl33 hc33 hk33).binds fun _ _ _ _ _ _=>zks fun _ _ _=>rfl,
   mg_0y:=mg_of X G ha34,
   fn_0y:=zaj (st:=s_0y) hl34 hc34 hk34,
   b_0y:=(zaj (st:=s_0y) hl34 hc34 hk34).binds fun _ _ _ _ _ _=>zdw fun _ _=>rfl,
   mg_0z:=mg_of X G ha35,
   fn_0z:=zaj (st:=s_0z) hl35 hc35 hk35,
   b_0z:=(zaj (st:=s_0z) hl35 hc35 hk35).binds fun _ _ _ _ _ _=>zdw fun _ _=>rfl,
   mg_10:=mg_of X G ha36,
   fn_10:=zaj (st:=s_10) hl36 hc36 hk36,
   b_10:=(zaj (st:=s_10) hl36 hc36 hk36).binds fun _ _ _ _ _ _=>zdw fun _ _=>rfl,
   mg_11:=mg_of X G ha37,
   fn_11:=zaj (st:=s_11) hl37 hc37 hk37,
   b_11:=(zaj (st:=s_11) hl37 hc37 hk37).binds fun _ _ _ _ _ _=>zcz fun _=>rfl,
   mg_12:=mg_of X G ha38,
   fn_12:=zaj (st:=s_12) hl38 hc38 hk38,
   b_12:=(zaj (st:=s_12) hl38 hc38 hk38).binds fun _ _ _ _ _ _=>zdw fun _ _=>rfl,
   mg_13:=mg_of X G ha39,
   fn_13:=zaj (st:=s_13) hl39 hc39 hk39,
   b_13:=(zaj (st:=s_13) hl39 hc39 hk39).binds fun _ _ _ _ _ _=>zdw fun _ _=>rfl,
   mg_14:=mg_of X G ha40,
   fn_14:=zaj (st:=s_14) hl40 hc40 hk40,
   b_14:=(zaj (st:=s_14) hl40 hc40 hk40).binds fun _ _ _ _ _ _=>zcz fun _=>rfl,
   mg_15:=mg_of X G ha41,
   fn_15:=zaj (st:=s_15) hl41 hc41 hk41,
   b_15:=(zaj (st:=s_15) hl41 hc41 hk41).binds fun _ _ _ _ _ _=>zdw fun _ _=>rfl,
   mg_16:=mg_of X G ha42,
   fn_16:=zaj (st:=s_16) hl42 hc42 hk42,
   b_16:=(zaj (st:=s_16) hl42 hc42 hk42).binds fun _ _ _ _ _ _=>zdw fun _ _=>rfl,
   mg_17:=mg_of X G ha43,
   fn_17:=zaj (st:=s_17) hl43 hc43 hk43,
   b_17:=(zaj (st:=s_17) hl43 hc43 hk43).binds fun _ _ _ _ _ _=>zcz fun _=>rfl,
   mg_Z0l:=mg_of X G g_Z0l,
   cl_Z0l:=⟨by rw[gc_Z0l];rfl,gt_Z0l,gm_Z0l⟩,
   mg_Z0i:=mg_of X G g_Z0i,
   cl_Z0i:=⟨by rw[gc_Z0i];rfl,gt_Z0i,gm_Z0i⟩,
   mg_Z0h:=mg_of X G g_Z0h,
   cl_Z0h:=⟨by rw[gc_Z0h];rfl,gt_Z0h,gm_Z0h⟩,
   mg_Z0g:=mg_of X G g_Z0g,
   cl_Z0g:=⟨by rw[gc_Z0g];rfl,gt_Z0g,gm_Z0g⟩,
   mg_Z0j:=mg_of X G g_Z0j,
   cl_Z0j:=⟨by rw[gc_Z0j];rfl,gt_Z0j,gm_Z0j⟩,
   ex_Z0g:=⟨_,_,_,PySem.F.excBase_ValueError,gx_Z0g⟩,
   ex_Z0i:=⟨_,_,_,PySem.F.excBase_ValueError,gx_Z0i⟩,
   ex_Z0h:=⟨_,_,_,PySem.F.excBase_ValueError,gx_Z0h⟩,
   ex_Z0j:=⟨_,_,_,PySem.F.excBase_ValueError,gx_Z0j⟩,
   k_Z06:=⟨_,mg_of X G k_Z06,⟨tk_Z06,congrArg (Value.str · tk_Z06) (by decide+kernel)⟩⟩,
   k_Z0c:=⟨_,mg_of X G k_Z0c,⟨_,rfl⟩⟩,
   k_Z0f:=⟨_,mg_of X G k_Z0f,⟨_,rfl⟩⟩,
   k_Z08:=⟨_,mg_of X G k_Z08,⟨_,rfl⟩⟩,
   k_Z04:=⟨_,mg_of X G k_Z04,⟨_,rfl⟩⟩,
   k_Z09:=⟨_,mg_of X G k_Z09,⟨_,rfl⟩⟩,
   k_Z0d:=⟨_,mg_of X G k_Z0d,⟨_,rfl⟩⟩,
   k_Z05:=⟨_,mg_of X G k_Z05,⟨_,rfl⟩⟩,
   k_Z03:=⟨_,mg_of X G k_Z03,⟨_,rfl⟩⟩,
   k_Z07:=⟨A_Z07,mg_of X G k_Z07,fun H=> .inr ⟨_,its_Z07,n_Z07,kl_Z07,rfl,rfl,kz_Z07,kv_Z07⟩⟩,
   k_Z0k:=⟨_,mg_of X G k_Z0k,⟨_,rfl⟩⟩,
   k_Z02:=⟨_,mg_of X G k_Z02,⟨_,rfl⟩⟩,
   k_Z01:=⟨_,mg_of X G k_Z01,⟨_,rfl⟩⟩,
   k_Z0m:=⟨_,mg_of X G k_Z0m,⟨_,rfl⟩⟩,
   k_Z00:=⟨_,mg_of X G k_Z00,⟨tk_Z00,congrArg (Value.str · tk_Z00) (by decide+kernel)⟩⟩,
   k_Z0a:=⟨_,mg_of X G k_Z0a,⟨_,rfl⟩⟩,
   k_Z0b:=⟨_,mg_of X G k_Z0b,⟨_,rfl⟩⟩,
   k_Z0e:=⟨_,mg_of X G k_Z0e,⟨_,rfl⟩⟩,
   no_isinstance:=mg_none_of X G z_isinstance,
   no_int:=mg_none_of X G z_int,
   no_bool:=mg_none_of X G z_bool,
   no_str:=mg_none_of X G z_str,
   no_len:=mg_none_of X G z_len,
   no_range:=mg_none_of X G z_range,
   no_divmod:=mg_none_of X G z_divmod,
   no_min:=mg_none_of X G z_min,
   no_abs:=mg_none_of X G z_abs,
   no_all:=mg_none_of X G z_all,
   no_zip:=mg_none_of X G z_zip,
   no_any:=mg_none_of X G z_any,
   no_list:=mg_none_of X G z_list,
   no_tuple:=mg_none_of X G z_tuple,
   xc_NoAccount:=⟨by rw[gc_Z0g];rfl,xga_NoAccount,xgt_NoAccount,xcl_NoAccount,xmo_NoAccount,xmb_NoAccount⟩,
   m_NoAccount_SpanError:=m_NoAccount_SpanError,
   m_NoAccount_NoDate:=m_NoAccount_NoDate,
   m_NoAccount_NoAmount:=m_NoAccount_NoAmount,
   m_NoAccount_NoAccount:=m_NoAccount_NoAccount,
   m_NoAccount_NoText:=m_NoAccount_NoText,
   m_NoAccount_ValueError:=m_NoAccount_ValueError,
   m_SpanError_BaseException:=m_SpanError_BaseException}⟩
theorem bind_law{K:Fg}{mg:Str→Option Value}{t:Adr}(T:Txt K mg t): ∀(s:Shared) (u:Value),BindsTo s t.d_17 ⟨[u], []⟩ [("_law_script",u)]:=by
 obtain⟨oc,od,kV,doc,pm,an,cdv,ct,osl,e,lk,hcd⟩:=T.fn_17.ex;intro s u;rw[e];exact .of_eq rfl
theorem walk{l:PySem.W.OpenLaw}{q:Program}{loose:List Str}{XP:(Str→Option Value)→Heap→Prop}{YP:World→Heap→Prop}{d:DefRec}{K:Params→Fg}(hn:l.most=some 63)(hdf:d.params.defaults= [])
  (hY: ∀(w:World) (h:Heap),YP w h→(K w.params).In h)
  (F: ∀(w:World) (mg:Str→Option Value) (fa:Addr) (h:Heap),(K w.params).In h→h.Ns mainGlobals mg→mg d.name=some (.ref fa)→
   ∃fd:FuncData,(∀(s:Shared) (u:Value),BindsTo s fd ⟨[u], []⟩ [("_law_script",u)])∧ ∀base:Heap,(K w.params).In base→base.Ns mainGlobals mg→FnOk l.prog w (K w.params) mg base (CXE l.prog w) 30 fa fd ["_law_script"] (ziG (K w.params))):
  PySem.W.WalkO q loose XP YP l.row.toRowW d [] (fun f vs=>PySem.call f vs):=
 L2.walk_of (n:=63) (k:=30) (x:="_law_script") (CX:=fun w=>CXE l.prog w) (sp:=fun w=>ziG (K w.params)) hn (by decide) hdf ⟨rfl,by decide,by decide⟩ hY F (fun _ _ a ns hl _ hS=>⟨a,ns,rfl,hS,hl,fun _=>rfl⟩) fun _ _ _ _ _ ⟨_,_,_,_,_,z⟩=>z
end K80
namespace PySem.W.Fast
theorem tw18064359761643317368:True:=⟨⟩
theorem tw1161470274960862006:True:=⟨⟩
theorem tw16442405179476100474:True:=⟨⟩
theorem tw14101962029789313307:True:=⟨⟩
theorem tw15416362410730615659:True:=⟨⟩
theorem tw7039225261409005831:True:=⟨⟩
theorem tw8354387679938526161:True:=⟨⟩
theorem tw5089543905818165105:True:=⟨⟩
theorem tw12841297668416773001:True:=⟨⟩
theorem tw15904675471736074618:True:=⟨⟩
theorem tw939210816898857761:True:=⟨⟩
theorem tw8676142148751101692:True:=⟨⟩
theorem tw14999817371548869512:True:=⟨⟩
theorem tw16569795128345642843:True:=⟨⟩
theorem tw4665343030897032373:True:=⟨⟩
theorem tw380939761751725574:True:=⟨⟩
theorem tw5175372937116252925:True:=⟨⟩
theorem tw986409488928748567:True:=⟨⟩
theorem tw2560907360294852194:True:=⟨⟩
theorem tw6755140163809686718:True:=⟨⟩
theorem tw8353157942476455351:True:=⟨⟩
theorem tw4065364643383364790:True:=⟨⟩
theorem tw5920817894008671773:True:=⟨⟩
theorem tw11127657753394582611:True:=⟨⟩
theorem tw356142197826615684:True:=⟨⟩
theorem tw10133646762839612988:True:=⟨⟩
theorem tw7930379069662428298:True:=⟨⟩
theorem tw17192861399692070595:True:=⟨⟩
theorem tw16126877009282517515:True:=⟨⟩
theorem tw5348868256384852371:True:=⟨⟩
theorem tw2601801252397705527:True:=⟨⟩
theorem tw17436430244524935635:True:=⟨⟩
theorem tw13455648282988812721:True:=⟨⟩
theorem tw686478365415545931:True:=⟨⟩
theorem tw10968042557108670210:True:=⟨⟩
theorem tw8404409416467506857:True:=⟨⟩
theorem tw6128149404536077972:True:=⟨⟩
theorem tw16013797613862415341:True:=⟨⟩
theorem tw4387688531390209552:True:=⟨⟩
theorem tw9323507018806251072:True:=⟨⟩
theorem tw6643872673169178789:True:=⟨⟩
theorem tw5159578792465124276:True:=⟨⟩
theorem tw231324827686718696:True:=⟨⟩
theorem tw10032687114772336503:True:=⟨⟩
theorem tw7861314148000170518:True:=⟨⟩
theorem tw3948485168088109419:True:=⟨⟩
theorem tw14696371746147485495:True:=⟨⟩
theorem tw14019630356757418385:True:=⟨⟩
theorem tw17460796315169761815:True:=⟨⟩
theorem tw14418713695829077047:True:=⟨⟩
theorem tw12705400880761261885:True:=⟨⟩
theorem tw308181389158434808:True:=⟨⟩
theorem tw17682451813124373257:True:=⟨⟩
theorem tw2877782882633103747:True:=⟨⟩
theorem tw467475016161497292:True:=⟨⟩
theorem tw7500460562129304784:True:=⟨⟩
theorem tw1414420579553955973:True:=⟨⟩
theorem tw9431165549607918018:True:=⟨⟩
theorem tw10676774817871048540:True:=⟨⟩
theorem tw17435254137951268014:True:=⟨⟩
theorem tw4919985513187742325:True:=⟨⟩
theorem tw5323375579158978961:True:=⟨⟩
theorem tw3502292481074063461:True:=⟨⟩
theorem tw7003033289826366488:True:=⟨⟩
theorem tw2764079532285201435:True:=⟨⟩
theorem tw14890343373913921557:True:=⟨⟩
theorem tw12230130856496664526:True:=⟨⟩
theorem tw15369359400105305746:True:=⟨⟩
theorem tw11012031240571721379:True:=⟨⟩
theorem tw11440179467552287203:True:=⟨⟩
theorem tw16446860137431266518:True:=⟨⟩
theorem tw6675759784858312874:True:=⟨⟩
theorem tw6557277978286836536:True:=⟨⟩
theorem tw1482309498572348660:True:=⟨⟩
theorem tw3076264782043635389:True:=⟨⟩
theorem tw18351457876234082287:True:=⟨⟩
theorem tw1541429259683569038:True:=⟨⟩
theorem tw8725520503199312345:True:=⟨⟩
theorem tw6265964149016370749:True:=⟨⟩
theorem tw9719207962055827051:True:=⟨⟩
theorem tw12568352192575146374:True:=⟨⟩
theorem tw8394286499874788643:True:=⟨⟩
theorem tw17243692057753416210:True:=⟨⟩
theorem tw9911507250264154827:True:=⟨⟩
theorem tw6484356203454733752:True:=⟨⟩
theorem tw16902162076949242292:True:=⟨⟩
theorem tw12080906520545527921:True:=⟨⟩
theorem tw217002092590629210:True:=⟨⟩
theorem tw7758008348435578443:True:=⟨⟩
theorem tw635309113389273569:True:=⟨⟩
theorem tw7893127717637730130:True:=⟨⟩
theorem tw14277927526402523517:True:=⟨⟩
theorem tw12896506485078740918:True:=⟨⟩
theorem tw5214346864057860535:True:=⟨⟩
theorem tw1691716667531149432:True:=⟨⟩
theorem tw2419854447647435182:True:=⟨⟩
theorem tw7840957641821203583:True:=⟨⟩
theorem tw16235801363665370027:True:=⟨⟩
theorem tw10618223611847954109:True:=⟨⟩
theorem tw84442137323257846:True:=⟨⟩
theorem tw4573314864550538272:True:=⟨⟩
theorem tw10037988846398995318:True:=⟨⟩
theorem tw17376905157347621316:True:=⟨⟩
theorem tw256836505844153167:True:=⟨⟩
theorem tw4751046802686580235:True:=⟨⟩
theorem tw3753930463885408257:True:=⟨⟩
theorem tw1849590452211265789:True:=⟨⟩
theorem tw17202457848037975672:True:=⟨⟩
theorem tw1809473832784074857:True:=⟨⟩
theorem tw10428097777442210995:True:=⟨⟩
theorem tw12667415815705797562:True:=⟨⟩
theorem tw17790629095581254355:True:=⟨⟩
theorem tw6673852865836722770:True:=⟨⟩
theorem tw16040782225512809915:True:=⟨⟩
theorem tw2174155265687226202:True:=⟨⟩
theorem tw3408852606121433610:True:=⟨⟩
theorem tw18215485186112522874:True:=⟨⟩
theorem tw16053830800014534758:True:=⟨⟩
theorem tw3172173178631795051:True:=⟨⟩
theorem tw1112949880830095399:True:=⟨⟩
theorem tw8074376358590823374:True:=⟨⟩
theorem tw15527139571758164835:True:=⟨⟩
theorem tw14350548568192281954:True:=⟨⟩
theorem tw2566011668257560448:True:=⟨⟩
theorem tw16313492429602614342:True:=⟨⟩
theorem tw1721044720992893593:True:=⟨⟩
theorem tw6855102933533040737:True:=⟨⟩
theorem tw17351922672189362219:True:=⟨⟩
theorem tw6044550850531843122:True:=⟨⟩
theorem tw13269302284185058147:True:=⟨⟩
theorem tw13187537106071714470:True:=⟨⟩
theorem tw14192899340193702463:True:=⟨⟩
theorem tw4521953830697083149:True:=⟨⟩
theorem tw16365434958814694267:True:=⟨⟩
theorem tw17902193473144158061:True:=⟨⟩
theorem tw3047998632930167768:True:=⟨⟩
theorem tw3715181252111272573:True:=⟨⟩
theorem tw16071861568185391882:True:=⟨⟩
theorem tw8717102098885186682:True:=⟨⟩
theorem tw6721772143568072125:True:=⟨⟩
theorem tw13638196704278420763:True:=⟨⟩
theorem tw6354716846898432061:True:=⟨⟩
theorem tw8817407467873009744:True:=⟨⟩
theorem tw14331887500436569404:True:=⟨⟩
theorem tw12612651129325229644:True:=⟨⟩
theorem tw1401204785545568311:True:=⟨⟩
theorem tw4418467896167221111:True:=⟨⟩
theorem tw5119278629473851410:True:=⟨⟩
theorem tw1113172262991336709:True:=⟨⟩
theorem tw3797708787518419636:True:=⟨⟩
theorem tw808253540149065559:True:=⟨⟩
theorem tw16690159271139208400:True:=⟨⟩
theorem tw18201773433327094275:True:=⟨⟩
theorem tw1051012550132005611:True:=⟨⟩
theorem tw733701573268593011:True:=⟨⟩
theorem tw8233435520239238150:True:=⟨⟩
theorem tw7502038621853437438:True:=⟨⟩
theorem tw1262540646370052041:True:=⟨⟩
theorem tw11725106620766036473:True:=⟨⟩
theorem tw7714083289998408371:True:=⟨⟩
theorem tw10748989983284839359:True:=⟨⟩
theorem tw15770237646729203187:True:=⟨⟩
theorem tw8334527441555652057:True:=⟨⟩
theorem tw12600944898972178509:True:=⟨⟩
theorem tw12564383163160934816:True:=⟨⟩
theorem tw10955994652996206504:True:=⟨⟩
theorem tw16061044960952858640:True:=⟨⟩
theorem tw3320841855112489774:True:=⟨⟩
theorem tw1523313934697792457:True:=⟨⟩
theorem tw1094793967988379078:True:=⟨⟩
theorem tw18031045551521608418:True:=⟨⟩
theorem tw370853331958456410:True:=⟨⟩
theorem tw813754443802350268:True:=⟨⟩
theorem tw5975187464316604627:True:=⟨⟩
theorem tw3238614392653465246:True:=⟨⟩
theorem tw2524122780849614329:True:=⟨⟩
theorem tw9412130402828810846:True:=⟨⟩
theorem tw16002043385759089708:True:=⟨⟩
theorem tw16335322381196913144:True:=⟨⟩
theorem tw687435534234297370:True:=⟨⟩
theorem tw14830808730258884467:True:=⟨⟩
theorem tw16843858408387330274:True:=⟨⟩
theorem tw13616526110900765257:True:=⟨⟩
theorem tw11806020329640653241:True:=⟨⟩
theorem tw9080089299254545975:True:=⟨⟩
theorem tw12002557677557417329:True:=⟨⟩
theorem tw15893776991341477543:True:=⟨⟩
theorem tw8064373511380329926:True:=⟨⟩
theorem tw15894884568401084824:True:=⟨⟩
theorem tw672066060266444016:True:=⟨⟩
theorem tw1463447176119233067:True:=⟨⟩
theorem tw7399372013966473557:True:=⟨⟩
theorem tw18153347579762507957:True:=⟨⟩
theorem tw4049311280310195956:True:=⟨⟩
theorem tw12606140312452793947:True:=⟨⟩
theorem tw14585110349159707380:True:=⟨⟩
theorem tw7238831446776103038:True:=⟨⟩
theorem tw12972823519874196933:True:=⟨⟩
theorem tw5843385615304193259:True:=⟨⟩
theorem tw13804226860459847095:True:=⟨⟩
theorem tw2878890091335043371:True:=⟨⟩
theorem tw2391392470344909657:True:=⟨⟩
theorem tw6402802062857238139:True:=⟨⟩
theorem tw4830220531875191570:True:=⟨⟩
theorem tw10417561452698846130:True:=⟨⟩
theorem tw9549193701263082538:True:=⟨⟩
theorem tw11215463781099911386:True:=⟨⟩
theorem tw16749117088964591563:True:=⟨⟩
theorem tw15977060406958252849:True:=⟨⟩
theorem tw6171960094214158060:True:=⟨⟩
theorem tw5484265148367034554:True:=⟨⟩
set_option maxRecDepth 100000 in
def tw9094438216927582866:PySem.Program:=PySem.Challenge.pw_paidspan_k80_accounts_written
set_option maxRecDepth 100000 in
theorem te9094438216927582866:PySem.Challenge.pw_paidspan_k80_accounts_written=tw9094438216927582866:=rfl
end PySem.W.Fast
open PySem PySem.W PyProof.Rows
set_option maxRecDepth 100000 in
set_option maxHeartbeats 0 in
theorem PySem.Challenge.cw_paidspan_k80_accounts_written_holds : PySem.Challenge.rw_paidspan_k80_accounts_written.Holds := by
 w_on;o_law;k_head;(case hw=>w_witness2)
 k_fill
 refine K80.walk (l:=PySem.Challenge.rw_paidspan_k80_accounts_written) rfl rfl (fun w h Y=>PySem.W.kIn_of Y) ?F
 case F=>
  intro w mg fa h KX G hmg
  have T: ∃t,K80.Txt (L2.KOf KX) mg t:=by
   dsimp only[L2.KOf]
   refine' K80.txt_mk KX G ?ha0 ?hl0 ?hc0 ?hk0 ?ha1 ?hl1 ?hc1 ?hk1 ?ha2 ?hl2 ?hc2 ?hk2 ?ha3 ?hl3 ?hc3 ?hk3 ?ha4 ?hl4 ?hc4 ?hk4 ?ha5 ?hl5 ?hc5 ?hk5 ?ha6 ?hl6 ?hc6 ?hk6 ?ha7 ?hl7 ?hc7 ?hk7 ?ha8 ?hl8 ?hc8 ?hk8 ?ha9 ?hl9 ?hc9 ?hk9 ?ha10 ?hl10 ?hc10 ?hk10 ?ha11 ?hl11 ?hc11 ?hk11 ?ha12 ?hl12 ?hc12 ?hk12 ?ha13 ?hl13 ?hc13 ?hk13 ?ha14 ?hl14 ?hc14 ?hk14 ?ha15 ?hl15 ?hc15 ?hk15 ?ha16 ?hl16 ?hc16 ?hk16 ?ha17 ?hl17 ?hc17 ?hk17 ?ht17 ?ha18 ?hl18 ?hc18 ?hk18 ?ha19 ?hl19 ?hc19 ?hk19 ?ht19 ?ha20 ?hl20 ?hc20 ?hk20 ?ha21 ?hl21 ?hc21 ?hk21 ?ha22 ?hl22 ?hc22 ?hk22 ?ha23 ?hl23 ?hc23 ?hk23 ?ha24 ?hl24 ?hc24 ?hk24 ?ha25 ?hl25 ?hc25 ?hk25 ?ha26 ?hl26 ?hc26 ?hk26 ?ha27 ?hl27 ?hc27 ?hk27 ?ha28 ?hl28 ?hc28 ?hk28 ?ha29 ?hl29 ?hc29 ?hk29 ?ha30 ?hl30 ?hc30 ?hk30 ?ha31 ?hl31 ?hc31 ?hk31 ?ha32 ?hl32 ?hc32 ?hk32 ?ha33 ?hl33 ?hc33 ?hk33 ?ha34 ?hl34 ?hc34 ?hk34 ?ha35 ?hl35 ?hc35 ?hk35 ?ha36 ?hl36 ?hc36 ?hk36 ?ha37 ?hl37 ?hc37 ?hk37 ?ha38 ?hl38 ?hc38 ?hk38 ?ha39 ?hl39 ?hc39 ?hk39 ?ha40 ?hl40 ?hc40 ?hk40 ?ha41 ?hl41 ?hc41 ?hk41 ?ha42 ?hl42 ?hc42 ?hk42 ?ha43 ?hl43 ?hc43 ?hk43 ?g_Z0l ?gc_Z0l ?gt_Z0l ?gm_Z0l ?g_Z0i ?gc_Z0i ?gt_Z0i ?gm_Z0i ?g_Z0h ?gc_Z0h ?gt_Z0h ?gm_Z0h ?g_Z0g ?gc_Z0g ?gt_Z0g ?gm_Z0g ?g_Z0j ?gc_Z0j ?gt_Z0j ?gm_Z0j ?gx_Z0g ?gx_Z0i ?gx_Z0h ?gx_Z0j ?k_Z06 ?k_Z0c ?k_Z0f ?k_Z08 ?k_Z04 ?k_Z09 ?k_Z0d ?k_Z05 ?k_Z03 ?k_Z07 ?kl_Z07 ?kz_Z07 ?kv_Z07 ?k_Z0k ?k_Z02 ?k_Z01 ?k_Z0m ?k_Z00 ?k_Z0a ?k_Z0b ?k_Z0e ?z_isinstance ?z_int ?z_bool ?z_str ?z_len ?z_range ?z_divmod ?z_min ?z_abs ?z_all ?z_zip ?z_any ?z_list ?z_tuple ?xga_NoAccount ?xgt_NoAccount ?xcl_NoAccount ?xmo_NoAccount ?xmb_NoAccount ?m_NoAccount_SpanError ?m_NoAccount_NoDate ?m_NoAccount_NoAmount ?m_NoAccount_NoAccount ?m_NoAccount_NoText ?m_NoAccount_ValueError ?m_SpanError_BaseException
   (case g_Z0l|g_Z0i|g_Z0h|g_Z0g|g_Z0j|ha0|hl0|hc0=>k_is)
   (case hk0|ha1|hl1|hc1|hk1|ha2|hl2|hc2=>k_is)
   (case hk2|ha3|hl3|hc3|hk3|ha4|hl4|hc4=>k_is)
   (case hk4|ha5|hl5|hc5|hk5|ha6|hl6|hc6=>k_is)
   (case hk6|ha7|hl7|hc7|hk7|ha8|hl8|hc8=>k_is)
   (case hk8|ha9|hl9|hc9|hk9|ha10|hl10|hc10=>k_is)
   (case hk10|ha11|hl11|hc11|hk11|ha12|hl12|hc12=>k_is)
   (case hk12|ha13|hl13|hc13|hk13|ha14|hl14|hc14=>k_is)
   (case hk14|ha15|hl15|hc15|hk15|ha16|hl16|hc16=>k_is)
   (case hk16|ha17|hl17|hc17|hk17|ht17|ha18|hl18=>k_is)
   (case hc18|hk18|ha19|hl19|hc19|hk19|ht19|ha20=>k_is)
   (case hl20|hc20|hk20|ha21|hl21|hc21|hk21|ha22=>k_is)
   (case hl22|hc22|hk22|ha23|hl23|hc23|hk23|ha24=>k_is)
   (case hl24|hc24|hk24|ha25|hl25|hc25|hk25|ha26=>k_is)
   (case hl26|hc26|hk26|ha27|hl27|hc27|hk27|ha28=>k_is)
   (case hl28|hc28|hk28|ha29|hl29|hc29|hk29|ha30=>k_is)
   (case hl30|hc30|hk30|ha31|hl31|hc31|hk31|ha32=>k_is)
   (case hl32|hc32|hk32|ha33|hl33|hc33|hk33|ha34=>k_is)
   (case hl34|hc34|hk34|ha35|hl35|hc35|hk35|ha36=>k_is)
   (case hl36|hc36|hk36|ha37|hl37|hc37|hk37|ha38=>k_is)
   (case hl38|hc38|hk38|ha39|hl39|hc39|hk39|ha40=>k_is)
   (case hl40|hc40|hk40|ha41|hl41|hc41|hk41|ha42=>k_is)
   (case hl42|hc42|hk42|ha43|hl43|hc43|hk43|gc_Z0l=>k_is)
   (case gt_Z0l|gm_Z0l|gc_Z0i|gt_Z0i|gm_Z0i|gc_Z0h|gt_Z0h|gm_Z0h=>k_is)
   (case gc_Z0g|gt_Z0g|gm_Z0g|gc_Z0j|gt_Z0j|gm_Z0j=>k_is)
   (case gx_Z0g=>k_exc)
   (case gx_Z0i=>k_exc)
   (case gx_Z0h=>k_exc)
   (case gx_Z0j=>k_exc)
   (case k_Z06|k_Z0c|k_Z0f|k_Z08|k_Z04|k_Z09|k_Z0d|k_Z05=>k_is)
   (case k_Z03|k_Z07|kl_Z07=>k_is)
   (case kz_Z07=>decide)
   (case kv_Z07=>exact(.cons ⟨_,rfl⟩ (.cons ⟨_,rfl⟩ (.cons ⟨_,rfl⟩ (.cons ⟨_,rfl⟩ (.cons ⟨_,rfl⟩ (.cons ⟨_,rfl⟩ (.cons ⟨_,rfl⟩ (.cons ⟨_,rfl⟩ (.cons ⟨_,rfl⟩ (.cons ⟨_,rfl⟩ (.cons ⟨_,rfl⟩ (.cons ⟨_,rfl⟩ .nil)))))))))))))
   (case k_Z0k|k_Z02|k_Z01|k_Z0m|k_Z00|k_Z0a|k_Z0b|k_Z0e=>k_is)
   (case z_isinstance|z_int|z_bool|z_str|z_len|z_range|z_divmod|z_min=>k_is)
   (case z_abs|z_all|z_zip|z_any|z_list|z_tuple|xga_NoAccount|xgt_NoAccount=>k_is)
   (case xcl_NoAccount|xmo_NoAccount|xmb_NoAccount|m_NoAccount_SpanError|m_NoAccount_NoDate|m_NoAccount_NoAmount|m_NoAccount_NoAccount|m_NoAccount_NoText=>k_is)
   (case m_NoAccount_ValueError|m_SpanError_BaseException=>k_is)
  obtain⟨t,T⟩:=T
  have e0:=hmg.symm.trans T.mg_17
  cases e0
  refine⟨_,?b,fun base _ _=>(K80.ok_17 T).mono (by decide)⟩
  exact K80.bind_law T
