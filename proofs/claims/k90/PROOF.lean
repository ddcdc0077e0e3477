import PyProof.Rows.All
import Wide.All
import OpenK.AllK
import Wide.FinOn
import Lean
import PyProof.EqAt
import PyProof.EqKinds
import PyProof.TupleCall
import PySem.Challenge.RW_paidspan_k90_whole_money_is_kept
abbrev Ja:=@List.length_map
abbrev Jb:=@List.getElem?_eq_getElem
abbrev Jc:=@List.getElem?_eq_some_iff
abbrev Jd:=@List.map_append
abbrev Je:=@Nat.le_refl
abbrev Jf:=@if_neg
abbrev Jg:=@if_pos
abbrev Jh:=@List.getElem?_map
abbrev Ji:=@List.mem_of_getElem?
abbrev Jj:=@List.length_append
abbrev Jk:=@Option.map_eq_some_iff
abbrev Jl:=@List.mem_cons_of_mem
abbrev Jm:=@List.mem_singleton
abbrev Jn:=@List.size_toArray
abbrev Jo:=@List.getD_eq_getElem?_getD
abbrev Jp:=@List.length_cons
abbrev Jq:=@List.mem_cons_self
abbrev Jr:=@List.mem_append
abbrev Js:=@Bool.false_eq_true
abbrev Jt:=@List.append_nil
abbrev Ju:=@Bool.false_ne_true
abbrev Jv:=@Nat.zero_le
abbrev Jw:=@List.mem_map
abbrev Jx:=@Array.length_toList
abbrev Jy:=@Nat.lt_of_lt_of_le
abbrev Jz:=@Int.le_refl
abbrev JA:=@List.map_cons
abbrev JB:=@List.length_take
abbrev JC:=@List.take_length
abbrev JD:=@List.mem_cons
abbrev JE:=@Nat.le_trans
abbrev JF:=@Int.toNat_natCast
abbrev JG:=@Array.getElem?_toList
abbrev JH:=@List.take_add_one
abbrev JI:=@List.length_range
abbrev JJ:=@Int.add_zero
abbrev JK:=@Nat.ne_of_lt
abbrev JL:=@Int.emod_lt_of_pos
abbrev JM:=@List.append_assoc
abbrev JN:=@Int.emod_nonneg
abbrev JO:=@decide_eq_true
abbrev JP:=@decide_eq_false
abbrev JQ:=@List.range_succ
abbrev JR:=@List.map_nil
abbrev JS:=@Int.zero_add
abbrev JT:=@List.filter_append
abbrev JU:=@List.filter_cons
abbrev JV:=@Option.some.inj
abbrev JW:=@PySem.wpAny_bind
abbrev JX:=@PySem.wpAny_pure
abbrev JY:=@PyProof.Rows.wpS_bind
abbrev JZ:=@PyProof.Rows.wpS_pure
abbrev Qa:=@PySem.Heap.get?_push_of_some
abbrev Qb:=@PySem.Heap.lt_size
abbrev Qc:=@PySem.Heap.get?_push_size
abbrev Qd:=@PySem.Heap.get?_update_other
abbrev Fg:=PySem.W.Frag
set_option compiler.extract_closed false
local macro_rules | `('o') => `(by omega)
local macro_rules | `('d') => `(by decide)
local macro_rules | `(tactic| omega) => `(tactic| lia)
set_option Elab.async false
set_option linter.all false
set_option maxRecDepth 100000
namespace L2
open PySem PySem.Spec PyProof.Rows
variable{us:List Value}{x:Str}{u:Value}{H:Hp}{a b C:Addr}{o:HO}{P:Program}{w:World}{h base:Heap}{t' i n:Nat}{ch fp:List Addr}{e c tg:Expr}{M:Model}{A:Around}{E:Value->Shared->Prop}{v y:V}{Q:Unit->Shared->Prop}{s:Shared}{pins:List (Addr×Obj)}{σ:St}{K:Fg}{te:TE}{g:TG}{op:Operator}{body:List Stmt}{tb:TS}{vs:List V}{pl:Sem Bool}{r:R2}{kw:List (Str×Value)}{CX:CXT}{ps:List Str}{kindOf:Str->Option NameKind}
abbrev Key:=Sum Int Str
def vm:Key->Value->Bool
 | .inl k,v=>Value.isInt k v
 | .inr x,v=>Value.isStrOf x v
def zrD(w:World):Key->Int
 | .inl k=>hashInt k
 | .inr x=>hashStr w x
theorem xq: ∀{k:Key} {v:Value},vm k v=true->(∃i t,k=Sum.inl i/\v=Value.int i t)\/(∃x t,k=Sum.inr x/\v=Value.str x t)
 | .inl i,v,h=>by
  obtain⟨t,e⟩:=Value.isInt_shape (k:=i) (v:=v) h;exact .inl ⟨i,t,rfl,e⟩
 | .inr x,v,h=>by
  obtain⟨t,e⟩:=Value.isStrOf_shape (x:=x) (v:=v) h;exact .inr ⟨x,t,rfl,e⟩
theorem zka(i:Int)(t:Tok):vm (.inl i) (.int i t)=true:=by simp [vm,Value.isInt]
theorem zkb(x:Str)(t:Tok):vm (.inr x) (.str x t)=true:=by simp [vm,Value.isStrOf]
theorem zoF(a b:Int):decide ((Sum.inl a:Key)=Sum.inl b)=(a==b):=by
 by_cases e:a=b
 ·subst e;simp
 ·have h: ¬(Sum.inl a:Key)=Sum.inl b:=λq=>e (Sum.inl.inj q);rw[JP h];exact(beq_eq_false_iff_ne.mpr e).symm
theorem zoG(a b:Str):decide ((Sum.inr a:Key)=Sum.inr b)=decide (a=b):=by
 by_cases e:a=b
 ·subst e;simp
 ·have h: ¬(Sum.inr a:Key)=Sum.inr b:=λq=>e (Sum.inr.inj q);rw[JP h,JP e]
theorem zoH(a:Int)(b:Str):decide ((Sum.inl a:Key)=Sum.inr b)=false:=JP (λq=>nomatch q)
theorem zoI(a:Str)(b:Int):decide ((Sum.inr a:Key)=Sum.inl b)=false:=JP (λq=>nomatch q)
def yK(prog:Program)(w:World):PySem.KeyKind prog w Key where
 is:=vm
 hash:=zrD w
 inj:=λv a b ha hb=>by
  rcases xq ha with⟨i,t,rfl,rfl⟩|⟨x,t,rfl,rfl⟩
  ·rcases xq hb with⟨j,u,rfl,e⟩|⟨y,u,rfl,e⟩
   ·injection e with e1 _;rw[e1]
   ·exact nomatch e
  ·rcases xq hb with⟨j,u,rfl,e⟩|⟨y,u,rfl,e⟩
   ·exact nomatch e
   ·injection e with e1 _;rw[e1]
 byValue:=λk v h=>by
  rcases xq h with⟨i,t,rfl,rfl⟩|⟨x,t,rfl,rfl⟩<;>rfl
 pyHash:=λhv h=>by
  rcases xq hv with⟨i,t,rfl,rfl⟩|⟨x,t,rfl,rfl⟩
  ·exact wpAny_pyHash_int h
  ·exact wpAny_pyHash_str h
 eqBool:=λhu hv h=>by
  rcases xq hu with⟨i,t,rfl,rfl⟩|⟨x,t,rfl,rfl⟩
  ·rcases xq hv with⟨j,u,rfl,rfl⟩|⟨y,u,rfl,rfl⟩
   ·rw[zoF] at h;exact wpAny_eqBool_int h
   ·rw[zoH] at h;exact SeqAt.EqAt.int_str i t y u _ _ _ _ h
  ·rcases xq hv with⟨j,u,rfl,rfl⟩|⟨y,u,rfl,rfl⟩
   ·rw[zoI] at h;exact SeqAt.EqAt.str_int x t j u _ _ _ _ h
   ·rw[zoG] at h;exact wpAny_eqBool_str h
 «strs» :=λk x t v h=>by
  rcases xq h with⟨i,u,rfl,e⟩|⟨y,u,rfl,e⟩
  ·exact nomatch e
  ·injection e with e1 _
   subst e1
   cases v<;>rfl
theorem zhq(prog:Program)(w:World)(i:Int)(t:Tok):(yK prog w).is (.inl i) (.int i t)=true:=zka i t
theorem zhr(prog:Program)(w:World)(x:Str)(t:Tok):(yK prog w).is (.inr x) (.str x t)=true:=zkb x t
inductive V where
 |non|bl (b:Bool)|int (i:Int)|str (x:Str)|byt (b:Array UInt8)|flt (b:UInt64)|ref (a:Addr)|ty (n:String)
 deriving DecidableEq
def zt:V->Value->Prop
 | .non,u=>u=Value.none
 | .bl b,u=>u=Value.bool b
 | .int i,u=> ∃t,u=Value.int i t
 | .str x,u=> ∃t,u=Value.str x t
 | .byt b,u=> ∃t,u=Value.bytes b t
 | .flt b,u=> ∃t,u=Value.float b t
 | .ref a,u=>u=Value.ref a
 | .ty n,u=>u=Value.type n
abbrev zw:List V->List Value->Prop:=Paired zt
theorem zw.length{xs:List V}{us:List Value}(r:zw xs us):xs.length=us.length:=Paired.length r
theorem zw.get: ∀{xs:List V} {us:List Value} {i:Nat} {x:V},zw xs us->xs[i]? =some x-> ∃u,us[i]? =some u/\zt x u
 |_,_,_,_, .nil,e=>by simp at e
 |_,_,0,_, .cons r _,e=>by simp at e;subst e;exact⟨_,rfl,r⟩
 |_,_,i+1,x, .cons _ t,e=>by
  obtain⟨u,h1,h2⟩:=zw.get (i:=i) (x:=x) t (by simpa using e);exact⟨u,by simpa using h1,h2⟩
theorem zw.set{x:V}{u:Value}(r:zt x u): ∀{xs:List V} {us:List Value} (i:Nat),zw xs us->zw (xs.set i x) (us.set i u)
 |_,_,_, .nil=> .nil
 |_,_,0, .cons _ t=> .cons r t
 |_,_,i+1, .cons q t=> .cons q (zw.set r i t)
theorem zw.append: ∀{xs ys:List V} {us ws:List Value},zw xs us->zw ys ws->zw (xs++ys) (us++ws)
 |_,_,_,_, .nil,s=>s
 |_,_,_,_, .cons r t,s=> .cons r (zw.append t s)
theorem zw.take: ∀{xs:List V} {us:List Value} (n:Nat),zw xs us->zw (xs.take n) (us.take n)
 |_,_,0,_=> .nil
 |_,_,_+1, .nil=> .nil
 |_,_,n+1, .cons r t=> .cons r (zw.take n t)
theorem zw.drop: ∀{xs:List V} {us:List Value} (n:Nat),zw xs us->zw (xs.drop n) (us.drop n)
 |_,_,0,r=>r
 |_,_,_+1, .nil=> .nil
 |_,_,n+1, .cons _ t=>zw.drop n t
def qd:Option V->Option Value->Prop
 |some v,some u=>zt v u
 |none,none=>True
 |_,_=>False
def KV{κ:Type}:List (κ×V)->List (κ×Value)->Prop:=Paired λ(p:κ×V) (q:κ×Value)=>p.1=q.1/\zt p.2 q.2
def kV:Key->V
 | .inl i=> .int i
 | .inr x=> .str x
inductive HO where
 |lst (xs:List V)
 |tup (xs:List V)
 |dK (kvs:List (Key×V))|dT (kvs:List (List Key×V))
 |set (S:Int->Bool) (n:Nat)
 |ins (C dx:Addr) (fs:List (Str×V))
 |own (x:Addr)
 |xd (fs:List (Str×V))
 |met (f x:Addr)
 |rng (lo hi:Int)
 |frz (o:Obj) (u:HO)
 |tbl (ps:Array Value)
 |ext (φ:Heap->Prop)
abbrev Hp:=Addr->Option HO
def upd(H:Hp)(a:Addr)(o:HO):Hp:=λb=>if b=a then some o else H b
theorem zN:upd H a o a=some o:=by unfold upd;rw[Jg rfl]
theorem zu(h:b≠a):upd H a o b=H b:=by unfold upd;rw[Jf h]
theorem zqF{u:HO}(h:H a=some o)(h':H b=some u)(d:o≠u):a≠b:=by
 intro e;subst e;rw[h] at h';exact d (JV h')
theorem qa(h:H a=some o)(h':H b=none):a≠b:=by
 intro e;subst e;rw[h] at h';cases h'
section
variable (P:Program) (w:World)
def yy(H:Hp)(h:Heap)(a:Addr):HO->Prop
 | .lst xs=>xs.length<=sizeLine/\ ∃(its:List Value) (n:Nat),zw xs its/\h.get? a=some {cls:= .type "list",data:= .seq its.toArray n}
 | .tup xs=>xs.length<=sizeLine/\ ∃its:List Value,zw xs its/\IsTup h a its.toArray
 | .dK kvs=>kvs.length<=sizeLine/\(a==sysModules)=false/\ ∃vs,KV kvs vs/\h.DictOf (yK P w) a vs
 | .dT kvs=>kvs.length<=sizeLine/\(a==sysModules)=false/\ ∃xs:List (List Key×Addr×Value),
   Paired (λ(p:List Key×V) (q:List Key×Addr×Value)=>p.1=q.1/\H q.2.1=some (.tup (p.1.map kV))/\zt p.2 q.2.2) kvs xs/\
   ∃o es ep,h.get? a=some o/\o.ExactDict/\o.data= .dict es ep/\es.toList=xs.map (entryOfKey (tupleKind (yK P w)))/\(xs.map (·.1)).Nodup
 | .set S n=>h.SetOf (intKind P w) a S n
 | .ins C dx fs=>H dx=some (.own a)/\fs.length<=1000/\dx≠a/\h.get? a=some (PySem.W.instObj C dx)/\
   ∃mA,h.Ns1 dx mA/\(∀f,qd (fs.lookup f) (mA f))/\PySem.Within mA (fs.map (·.1))
 | .own _=> ∃o,h.get? a=some o
 | .xd fs=> ∃mA,h.Ns1 a mA/\ ∀f,qd (fs.lookup f) (mA f)
 | .rng lo hi=> ∃t u v,h.get? a=some {cls:= .type "range",data:= .fields #[.int lo t, .int hi u, .int 1 v]}
 | .frz o u=>h.get? a=some o/\yy H h a u
 | .tbl ps=>h.get? a=some {cls:= .none,data:= .fields ps}
 | .met f x=>h.get? a=some (PySem.W.methodObj (.ref f) (.ref x))
 | .ext φ=>φ h/\(∃o,h.get? a=some o)/\ ∀h1 h2:Heap,φ h1->(∀o,h1.get? a=some o->h2.get? a=some o)->φ h2
def HOk(H:Hp)(h:Heap):Prop:= ∀a o,H a=some o->yy P w H h a o
end
section
variable {P:Program} {w:World} {H H':Hp} {h h':Heap} {a:Addr} {o:HO}
theorem yy.lt(x:yy P w H h a o):a<h.objs.size:=by
 cases o with
 |lst xs=>obtain⟨_,_,_,_,e⟩:=x;exact Qb e
 |tup xs=>obtain⟨_,_,_,p⟩:=x;exact p.lt
 |dK kvs=>obtain⟨_,_,_,_,o,_,_,e,_⟩:=x;exact Qb e
 |dT kvs=>obtain⟨_,_,_,_,o,_,_,e,_⟩:=x;exact Qb e
 |set S n=>obtain⟨o,_,_,_,e,_⟩:=x;exact Qb e
 |ins C dx fs=>obtain⟨_,_,_,e,_⟩:=x;exact Qb e
 |own y=>obtain⟨_,e⟩:=x;exact Qb e
 |xd fs=>obtain⟨_,⟨_,_,_,e,_⟩,_⟩:=x;exact Qb e
 |rng lo hi=>obtain⟨_,_,_,e⟩:=x;exact Qb e
 |frz ob u=>obtain⟨e,_⟩:=x;exact Qb e
 |tbl ps=>exact Qb (show h.get? a=some _ from x)
 |met f y=>exact Qb (show h.get? a=some _ from x)
 |ext φ=>obtain⟨_,⟨_,e⟩,_⟩:=x;exact Qb e
theorem Paired.mapP{α β:Type}{F G:α->β->Prop}: ∀{l₁:List α} {l₂:List β},Paired F l₁ l₂->(∀a b,F a b->G a b)->Paired G l₁ l₂
 |_,_, .nil,_=> .nil
 |_,_, .cons r t,f=> .cons (f _ _ r) (Paired.mapP t f)
theorem yy.stay(x:yy P w H h a o)(k: ∀b u,(b=a\/H b=some (.own a))->h.get? b=some u->h'.get? b=some u)
  (ho: ∀b,H b=some (.own a)->H' b=some (.own a)) (ht: ∀b xs,H b=some (.tup xs)->H' b=some (.tup xs)):yy P w H' h' a o:=by
 induction o with
 |lst xs=>obtain⟨z,its,n,r,e⟩:=x;exact⟨z,its,n,r,k _ _ (.inl rfl) e⟩
 |tup xs=>obtain⟨z,its,r,ob,e,c⟩:=x;exact⟨z,its,r,ob,k _ _ (.inl rfl) e,c⟩
 |dK kvs=>obtain⟨z,y,vs,r,ob,es,ep,e,c⟩:=x;exact⟨z,y,vs,r,ob,es,ep,k _ _ (.inl rfl) e,c⟩
 |dT kvs=>
  obtain⟨z,y,xs,r,ob,es,ep,e,c⟩:=x;exact⟨z,y,xs,Paired.mapP r λp q z=>⟨z.1,ht _ _ z.2.1,z.2.2⟩,ob,es,ep,k _ _ (.inl rfl) e,c⟩
 |set S n=>obtain⟨ob,es,ep,t,e,c⟩:=x;exact⟨ob,es,ep,t,k _ _ (.inl rfl) e,c⟩
 |ins C dx fs=>
  obtain⟨d,z,ne,e,mA,⟨od,es,ep,e2,c⟩,r⟩:=x;exact⟨ho _ d,z,ne,k _ _ (.inl rfl) e,mA,⟨od,es,ep,k _ _ (.inr d) e2,c⟩,r⟩
 |own y=>obtain⟨ob,e⟩:=x;exact⟨ob,k _ _ (.inl rfl) e⟩
 |xd fs=>obtain⟨mA,⟨od,es,ep,e,c⟩,r⟩:=x;exact⟨mA,⟨od,es,ep,k _ _ (.inl rfl) e,c⟩,r⟩
 |rng lo hi=>obtain⟨t,u,v,e⟩:=x;exact⟨t,u,v,k _ _ (.inl rfl) e⟩
 |frz ob u ih=>obtain⟨e,q⟩:=x;exact⟨k _ _ (.inl rfl) e,ih q⟩
 |tbl ps=>
  have e:h.get? a=some {cls:= .none,data:= .fields ps}:=x;show h'.get? a=some {cls:= .none,data:= .fields ps};exact k a _ (.inl rfl) e
 |met f y=>
  have e:h.get? a=some (PySem.W.methodObj (.ref f) (.ref y)):=x;show h'.get? a=some (PySem.W.methodObj (.ref f) (.ref y));exact k a _ (.inl rfl) e
 |ext φ=>obtain⟨p,⟨o,e⟩,st⟩:=x;exact⟨st _ _ p λo q=>k _ _ (.inl rfl) q,⟨o,k _ _ (.inl rfl) e⟩,st⟩
theorem HOk.lt(x:HOk P w H h)(e:H a=some o):a<h.objs.size:=(x a o e).lt
theorem HOk.fresh(x:HOk P w H h)(e:h.objs.size<=a):H a=none:=by
 cases q:H a with
 |none=>rfl
 |some u=>exact absurd (Jy (x.lt q) e) (Nat.lt_irrefl _)
theorem HOk.kept(x:HOk P w H h)(k: ∀b u,h.get? b=some u->h'.get? b=some u):HOk P w H h':=λa o e=>
 (x a o e).stay (λb u _ q=>k b u q) (λ_ q=>q) λ_ _ q=>q
theorem HOk.laid(x:HOk P w H h)(k: ∀b u,h.get? b=some u->h'.get? b=some u)(hp:h.objs.size<=a)(new:yy P w (upd H a o) h' a o):HOk P w (upd H a o) h':=λb u e=>by
 have hn:=x.fresh hp;by_cases hb:b=a
 ·subst hb;rw[zN] at e;cases e;exact new
 ·rw[zu hb] at e;exact(x b u e).stay (λc v _ q=>k c v q) (λc q=>by rw[zu (qa q hn)];exact q) λc xs q=>by rw[zu (qa q hn)];exact q
end
def Rd(H:Hp)(a:Addr)(u:HO):Prop:=H a=some u\/ ∃o,H a=some (.frz o u)
theorem Rd.of{u:HO}(h:H a=some u):Rd H a u:= .inl h
theorem Rd.ok{u:HO}(r:Rd H a u)(x:HOk P w H h):yy P w H h a u:=by
 rcases r with r|⟨o,r⟩
 ·exact x a u r
 ·obtain⟨_,q⟩:=x a _ r;exact q
def Mut:Option HO->Prop
 |some (.lst _)=>True
 |some (.dK _)=>True
 |some (.dT _)=>True
 |some (.set _ _)=>True
 |some (.ins _ _ _)=>True
 |some (.ext _)=>True
 |_=>False
section
variable {P:Program} {w:World} {H:Hp} {h h':Heap} {x e:Addr} {o':HO}
theorem HOk.write(ok:HOk P w H h)(mu:Mut (H x))(he:e=x\/H e=some (.own x))(k: ∀b u,b≠e->h.get? b=some u->h'.get? b=some u)(heo: ∃u,h'.get? e=some u)
  (new:yy P w (upd H x o') h' x o'):HOk P w (upd H x o') h':=λb u q=>by
 have nown: ∀c y,H c=some (.own y)->c≠x:=λc y r z=>by subst z;rw[r] at mu;exact mu
 have ntup: ∀c xs,H c=some (.tup xs)->c≠x:=λc xs r z=>by subst z;rw[r] at mu;exact mu
 by_cases hb:b=x
 ·subst hb;rw[zN] at q;cases q;exact new
 ·rw[zu hb] at q;by_cases hbe:b=e
  ·have q':H b=some (.own x):=by
    rcases he with z|z
    ·exact absurd (hbe.trans z) hb
    ·rw[hbe];exact z
   rw[q] at q';cases q';obtain⟨v,hv⟩:=heo;exact⟨v,by rw[hbe];exact hv⟩
  ·refine(ok b u q).stay (λc v hc r=>k c v ?_ r) (λc r=>by rw[zu (nown c b r)];exact r) λc xs r=>by rw[zu (ntup c xs r)];exact r
   rcases hc with rfl|hc
   ·exact hbe
   ·rintro rfl;rcases he with z|z
    ·exact nown c b hc z
    ·rw[hc] at z;cases z;exact hb rfl
end
structure Un (fs ex:List Addr) (H H':Hp) (h h':Heap):Prop where
 keep: ∀b o,h.get? b=some o->H b=none->b∉fs->b∉ex->h'.get? b=some o
 slot: ∀b o,h.get? b=some o->H b=none->b∈fs->b∉ex-> ∃sl,h'.get? b=some {o with slots:=sl}
 free: ∀b o,h.get? b=some o->H b=none->b∉ex->H' b=none
 there: ∀b o,h.get? b=some o->b∉ex-> ∃o',h'.get? b=some o'
 tups: ∀b xs,H b=some (.tup xs)->H' b=some (.tup xs)
 frzs: ∀b o u,H b=some (.frz o u)->H' b=some (.frz o u)
 tbls: ∀b ps,H b=some (.tbl ps)-> ∃more,H' b=some (.tbl (ps++more))
section
variable {fs fs' ex ex':List Addr} {H H1 H2:Hp} {h h1 h2 h':Heap} {a x e:Addr} {o:HO}
theorem Un.any(u:Un fs ex H H1 h h1){ob:Obj}(q:h.get? b=some ob)(n:H b=none)(hx:b∉ex): ∃sl,h1.get? b=some {ob with slots:=sl}:=by
 by_cases hb:b∈fs
 ·exact u.slot b ob q n hb hx
 ·exact⟨ob.slots,u.keep b ob q n hb hx⟩
theorem Un.kept(k: ∀b u,h.get? b=some u->h'.get? b=some u):Un fs ex H H h h':=
 ⟨λb ob q _ _ _=>k b ob q,λb ob q _ _ _=>⟨ob.slots,k b ob q⟩,λ_ _ _ n _=>n,λb ob q _=>⟨ob,k b ob q⟩,λ_ _ q=>q,λ_ _ _ q=>q,λ_ ps q=>⟨#[],by rw[q];simp⟩⟩
theorem Un.refl:Un fs ex H H h h:=Un.kept λ_ _ q=>q
theorem Un.laid(k: ∀b u,h.get? b=some u->h'.get? b=some u)(hp:h.objs.size<=a)(hn:H a=none):Un fs ex H (upd H a o) h h' where
 keep:=λb u q _ _ _=>k b u q
 slot:=λb u q _ _ _=>⟨u.slots,k b u q⟩
 free:=λb u q n _=>by rw[zu (JK (Jy (Qb q) hp))];exact n
 there:=λb u q _=>⟨u,k b u q⟩
 tups:=λb xs q=>by rw[zu (qa q hn)];exact q
 frzs:=λb u xs q=>by rw[zu (qa q hn)];exact q
 tbls:=λb ps q=>⟨#[],by rw[zu (qa q hn),q];simp⟩
theorem Un.write(mu:Mut (H x))(he:e=x\/H e=some (.own x))(k: ∀b u,b≠e->h.get? b=some u->h'.get? b=some u)(heo: ∃u,h'.get? e=some u):Un fs ex H (upd H x o) h h':=by
 have hx: ∀b,H b=none->b≠x:=λb n z=>by subst z;rw[n] at mu;exact mu
 have hb: ∀b,H b=none->b≠e:=λb n z=>by
  subst z;rcases he with r|r
  ·exact hx b n r
  ·rw[n] at r;cases r
 have hm: ∀b u,H b=some u-> ¬Mut (some u)->b≠x:=λb u q nm z=>by subst z;rw[q] at mu;exact nm mu
 refine⟨λb u q n _ _=>k b u (hb b n) q,λb u q n _ _=>⟨u.slots,k b u (hb b n) q⟩,λb u q n _=>by rw[zu (hx b n)];exact n,λb u q _=> ?_,
  λb xs q=>by rw[zu (hm b _ q λz=>z)];exact q,λb u xs q=>by rw[zu (hm b _ q λz=>z)];exact q,λb ps q=>⟨#[],by rw[zu (hm b _ q λz=>z),q];simp⟩⟩
 by_cases hbe:b=e
 ·subst hbe;exact heo
 ·exact⟨u,k b u hbe q⟩
end
def trk(h:Heap)(H:Hp):List Addr:=(List.range h.objs.size).filter λa=>(H a).isSome
def xP(h:Heap)(H:Hp):Heap:=PySem.W.hideAll h (trk h H)
theorem zkc(h:Heap)(H:Hp):(xP h H).objs.size=h.objs.size:=PySem.W.hideAll_size _ _
theorem zkY{o:Obj}(e:h.get? b=some o)(n:H b=none):(xP h H).get? b=some o:=
 PySem.W.hideAll_get _ e λhm=>by
  have q:(H b).isSome=true:=(List.mem_filter.mp hm).2;rw[n] at q;simp at q
theorem znn{o:Obj}(e:(xP h H).get? b=some o):h.get? b=some o/\H b=none:=by
 have e':h.get? b=some o:=PySem.W.of_hideAll (trk h H) e;refine⟨e',?_⟩;cases q:H b with
 |none=>rfl
 |some x=>
  have hm:b∈trk h H:=List.mem_filter.mpr ⟨List.mem_range.mpr (Qb e'),by simp [q]⟩;have z:(xP h H).get? b=none:=PySem.W.hideAll_none (trk h H) hm;rw[z] at e;cases e
def zno(g h:Heap)(L:Addr):List (Addr×Obj):=(List.range h.objs.size).filterMap λa=>if a=L\/(g.get? a).isSome=true then none else (h.get? a).map λo=>(a,o)
def rest(g h:Heap)(L d:Addr):List (Addr×Obj):=(zno g h L).filter λp=>decide (p.1≠d)
structure Mod (K:Fg) (mg:Str->Option Value) (base:Heap):Prop where
 kin:K.In base
 glob:base.Ns mainGlobals mg
 blt: ∃mb,base.Ns builtinsNs mb/\ ∀x:Str,x≠"__name__"->mb x=bootBuiltins x
 nolimit:base.NoLimit
set_option genInjectivity false in
set_option genSizeOf false in
structure Cx where
 prog:Program
 w:World
 K:Fg
 mg:Str->Option Value
 base:Heap
 A:Around
 N:List Str
 s₀:Shared
 H₀:Hp
 env:Env
 outer:List Env
 stack:List Env
 ex:List Addr
 fn:Str->Bool
 calm:Bool
 pn:List (Addr×Obj)
 xe:Value->Shared->Prop
def frs(l:List Env):List Addr:=l.filterMap (·.frame)
abbrev Cx.fs(X:Cx):List Addr:=frs X.outer
def Vis(sc:Scope)(x:Str):Prop:=sc.names.lookup x=some .local\/sc.names.lookup x=some .cell\/sc.names.lookup x=some .free
def Loc(sc:Scope)(x:Str):Prop:=sc.names.lookup x=some .local\/sc.names.lookup x=some .cell
def zrE(env:Env)(h:Heap)(m:Str->Option Value)(x:Str)(u:Value):Prop:=
 (env.kindOf x=some .local/\m x=some u)\/((env.kindOf x=some .cell\/env.kindOf x=some .free)/\ ∃c,env.cells.lookup x=some c/\h.IsCell c (some u))
structure Cx.Ok (X:Cx):Prop where
 mod:Mod X.K X.mg X.base
 kind:X.env.scope.kind= .function
 glob:X.env.globals=mainGlobals
 blt:X.env.builtins=builtinsNs
 above:X.s₀.heap.objs.size<=X.env.locals
 inj: ∀x y c,X.env.cells.lookup x=some c->X.env.cells.lookup y=some c->x=y
 has: ∀x,(X.env.kindOf x=some .cell\/X.env.kindOf x=some .free)-> ∃c,X.env.cells.lookup x=some c
 cab: ∀x c,X.fn x=true->X.env.cells.lookup x=some c->X.s₀.heap.objs.size<=c
 hd:X.calm=true->X.A.handled=none
 frames:X.A.frames=some X.stack
 stk:X.stack=X.outer\/(X.stack=X.env::X.outer/\X.env.frame=some X.env.locals)
 exf: ∀b∈X.ex,b≠X.env.locals/\ ∀x c,X.env.cells.lookup x=some c->c≠b
 bs: ∀b o,X.base.get? b=some o->X.s₀.heap.get? b=some o/\X.H₀ b=none
 bsz:X.base.objs.size<=X.s₀.heap.objs.size
 noex: ∀b o,X.base.get? b=some o->b∉X.ex
 exfs: ∀b∈X.ex,b∉X.fs
 funs:X.s₀.heap.FunFrames X.base X.outer
 frf: ∀b∈X.fs,X.H₀ b=none
structure Inv (X:Cx) (pins:List (Addr×Obj)) (σ:List (Option V)) (H:Hp) (s:Shared):Prop where
 ok:X.Ok
 os:s.os=X.s₀.os
 bare:AllBare s.gens
 base:Un X.fs X.ex X.H₀ H X.s₀.heap s.heap
 loc: ∃m,s.heap.Ns X.env.locals m/\ ∀(i:Nat) (x:Str) (v:V),X.N[i]? =some x->σ[i]? =some (some v)->Vis X.env.scope x-> ∃u,zt v u/\zrE X.env s.heap m x u
 cell: ∀x c,X.env.cells.lookup x=some c-> ∃v,s.heap.IsCell c v
 free:H X.env.locals=none
 freeC: ∀x c,X.env.cells.lookup x=some c->H c=none
 pin: ∀p∈X.pn++pins,s.heap.get? p.1=some p.2/\H p.1=none/\p.1≠X.env.locals/\p.1∉X.fs/\ ∀v,p.2.data≠ .cell v
 hok:HOk X.prog X.w H s.heap
 len:σ.length=X.N.length
section
variable {X:Cx} {pins:List (Addr×Obj)} {σ:List (Option V)} {H H':Hp} {s:Shared} {h':Heap}
theorem Cx.Ok.nofr(ok:X.Ok){o:Obj}(e:X.base.get? b=some o):b∉X.fs:=λhb=>by
 have:=(ok.funs.mem hb).1;rw[e] at this;cases this
theorem Inv.bs(I:Inv X pins σ H s): ∀b o,X.base.get? b=some o->s.heap.get? b=some o/\H b=none:=λb o e=>
 ⟨I.base.keep b o (I.ok.bs b o e).1 (I.ok.bs b o e).2 (I.ok.nofr e) (I.ok.noex b o e),I.base.free b o (I.ok.bs b o e).1 (I.ok.bs b o e).2 (I.ok.noex b o e)⟩
theorem Inv.bk(I:Inv X pins σ H s): ∀b o,X.base.get? b=some o->s.heap.get? b=some o:=λb o e=>(I.bs b o e).1
theorem Inv.mod(I:Inv X pins σ H s):Mod X.K X.mg X.base:=I.ok.mod
theorem Inv.kIn(I:Inv X pins σ H s):X.K.In s.heap:=I.ok.mod.kin.keeps I.bk
theorem Inv.nolimit(I:Inv X pins σ H s):s.heap.NoLimit:=I.ok.mod.nolimit.keeps I.bk
theorem Inv.lt(I:Inv X pins σ H s):X.env.locals<s.heap.objs.size:=let ⟨_,hn,_⟩:=I.loc;hn.lt
theorem Inv.sz(I:Inv X pins σ H s):X.s₀.heap.objs.size<=s.heap.objs.size:=JE I.ok.above (Nat.le_of_lt I.lt)
theorem Inv.nofs(I:Inv X pins σ H s)(h:s.heap.objs.size<=a):a∉X.fs:=λhb=>by
 obtain⟨_,o,ho,_⟩:=I.ok.funs.mem hb;exact absurd (Jy (Qb ho) (JE I.sz h)) (Nat.lt_irrefl _)
theorem Inv.cne(I:Inv X pins σ H s): ∀x c,X.env.cells.lookup x=some c->c≠X.env.locals:=λx c e z=>by
 obtain⟨v,o,ho,hd⟩:=I.cell x c e;obtain⟨m,⟨o',es,ep,ho',hd',_⟩,_⟩:=I.loc;rw[z,ho'] at ho;cases ho;rw[hd'] at hd;cases hd
theorem Inv.funs(I:Inv X pins σ H s):s.heap.FunFrames X.base X.outer:=by
 have all: ∀(l:List Env),(∀b∈frs l,b∈X.fs)->X.s₀.heap.FunFrames X.base l->s.heap.FunFrames X.base l:=by
  intro l;induction l with
  |nil=>intro _ _;trivial
  |cons env r ih=>
   intro hs hl;obtain⟨hk,⟨L,o,hf,hn,ho,hd⟩,hr⟩:=hl;have hL:L∈X.fs:=hs L (by unfold frs;rw[List.filterMap_cons,hf];exact Jq);obtain⟨sl,e⟩:=I.base.slot L o ho (I.ok.frf L hL) hL λz=>I.ok.exfs L z hL;exact⟨hk,⟨L,_,hf,hn,e,hd⟩,ih (λb hb=>hs b (by unfold frs;rw[List.filterMap_cons,hf];exact Jl _ hb)) hr⟩
 exact all X.outer (λ_ hb=>hb) I.ok.funs
theorem Inv.stack(I:Inv X pins σ H s):s.heap.FunFrames X.base X.stack:=by
 rcases I.ok.stk with e|⟨e,hf⟩
 ·rw[e];exact I.funs
 ·rw[e];obtain⟨m,hn,_⟩:=I.loc;refine .cons (by rw[I.ok.kind];decide) hf hn ?_ I.funs;exact Heap.get?_none_of_le (JE I.ok.bsz I.ok.above)
theorem Inv.stkSub(I:Inv X pins σ H s): ∀b∈frs X.stack,b∈X.env.locals::X.fs:=λb hb=>by
 rcases I.ok.stk with e|⟨e,hf⟩
 ·rw[e] at hb;exact Jl _ hb
 ·rw[e] at hb;unfold frs at hb;rw[List.filterMap_cons,hf] at hb;exact hb
theorem Inv.stkFree(I:Inv X pins σ H s): ∀b∈frs X.stack,H b=none:=λb hb=>by
 rcases JD.mp (I.stkSub b hb) with e|hb
 ·rw[e];exact I.free
 ·obtain⟨_,o,ho,_⟩:=I.ok.funs.mem hb;exact I.base.free b o ho (I.ok.frf b hb) λz=>I.ok.exfs b z hb
theorem Inv.step{g':Array GenState}{t':Nat}{d':Drawn}{ch:List Addr}(I:Inv X pins σ H s)
  (hch: ∀b∈ch,(b∈X.ex\/X.s₀.heap.objs.size<=b)/\b≠X.env.locals/\(∀x c,X.env.cells.lookup x=some c->c≠b)/\ ∀p∈X.pn++pins,p.1≠b)
  (keep: ∀b o,b≠X.env.locals->b∉X.fs->b∉ch->s.heap.get? b=some o->H b=none->h'.get? b=some o)
  (slot: ∀b o,b≠X.env.locals->b∈X.fs->b∉ch->s.heap.get? b=some o->H b=none-> ∃sl,h'.get? b=some {o with slots:=sl}) (free: ∀b o,b∉ch->s.heap.get? b=some o->H b=none->H' b=none)
  (there: ∀b o,b∉ch->s.heap.get? b=some o-> ∃o',h'.get? b=some o')
  (tups: ∀b xs,H b=some (.tup xs)->H' b=some (.tup xs)) (frzs: ∀b o u,H b=some (.frz o u)->H' b=some (.frz o u)) (tbls: ∀b ps,H b=some (.tbl ps)-> ∃more,H' b=some (.tbl (ps++more)))
  (ns: ∀m,s.heap.Ns X.env.locals m->h'.Ns X.env.locals m) (hok:HOk X.prog X.w H' h') (hg:AllBare g'):
  Inv X pins σ H' {s with heap:=h',gens:=g',drawn:=d',toks:=t'}:=by
 have neL: ∀b o,X.s₀.heap.get? b=some o->b≠X.env.locals:=λb o e=>JK (Jy (Qb e) I.ok.above);have neC: ∀b o,X.s₀.heap.get? b=some o->b∉X.ex->b∉ch:=λb o e hx hb=>by
  rcases (hch b hb).1 with z|z
  ·exact hx z
  ·exact absurd (Jy (Qb e) z) (Nat.lt_irrefl _)
 have cellK: ∀x c,X.env.cells.lookup x=some c-> ∀v,s.heap.IsCell c v->h'.IsCell c v:=λx c e v ⟨o,ho,hd⟩=>by
  have nch:c∉ch:=λz=>(hch c z).2.2.1 x c e rfl;by_cases hc:c∈X.fs
  ·obtain⟨sl,q⟩:=slot c o (I.cne x c e) hc nch ho (I.freeC x c e);exact⟨_,q,hd⟩
  ·exact⟨o,keep c o (I.cne x c e) hc nch ho (I.freeC x c e),hd⟩
 refine⟨I.ok,I.os,hg,⟨λb o e n hb hx=> ?_,λb o e n hb hx=> ?_,λb o e n hx=> ?_,λb o e hx=> ?_,λb xs e=>tups b xs (I.base.tups b xs e),λb o xs e=>frzs b o xs (I.base.frzs b o xs e),λb ps e=> ?_⟩,?_,λx c e=> ?_,?_,λx c e=> ?_,λp hp=> ?_,hok,I.len⟩
 ·exact keep b o (neL b o e) hb (neC b o e hx) (I.base.keep b o e n hb hx) (I.base.free b o e n hx)
 ·obtain⟨sl,e1⟩:=I.base.slot b o e n hb hx;obtain⟨sl',e2⟩:=slot b _ (neL b o e) hb (neC b o e hx) e1 (I.base.free b o e n hx);exact⟨sl',e2⟩
 ·obtain⟨o',e1⟩:=I.base.there b o e hx;exact free b o' (neC b o e hx) e1 (I.base.free b o e n hx)
 ·obtain⟨o',e1⟩:=I.base.there b o e hx;exact there b o' (neC b o e hx) e1
 ·obtain⟨m1,e1⟩:=I.base.tbls b ps e;obtain⟨m2,e2⟩:=tbls b _ e1;exact⟨m1++m2,by rw[e2,Array.append_assoc]⟩
 ·obtain⟨m,hn,hl⟩:=I.loc;refine⟨m,ns m hn,λi x v e1 e2 e3=> ?_⟩;obtain⟨u,r,l⟩:=hl i x v e1 e2 e3;refine⟨u,r,?_⟩;rcases l with l|⟨k,c,e,z⟩
  ·exact .inl l
  ·exact .inr ⟨k,c,e,cellK x c e _ z⟩
 ·obtain⟨v,z⟩:=I.cell x c e;exact⟨v,cellK x c e v z⟩
 ·obtain⟨m,⟨o,_,_,ho,_⟩,_⟩:=I.loc;exact free _ o (λz=>(hch _ z).2.1 rfl) ho I.free
 ·obtain⟨v,o,ho,hd⟩:=I.cell x c e;exact free c o (λz=>(hch c z).2.2.1 x c e rfl) ho (I.freeC x c e)
 ·obtain⟨e,n,ne,nf,d⟩:=I.pin p hp;have nch:p.1∉ch:=λz=>(hch p.1 z).2.2.2 p hp rfl;exact⟨keep p.1 p.2 ne nf nch e n,free p.1 p.2 nch e n,ne,nf,d⟩
theorem Inv.un{t':Nat}(I:Inv X pins σ H s)(u:Un X.fs [] H H' s.heap h')(hok:HOk X.prog X.w H' h'):Inv X pins σ H' {s with heap:=h',toks:=t'}:=by
 obtain⟨m,⟨o,es,ep,ho,r⟩,_⟩:=id I.loc;obtain⟨sl,hL⟩:=u.any ho I.free (by simp);exact I.step (g':=s.gens) (d':=s.drawn) (ch:= []) (λ_ z=>nomatch z) (λb o _ hb _ e n=>u.keep b o e n hb (by simp)) (λb o _ hb _ e n=>u.slot b o e n hb (by simp)) (λb o _ e n=>u.free b o e n (by simp)) (λb o _ e=>u.there b o e (by simp)) u.tups u.frzs u.tbls (λm' hm=>by
  obtain⟨o',es',ep',ho',r'⟩:=hm;rw[ho] at ho';cases ho';exact⟨_,es',ep',hL,r'⟩) hok I.bare
theorem Inv.call{g':Array GenState}{t':Nat}{d':Drawn}(I:Inv X pins σ H s)(u:Un (frs X.stack) ch H H' s.heap h')(hok:HOk X.prog X.w H' h')(hg:AllBare g')
  (hch: ∀b∈ch,(b∈X.ex\/X.s₀.heap.objs.size<=b)/\b≠X.env.locals/\(∀x c,X.env.cells.lookup x=some c->c≠b)/\ ∀p∈X.pn++pins,p.1≠b):
  Inv X pins σ H' {s with heap:=h',gens:=g',drawn:=d',toks:=t'}:=by
 obtain⟨m,⟨o,es,ep,ho,r⟩,_⟩:=id I.loc;obtain⟨sl,hL⟩:=u.any ho I.free λz=>(hch _ z).2.1 rfl;exact I.step (ch:=ch) hch (λb o hL hb hc e n=>u.keep b o e n (λz=>(JD.mp (I.stkSub b z)).elim hL hb) hc) (λb o _ _ hc e n=>u.any e n hc) (λb o hc e n=>u.free b o e n hc) (λb o hc e=>u.there b o e hc) u.tups u.frzs u.tbls (λm' hm=>by
  obtain⟨o',es',ep',ho',r'⟩:=hm;rw[ho] at ho';cases ho';exact⟨_,es',ep',hL,r'⟩) hok hg
theorem Inv.turned{t':Nat}{it:Addr}(I:Inv X pins σ H s)(k: ∀b o,b≠it->s.heap.get? b=some o->h'.get? b=some o)(hn:H it=none)(hL:it≠X.env.locals)
  (h1:it∈X.ex\/X.s₀.heap.objs.size<=it) (h2: ∀x c,X.env.cells.lookup x=some c->c≠it) (h3: ∀p∈X.pn++pins,p.1≠it):Inv X pins σ H {s with heap:=h',toks:=t'}:=by
 have nit: ∀b u,H b=some u->b≠it:=λb u e z=>by rw[z,hn] at e;cases e
 refine I.step (g':=s.gens) (d':=s.drawn) (ch:= [it]) (λb hb=> ?_) (λb o _ _ hc e _=>k b o (λz=>hc (by simp [z])) e) (λb o _ _ hc e _=>⟨o.slots,k b o (λz=>hc (by simp [z])) e⟩) (λ_ _ _ _ n=>n)
  (λb o hc e=>⟨o,k b o (λz=>hc (by simp [z])) e⟩) (λ_ _ e=>e) (λ_ _ _ e=>e) (λb ps e=>⟨#[],by rw[e];simp⟩) (λm hm=> ?_) (λb u e=> ?_) I.bare
 ·have e:b=it:=by simpa using hb
  subst e;exact⟨h1,hL,h2,h3⟩
 ·obtain⟨o,es,ep,ho,r⟩:=hm;exact⟨o,es,ep,k _ o (Ne.symm hL) ho,r⟩
 ·refine(I.hok b u e).stay (λc v hc q=>k c v ?_ q) (λ_ q=>q) λ_ _ q=>q;rcases hc with z|z
  ·rw[z];exact nit b u e
  ·exact nit c _ z
theorem Inv.tok(I:Inv X pins σ H s)(t:Nat):Inv X pins σ H {s with toks:=t}:=I.un (h':=s.heap) (t':=t) Un.refl I.hok
theorem Inv.kept{t':Nat}(I:Inv X pins σ H s)(k: ∀b u,s.heap.get? b=some u->h'.get? b=some u):Inv X pins σ H {s with heap:=h',toks:=t'}:=I.un (Un.kept k) (I.hok.kept k)
theorem Inv.laid{a:Addr}{o:HO}{t':Nat}(I:Inv X pins σ H s)(k: ∀b u,s.heap.get? b=some u->h'.get? b=some u)(hp:s.heap.objs.size<=a)(new:yy X.prog X.w (upd H a o) h' a o):
  Inv X pins σ (upd H a o) {s with heap:=h',toks:=t'}:=I.un (Un.laid k hp (I.hok.fresh hp)) (I.hok.laid k hp new)
theorem Inv.write{x e:Addr}{o:HO}{t':Nat}(I:Inv X pins σ H s)(mu:Mut (H x))(he:e=x\/H e=some (.own x))(k: ∀b u,b≠e->s.heap.get? b=some u->h'.get? b=some u)(heo: ∃u,h'.get? e=some u)
  (new:yy X.prog X.w (upd H x o) h' x o):Inv X pins σ (upd H x o) {s with heap:=h',toks:=t'}:=I.un (Un.write mu he k heo) (I.hok.write mu he k heo new)
theorem Inv.weak{σ':List (Option V)}(I:Inv X pins σ H s)(hl:σ'.length=σ.length)(w: ∀(i:Nat) v,σ'[i]? =some (some v)->σ[i]? =some (some v)):Inv X pins σ' H s:=
 ⟨I.ok,I.os,I.bare,I.base,let ⟨m,hn,hl'⟩:=I.loc;⟨m,hn,λi x v e1 e2 e3=>hl' i x v e1 (w i v e2) e3⟩,I.cell,I.free,I.freeC,I.pin,I.hok,hl.trans I.len⟩
theorem Inv.pins_of{pins':List (Addr×Obj)}(I:Inv X pins σ H s)(h: ∀p∈pins',s.heap.get? p.1=some p.2/\H p.1=none/\p.1≠X.env.locals/\p.1∉X.fs/\ ∀v,p.2.data≠ .cell v):Inv X pins' σ H s:=
 ⟨I.ok,I.os,I.bare,I.base,I.loc,I.cell,I.free,I.freeC,λp hp=>(Jr.mp hp).elim (λz=>I.pin p (List.mem_append_left _ z)) (h p),I.hok,I.len⟩
theorem zhs{N:List Str}(hN:N.Nodup){j:Nat}(a:N[i]? =some x)(b:N[j]? =some x):i=j:=by
 obtain⟨h1,e1⟩:=Jc.mp a;obtain⟨h2,e2⟩:=Jc.mp b;exact(List.getElem_inj hN).mp (e1.trans e2.symm)
theorem zfZ{M:Model}{A:Around}{E:Value->Shared->Prop}{Q:Unit->Shared->Prop}(I:Inv X pins σ H s)(hN:X.N.Nodup)(hi:X.N[i]? =some x)(hx:Loc X.env.scope x)(r:zt v u)
  (h: ∀s',Inv X pins (σ.set i (some v)) H s'->(∃a,Heap.SameBut a s.heap s'.heap/\(a=X.env.locals\/X.env.cells.lookup x=some a))->Q () s') (hf:X.fn x=true\/X.env.scope.names.lookup x=some .local:=by first|exact .inl rfl|exact .inr rfl|assumption):wpAny M A (storeName X.env x u) Q E s:=by
 obtain⟨m,hn,hl⟩:=id I.loc;have hcls:(X.env.scope.kind== .class||(X.env.scope.kind== .module && X.env.locals !=X.env.globals))=false:=by rw[I.ok.kind];rfl
 have hiσ:i<σ.length:=by rw[I.len];exact(Jc.mp hi).1
 have cne:=I.cne;have tracked: ∀{a:Addr} {h':Heap},(∃o,s.heap.get? a=some o/\H a=none)->Heap.SameBut a s.heap h'->HOk X.prog X.w H h':=fun {a h'} ha hs b ob e=>by
  obtain⟨_,_,hfree⟩:=ha;refine(I.hok b ob e).stay (λc w' hc q=>(hs.2 c ?_).trans q) (λ_ q=>q) λ_ _ q=>q;rintro rfl;rcases hc with rfl|hc
  ·rw[hfree] at e;cases e
  ·rw[hfree] at hc;cases hc
 rcases hx with hk|hk
 ·refine wpAny_storeName_local hk hn (λh' hn' hs=> ?_) hcls;obtain⟨oL,_,_,hoL,_⟩:=id hn;refine h _ ⟨I.ok,I.os,I.bare,⟨λb o e n hb hx=> ?_,λb o e n hb hx=> ?_,I.base.free,λb o e hx=> ?_,I.base.tups,I.base.frzs,I.base.tbls⟩,⟨_,hn',λj y v' e1 e2 e3=> ?_⟩,λy c e=> ?_,I.free,I.freeC,λp hp=> ?_,tracked ⟨oL,hoL,I.free⟩ hs,by simpa using I.len⟩ ⟨_,hs, .inl rfl⟩
  ·exact(hs.2 b (JK (Jy (Qb e) I.ok.above))).trans (I.base.keep b o e n hb hx)
  ·obtain⟨sl,e1⟩:=I.base.slot b o e n hb hx;exact⟨sl,(hs.2 b (JK (Jy (Qb e) I.ok.above))).trans e1⟩
  ·obtain⟨o',e1⟩:=I.base.there b o e hx;exact⟨o',(hs.2 b (JK (Jy (Qb e) I.ok.above))).trans e1⟩
  ·by_cases hj:j=i
   ·subst hj;rw[hi] at e1;cases e1;rw[List.getElem?_set_self hiσ] at e2;cases e2;exact⟨u,r, .inl ⟨hk,by simp⟩⟩
   ·rw[List.getElem?_set_ne (Ne.symm hj)] at e2;obtain⟨u',r',q⟩:=hl j y v' e1 e2 e3;refine⟨u',r',?_⟩;rcases q with⟨k,e⟩|⟨k,c,e,z⟩
    ·refine .inl ⟨k,?_⟩
     have:y≠x:=λe=>hj (zhs hN e1 (e ▸ hi));simp [this,e]
    ·exact .inr ⟨k,c,e,z.sameBut hs (cne y c e)⟩
  ·obtain⟨w',z⟩:=I.cell y c e;exact⟨w',z.sameBut hs (cne y c e)⟩
  ·obtain⟨e,n,ne,nf,d⟩:=I.pin p hp;exact⟨(hs.2 p.1 ne).trans e,n,ne,nf,d⟩
 ·have hfn:X.fn x=true:=by
   rcases hf with z|z
   ·exact z
   ·rw[z] at hk;cases hk
  obtain⟨c,hc⟩:=I.ok.has x (.inl hk);obtain⟨w',z⟩:=I.cell x c hc;refine wpAny_storeName_cell I.ok.kind hk hc z (λh' hc' hs=> ?_);obtain⟨oc,hoc,hocd⟩:=id z;refine h {s with heap:=h'} ⟨I.ok,I.os,I.bare,⟨λb o e n hb hx=> ?_,λb o e n hb hx=> ?_,I.base.free,λb o e hx=> ?_,I.base.tups,I.base.frzs,I.base.tbls⟩,⟨m,hn.sameBut hs (Ne.symm (cne x c hc)),λj y v' e1 e2 e3=> ?_⟩,λy c' e=> ?_,I.free,I.freeC,λp hp=> ?_,tracked ⟨oc,hoc,I.freeC x c hc⟩ hs,by simpa using I.len⟩ ⟨c,hs, .inr hc⟩
  ·exact(hs.2 b (JK (Jy (Qb e) (I.ok.cab x c hfn hc)))).trans (I.base.keep b o e n hb hx)
  ·obtain⟨sl,e1⟩:=I.base.slot b o e n hb hx;exact⟨sl,(hs.2 b (JK (Jy (Qb e) (I.ok.cab x c hfn hc)))).trans e1⟩
  ·obtain⟨o',e1⟩:=I.base.there b o e hx;exact⟨o',(hs.2 b (JK (Jy (Qb e) (I.ok.cab x c hfn hc)))).trans e1⟩
  ·by_cases hj:j=i
   ·subst hj;rw[hi] at e1;cases e1;rw[List.getElem?_set_self hiσ] at e2;cases e2;exact⟨u,r, .inr ⟨.inl hk,c,hc,hc'⟩⟩
   ·rw[List.getElem?_set_ne (Ne.symm hj)] at e2;obtain⟨u',r',q⟩:=hl j y v' e1 e2 e3;refine⟨u',r',?_⟩;rcases q with q|⟨k,c',e,z'⟩
    ·exact .inl q
    ·refine .inr ⟨k,c',e,z'.sameBut hs ?_⟩;rintro rfl;exact hj (zhs hN e1 (I.ok.inj _ _ _ e hc ▸ hi))
  ·by_cases hcc:c'=c
   ·subst hcc;exact⟨_,hc'⟩
   ·obtain⟨w2,z2⟩:=I.cell y c' e;exact⟨w2,z2.sameBut hs hcc⟩
  ·obtain⟨e,n,ne,nf,d⟩:=I.pin p hp;refine⟨(hs.2 p.1 ?_).trans e,n,ne,nf,d⟩;intro q;rw[q,hoc] at e;have q':oc=p.2:=JV e;exact d w' (by rw[<-q'];exact hocd)
theorem jY{M:Model}{A:Around}{E:Value->Shared->Prop}{Q:Unit->Shared->Prop}(I:Inv X pins σ H s)(hN:X.N.Nodup)(hi:X.N[i]? =some x)(hx:Loc X.env.scope x)(r:zt v u)
  (h: ∀s',Inv X pins (σ.set i (some v)) H s'->Q () s') (hf:X.fn x=true\/X.env.scope.names.lookup x=some .local:=by first|exact .inl rfl|exact .inr rfl|assumption):wpAny M A (storeName X.env x u) Q E s:=
 zfZ I hN hi hx r (λs' I' _=>h s' I') hf
theorem Inv.call'{s':Shared}(I:Inv X pins σ H s)(ho:s'.os=s.os)(u:Un (frs X.stack) ch H H' s.heap s'.heap)(hok:HOk X.prog X.w H' s'.heap)(hg:AllBare s'.gens)
  (hch: ∀b∈ch,(b∈X.ex\/X.s₀.heap.objs.size<=b)/\b≠X.env.locals/\(∀x c,X.env.cells.lookup x=some c->c≠b)/\ ∀p∈X.pn++pins,p.1≠b):Inv X pins σ H' s':=by
 obtain⟨h',g',d',t',o'⟩:=s';have e:o'=s.os:=ho;subst e;exact I.call (g':=g') (t':=t') (d':=d') u hok hg hch
end
abbrev XK:=Value->Option Addr->Hp->Prop
abbrev St:=List (Option V)
abbrev VK:=V->Hp->Prop
abbrev TE:=St->Hp->VK->Prop
abbrev TT:=St->Hp->(Bool->Hp->Prop)->Prop
abbrev TA:=St->Hp->(List V->Hp->Prop)->Prop
structure Ends where
 nx:St->Hp->Prop
 rt:VK
 bk:St->Hp->Prop:=λ_ _=>False
 ct:St->Hp->Prop:=λ_ _=>False
abbrev TS:=Ends->St->Hp->Prop
def EP(X:Cx)(pins:List (Addr×Obj))(σ:St)(Q:VK)(u:Value)(s':Shared):Prop:= ∃v H',Inv X pins σ H' s'/\zt v u/\Q v H'
def TP(X:Cx)(pins:List (Addr×Obj))(σ:St)(Q:Bool->Hp->Prop)(b:Bool)(s':Shared):Prop:= ∃H',Inv X pins σ H' s'/\Q b H'
def AP(X:Cx)(pins:List (Addr×Obj))(σ:St)(Q:List V->Hp->Prop)(us:List Value)(s':Shared):Prop:= ∃vs H',Inv X pins σ H' s'/\zw vs us/\Q vs H'
def SP(X:Cx)(pins:List (Addr×Obj))(D:Ends)(f:Flow)(s':Shared):Prop:=
 match f with
 | .next=> ∃σ' H',Inv X pins σ' H' s'/\D.nx σ' H'
 | .brk=> ∃σ' H',Inv X pins σ' H' s'/\D.bk σ' H'
 | .cont=> ∃σ' H',Inv X pins σ' H' s'/\D.ct σ' H'
 | .ret u=> ∃v σ' H',Inv X pins σ' H' s'/\zt v u/\D.rt v H'
def PE(X:Cx)(e:Expr)(t:TE):Prop:=
 ∀(pins:List (Addr×Obj)) (s:Shared) (σ:St) (H:Hp) (Q:VK),Inv X pins σ H s->t σ H Q->wpAny (model X.prog X.w) X.A (eval e X.env) (EP X pins σ Q) X.xe s
def PT(X:Cx)(e:Expr)(t:TT):Prop:=
 ∀(pins:List (Addr×Obj)) (s:Shared) (σ:St) (H:Hp) (Q:Bool->Hp->Prop),Inv X pins σ H s->t σ H Q->wpAny (model X.prog X.w) X.A (isTrue e X.env (eval e X.env)) (TP X pins σ Q) X.xe s
def PW(X:Cx)(e:Expr)(t:TT):Prop:=
 ∀(whole:Sem Value) (pins:List (Addr×Obj)) (s:Shared) (σ:St) (H:Hp) (Q:Bool->Hp->Prop),Inv X pins σ H s->t σ H Q->wpAny (model X.prog X.w) X.A (isTrue e X.env whole) (TP X pins σ Q) X.xe s
theorem PW.pt{X:Cx}{t:TT}(h:PW X e t):PT X e t:=h _
def PA(X:Cx)(es:List Expr)(t:TA):Prop:=
 ∀(pos:Pos) (pins:List (Addr×Obj)) (s:Shared) (σ:St) (H:Hp) (Q:List V->Hp->Prop),Inv X pins σ H s->t σ H Q->wpAny (model X.prog X.w) X.A (spliced (backTo pos (starEach es X.env))) (AP X pins σ Q) X.xe s
def PS(X:Cx)(st:Stmt)(t:TS):Prop:=
 ∀(pins:List (Addr×Obj)) (s:Shared) (σ:St) (H:Hp) (D:Ends),Inv X pins σ H s->t D σ H->wpAny (model X.prog X.w) X.A (exec st X.env) (SP X pins D) X.xe s
def PSs(X:Cx)(st:List Stmt)(t:TS):Prop:=
 ∀(pins:List (Addr×Obj)) (s:Shared) (σ:St) (H:Hp) (D:Ends),Inv X pins σ H s->t D σ H->wpAny (model X.prog X.w) X.A (execs st X.env) (SP X pins D) X.xe s
theorem thn{α:Type}{t:Sem α}{Q Q':α->Shared->Prop}(h:wpAny M A t Q E s)(hQ: ∀a s,Q a s->Q' a s):wpAny M A t Q' E s:=wpAny_mono h hQ λ_ _ x=>x
section
variable {X:Cx}
def jZ(i:Nat):TE:=λσ H Q=> ∃v,σ[i]? =some (some v)/\Q v H
def tC(v:V):TE:=λ_ H Q=>Q v H
theorem zkZ{pos:Pos}(hN:X.N[i]? =some x)(hv:Vis X.env.scope x)(hd:(x==("__debug__":Str))=false:=by decide)(hcd:(x==("__classdict__":Str))=false:=by decide):PE X (.Name x pos) (jZ i):=by
 intro pins s σ H Q I h;obtain⟨v,e,h⟩:=h;obtain⟨m,hn,hl⟩:=I.loc;obtain⟨u,r,l⟩:=hl i x v hN e hv;have fin:EP X pins σ Q u s:=⟨v,H,I,r,h⟩
 rcases l with⟨hk,hm⟩|⟨hk,c,hc,hcell⟩
 ·exact wpAny_Name (wpAny_loadName_local I.ok.kind hk hn hm fin) hd
 ·rcases hk with hk|hk
  ·exact wpAny_Name (wpAny_loadName_cell I.ok.kind hk hc hcell fin) hd
  ·exact wpAny_Name (wpAny_loadName_free I.ok.kind hk hc hcell fin hcd) hd
theorem zc{i j pos}:PE X (.Constant (.int i) j pos) (tC (.int i)):=λ_ _ _ H _ I h=>wpAny_Constant_int ⟨.int i,H,I.tok _,⟨_,rfl⟩,h⟩
theorem wj{b j pos}:PE X (.Constant (.bool b) j pos) (tC (.bl b)):=λ_ _ _ H _ I h=>Constant_bool ⟨.bl b,H,I,rfl,h⟩
theorem zk0{j pos}:PE X (.Constant .none j pos) (tC .non):=λ_ _ _ H _ I h=>Constant_none ⟨.non,H,I,rfl,h⟩
theorem xQ{x j pos}:PE X (.Constant (.str x) j pos) (tC (.str x)):=λ_ _ _ H _ I h=>Calls.Constant_str ⟨.str x,H,I.tok _,⟨_,rfl⟩,h⟩
def Gl(X:Cx)(x:Str):Prop:=X.env.kindOf x=some .globalImplicit
theorem vV{E:Value->Shared->Prop}{pos:Pos}{Q:Value->Shared->Prop}(I:Inv X pins σ H s)(hg:Gl X x)(hm:X.mg x=some u)(h:Q u s)
  (hd:(x==("__debug__":Str))=false:=by decide):wpAny (model X.prog X.w) X.A (eval (.Name x pos) X.env) Q E s:=
 Calls.Name_function_global I.ok.kind hg (Calls.loadGlobal_global (by rw[I.ok.glob];exact I.mod.glob.keeps I.bk) hm h) hd
theorem wM{E:Value->Shared->Prop}{pos:Pos}{Q:Value->Shared->Prop}(I:Inv X pins σ H s)(hg:Gl X x)(hm:X.mg x=none)(hv:bootBuiltins x=some u)(h:Q u s)
  (hn:x≠"__name__":=by decide) (hd:(x==("__debug__":Str))=false:=by decide):wpAny (model X.prog X.w) X.A (eval (.Name x pos) X.env) Q E s:=by
 obtain⟨mb,h1,h2⟩:=I.mod.blt;exact Calls.Name_function_global I.ok.kind hg (Calls.loadGlobal_builtin (by rw[I.ok.glob];exact I.mod.glob.keeps I.bk) hm (by rw[I.ok.blt];exact h1.keeps I.bk) ((h2 x hn).trans hv) h) hd
theorem qF{pos:Pos}(hg:Gl X x)(hm:X.mg x=some u)(r:zt v u)(hd:(x==("__debug__":Str))=false:=by decide):PE X (.Name x pos) (tC v):=
 λ_ _ _ H _ I h=>vV I hg hm ⟨v,H,I,r,h⟩ hd
variable {a b:Expr} {ta tb:TE} {pos:Pos}
def tB(t:TE):TT:=λσ H Q=>t σ H λx H1=> ∃c,x= .bl c/\Q c H1
theorem vW{t:TE}(h:PE X e t)(he: ∀whole,isTrue e X.env whole=(do let v<-whole;standAt e.pos;holding [v] (truthy v)):=by intro _;rfl):PT X e (tB t):=by
 intro pins s σ H Q I hw
 refine isTrue_plain (thn (h pins s σ H _ I hw) λv s1 ⟨x,H1,I1,r1,q1⟩=> ?_) (he _)
 obtain⟨d,rfl,q⟩:=q1
 cases r1
 exact wpAny_truthy_bool ⟨H1,I1,q⟩
variable {tA tB':TT} {rest:List Expr}
def j3(t u:TT):TT:=λσ H Q=>t σ H λc H1=>if c=true then u σ H1 Q else Q false H1
def tOr(t u:TT):TT:=λσ H Q=>t σ H λc H1=>if c=true then Q true H1 else u σ H1 Q
def j4(t:TT):TT:=λσ H Q=>t σ H λc H1=>Q (!c) H1
theorem znp(ha:PT X a tA):PW X (.BoolOp .And [a] pos) tA:=by
 intro wh pins s σ H Q I h;refine isTrue_and (thn (ha pins s σ H Q I h) λc s1 e=> ?_);cases c with
 |true=>exact isTrue_and_nil e
 |false=>exact e
theorem zk1(ha:PT X a tA):PW X (.BoolOp .Or [a] pos) tA:=by
 intro wh pins s σ H Q I h;refine isTrue_or (thn (ha pins s σ H Q I h) λc s1 e=> ?_);cases c with
 |false=>exact isTrue_or_nil e
 |true=>exact e
theorem zoM(ha:PT X a tA)(hb:PW X (.BoolOp .And (b::rest) pos) tB'):PW X (.BoolOp .And (a::b::rest) pos) (j3 tA tB'):=by
 intro wh pins s σ H Q I h;refine isTrue_and (thn (ha pins s σ H _ I h) λc s1 ⟨H1,I1,q1⟩=> ?_);cases c with
 |true=>exact hb wh pins s1 σ H1 Q I1 q1
 |false=>exact⟨H1,I1,q1⟩
theorem zom(ha:PT X a tA)(hb:PW X (.BoolOp .Or (b::rest) pos) tB'):PW X (.BoolOp .Or (a::b::rest) pos) (tOr tA tB'):=by
 intro wh pins s σ H Q I h;refine isTrue_or (thn (ha pins s σ H _ I h) λc s1 ⟨H1,I1,q1⟩=> ?_);cases c with
 |true=>exact⟨H1,I1,q1⟩
 |false=>exact hb wh pins s1 σ H1 Q I1 q1
theorem zoN(ha:PT X a tA):PT X (.UnaryOp .Not a pos) (j4 tA):=by
 intro pins s σ H Q I h;exact isTrue_not (ha pins s σ H (λc H1=>Q (!c) H1) I h)
def zon(ta tb:TE):TE:=λσ H Q=>ta σ H λx H1=> ∃c,x= .bl c/\if c=true then tb σ H1 Q else Q (.bl false) H1
def zqG(ta tb:TE):TE:=λσ H Q=>ta σ H λx H1=> ∃c,x= .bl c/\if c=true then Q (.bl true) H1 else tb σ H1 Q
theorem zk2{op}{t:TE}(h:PE X a t):PE X (.BoolOp op [a] pos) t:=λpins s σ H Q I hw=>BoolOp_one (h pins s σ H Q I hw)
theorem zoO(ha:PE X a ta)(hb:PE X (.BoolOp .And (b::rest) pos) tb):PE X (.BoolOp .And (a::b::rest) pos) (zon ta tb):=by
 intro pins s σ H Q I h;refine BoolOp_and (thn (ha pins s σ H _ I h) λv s1 ⟨x,H1,I1,r1,q1⟩=> ?_);obtain⟨c,rfl,q1⟩:=q1;cases r1;refine wpAny_truthy_bool ?_;cases c with
 |true=>exact hb pins s1 σ H1 Q I1 q1
 |false=>exact⟨.bl false,H1,I1,rfl,q1⟩
theorem zqH(ha:PE X a ta)(hb:PE X (.BoolOp .Or (b::rest) pos) tb):PE X (.BoolOp .Or (a::b::rest) pos) (zqG ta tb):=by
 intro pins s σ H Q I h;refine BoolOp_or (thn (ha pins s σ H _ I h) λv s1 ⟨x,H1,I1,r1,q1⟩=> ?_);obtain⟨c,rfl,q1⟩:=q1;cases r1;refine wpAny_truthy_bool ?_;cases c with
 |false=>exact hb pins s1 σ H1 Q I1 q1
 |true=>exact⟨.bl true,H1,I1,rfl,q1⟩
def tIf(t:TT)(ta tb:TE):TE:=λσ H Q=>t σ H λc H1=>if c=true then ta σ H1 Q else tb σ H1 Q
theorem zk3(hc:PT X c tA)(ha:PE X a ta)(hb:PE X b tb):PE X (.IfExp c a b pos) (tIf tA ta tb):=by
 intro pins s σ H Q I h;refine wpAny_IfExp (thn (hc pins s σ H _ I h) λd s1 ⟨H1,I1,q1⟩=> ?_);cases d with
 |true=>exact ha pins s1 σ H1 Q I1 q1
 |false=>exact hb pins s1 σ H1 Q I1 q1
end
def SqL(K:Fg)(H:Hp)(a:Addr)(xs:List V):Prop:=
 Rd H a (.lst xs)\/
  ∃(o:Obj) (its:Array Value) (n:Nat),K.lookup a=some o/\o.cls= .type "list"/\o.dict=none/\o.data= .seq its n/\its.size<=sizeLine/\zw xs its.toList
def SqT(K:Fg)(H:Hp)(a:Addr)(xs:List V):Prop:=
 Rd H a (.tup xs)\/
  ∃(o:Obj) (its:Array Value) (n:Nat),K.lookup a=some o/\o.cls= .type "tuple"/\o.data= .seq its n/\its.size<=sizeLine/\zw xs its.toList
def zrF:Value->Option V
 | .none=>some .non
 | .bool b=>some (.bl b)
 | .int i _=>some (.int i)
 | .str x _=>some (.str x)
 | .bytes b _=>some (.byt b)
 | .float b _=>some (.flt b)
 | .ref a=>some (.ref a)
 | .type n=>some (.ty n)
 |_=>none
theorem zt.abs{x:V}(r:zt x u):zrF u=some x:=by
 cases x with
 |non=>cases r;rfl
 |bl _=>cases r;rfl
 |int _=>obtain⟨t,rfl⟩:=r;rfl
 |str _=>obtain⟨t,rfl⟩:=r;rfl
 |byt _=>obtain⟨t,rfl⟩:=r;rfl
 |flt _=>obtain⟨t,rfl⟩:=r;rfl
 |ref _=>cases r;rfl
 |ty _=>cases r;rfl
theorem zt.inj{x y:V}{u:Value}(r:zt x u)(q:zt y u):x=y:=JV (r.abs.symm.trans q.abs)
theorem zw.inj: ∀{xs ys:List V} {us:List Value},zw xs us->zw ys us->xs=ys
 |_,_,_, .nil, .nil=>rfl
 |_,_,_, .cons r t, .cons r' t'=>by rw[r.inj r',zw.inj t t']
section
variable {X:Cx} {pins:List (Addr×Obj)} {σ:St} {H:Hp} {s:Shared} {a:Addr} {xs ys:List V}
theorem SqL.of(h:H a=some (.lst xs)):SqL K H a xs:= .inl (.inl h)
theorem SqT.of(h:H a=some (.tup xs)):SqT K H a xs:= .inl (.inl h)
theorem Inv.list(I:Inv X pins σ H s)(h:SqL X.K H a xs): ∃its:List Value,zw xs its/\PlainL s.heap a its.toArray/\xs.length<=sizeLine:=by
 rcases h with h|⟨o,its,n,hk,hc,hd,hs,hz,r⟩
 ·obtain⟨z,its,n,r,e⟩:=h.ok I.hok;exact⟨its,r,⟨_,n,e,rfl,rfl,rfl⟩,z⟩
 ·refine⟨its.toList,r,⟨o,n,I.kIn a o hk,hc,hd,by simpa using hs⟩,?_⟩;have e:=r.length;simp only[Jx] at e;omega
theorem Inv.tuple(I:Inv X pins σ H s)(h:SqT X.K H a xs): ∃its:List Value,zw xs its/\IsTup s.heap a its.toArray/\xs.length<=sizeLine:=by
 rcases h with h|⟨o,its,n,hk,hc,hs,hz,r⟩
 ·obtain⟨z,its,r,p⟩:=h.ok I.hok;exact⟨its,r,p,z⟩
 ·refine⟨its.toList,r,⟨o,I.kIn a o hk,hc,n,by simpa using hs⟩,?_⟩;have e:=r.length;simp only[Jx] at e;omega
theorem Inv.list_inj(I:Inv X pins σ H s)(h:SqL X.K H a xs)(h':SqL X.K H a ys):xs=ys:=by
 obtain⟨its,r,⟨o,n,e,_,_,d⟩,_⟩:=I.list h;obtain⟨its',r',⟨o',n',e',_,_,d'⟩,_⟩:=I.list h';rw[e] at e';cases e';rw[d] at d';injection d' with d1 _
 have:its=its':=by simpa using congrArg Array.toList d1
 subst this;exact r.inj r'
theorem Inv.tuple_inj(I:Inv X pins σ H s)(h:SqT X.K H a xs)(h':SqT X.K H a ys):xs=ys:=by
 obtain⟨its,r,⟨o,e,_,n,d⟩,_⟩:=I.tuple h;obtain⟨its',r',⟨o',e',_,n',d'⟩,_⟩:=I.tuple h';rw[e] at e';cases e';rw[d] at d';injection d' with d1 _
 have:its=its':=by simpa using congrArg Array.toList d1
 subst this;exact r.inj r'
end
section
variable {X:Cx} {pins:List (Addr×Obj)} {σ:St} {H:Hp} {s:Shared} {E:Value->Shared->Prop}
end
section
variable {X:Cx} {st:Stmt} {rest:List Stmt} {t u:TS} {e:Expr} {te:TE} {pos:Pos}
def zoo:TS:=λD σ H=>D.nx σ H
def zqI(t u:TS):TS:=λD σ H=>t {D with nx:=u D} σ H
theorem zQ:PSs X [] zoo:=λ_ _ σ H _ I h=>wpAny_execs_nil ⟨σ,H,I,h⟩
theorem zj(h1:PS X st t)(h2:PSs X rest u):PSs X (st::rest) (zqI t u):=by
 intro pins s σ H D I h;refine wpAny_execs_cons (thn (h1 pins s σ H {D with nx:=u D} I h) λf s1 q=> ?_);cases f with
 |next=>
  obtain⟨σ',H',I',q⟩:=q;exact h2 pins s1 σ' H' D I' q
 |ret v=>exact q
 |brk=>exact q
 |cont=>exact q
theorem zk(h1:PS X st t):PSs X [st] t:=by
 intro pins s σ H D I h;refine wpAny_execs_cons (thn (h1 pins s σ H D I h) λf s1 q=> ?_);cases f with
 |next=>exact wpAny_execs_nil q
 |ret v=>exact q
 |brk=>exact q
 |cont=>exact q
def j5:TS:=λD σ H=>D.bk σ H
theorem zht:PS X (.Break pos) j5:=λ_ _ σ H _ I h=>wpAny_Break ⟨σ,H,I,h⟩
theorem Inv.quiet(I:Inv X pins σ H s):interactive X.env=false:=by simp [interactive,I.ok.kind]
def zop(te:TE):TS:=λD σ H=>te σ H λ_ H1=>D.nx σ H1
theorem qe(he:PE X e te)(hs:swapsWith e none pos.line X.env=pure false:=by rfl):PS X (.Expr e pos) (zop te):=by
 intro pins s σ H D I h;exact wpAny_Expr_any (thn (he pins s σ H _ I h) λv s1 ⟨x,H1,I1,r1,q1⟩=>⟨σ,H1,I1,q1⟩) I.quiet hs
def zqJ(te:TE):TS:=λD σ H=>te σ H D.rt
theorem zB(he:PE X e te):PS X (.Return (some e) pos) (zqJ te):=by
 intro pins s σ H D I h;exact wpAny_Return_some (thn (he pins s σ H _ I h) λv s1 ⟨x,H1,I1,r1,q1⟩=>⟨x,σ,H1,I1,r1,q1⟩)
def j6(c:TT)(t u:TS):TS:=λD σ H=>c σ H λb H1=>if b=true then t D σ H1 else u D σ H1
theorem zqK{a b:List Stmt}{tc:TT}(hc:PT X c tc)(ha:PSs X a t)(hb:PSs X b u):PS X (.If c a b pos) (j6 tc t u):=by
 intro pins s σ H D I h;refine wpAny_If (thn (hc pins s σ H _ I h) λd s1 ⟨H1,I1,q1⟩=> ?_);cases d with
 |true=>exact ha pins s1 σ H1 D I1 q1
 |false=>exact hb pins s1 σ H1 D I1 q1
end
abbrev TG:=V->St->Hp->(St->Hp->Prop)->Prop
abbrev TGs:=List V->St->Hp->(St->Hp->Prop)->Prop
def PG(X:Cx)(target:Expr)(t:TG):Prop:=
 ∀(pins:List (Addr×Obj)) (s:Shared) (σ:St) (H:Hp) (v:V) (u:Value) (Q:St->Hp->Prop),Inv X pins σ H s->zt v u->t v σ H Q->
  wpAny (model X.prog X.w) X.A (assign target X.env u) (λ_ s'=> ∃σ' H',Inv X pins σ' H' s'/\Q σ' H') X.xe s
def PGs(X:Cx)(ts:List Expr)(t:TGs):Prop:=
 ∀(pins:List (Addr×Obj)) (s:Shared) (σ:St) (H:Hp) (vs:List V) (us:List Value) (Q:St->Hp->Prop),Inv X pins σ H s->zw vs us->t vs σ H Q->
  wpAny (model X.prog X.w) X.A (assignInOrder ((assignEach ts X.env).map (·.2)) us) (λ_ s'=> ∃σ' H',Inv X pins σ' H' s'/\Q σ' H') X.xe s
abbrev j7:=V->V->V->Hp->(Hp->Prop)->Prop
def zqL(X:Cx)(t:j7):Prop:=
 ∀(pins:List (Addr×Obj)) (s:Shared) (σ:St) (H:Hp) (o i v:V) (ov iv u:Value) (Q:Hp->Prop),Inv X pins σ H s->zt o ov->zt i iv->zt v u->t o i v H Q->
  wpAny (model X.prog X.w) X.A (setItem ov iv u) (λ_ s'=> ∃H',Inv X pins σ H' s'/\Q H') X.xe s
abbrev TIp:=V->V->Hp->VK->Prop
def PIp(X:Cx)(op:Operator)(t:TIp):Prop:=
 ∀(pins:List (Addr×Obj)) (s:Shared) (σ:St) (H:Hp) (x y:V) (v u:Value) (Q:VK),Inv X pins σ H s->zt x v->zt y u->t x y H Q->
  wpAny (model X.prog X.w) X.A (inplaceOp op v u) (EP X pins σ Q) X.xe s
section
variable {X:Cx} {pos:Pos}
def xE(i:Nat):TG:=λv σ H Q=>Q (σ.set i (some v)) H
theorem zq(hN:X.N.Nodup)(hi:X.N[i]? =some x)(hx:Loc X.env.scope x)(hf:X.fn x=true\/X.env.scope.names.lookup x=some .local:=by first|exact .inl rfl|exact .inr rfl|assumption):PG X (.Name x pos) (xE i):=by
 intro pins s σ H v u Q I r h;exact wpAny_assign_Name (jY I hN hi hx r (λs' I'=>⟨_,H,I',h⟩) hf)
def vX:TGs:=λvs σ H Q=>vs= []/\Q σ H
def wN(t:TG)(u:TGs):TGs:=λvs σ H Q=> ∃v r,vs=v::r/\t v σ H λσ' H'=>u r σ' H' Q
theorem xF:PGs X [] vX:=by
 intro pins s σ H vs us Q I r h;obtain⟨e,h⟩:=h;subst e;cases r;exact assignInOrder_nil ⟨σ,H,I,h⟩
theorem yR{es:List Expr}{t:TG}{u:TGs}(h1:PG X e t)(h2:PGs X es u)
  (hs:(assignEach (e::es) X.env).map (·.2)=assign e X.env::(assignEach es X.env).map (·.2):=by rfl):PGs X (e::es) (wN t u):=by
 intro pins s σ H vs us Q I r h;obtain⟨v,vr,e1,h⟩:=h;subst e1;cases r with
 |cons r rr=>
  rw[hs];refine assignInOrder_cons (thn (h1 pins s σ H _ _ _ I r h) λ_ s1 ⟨σ1,H1,I1,q1⟩=> ?_);exact h2 pins s1 σ1 H1 _ _ Q I1 rr q1
def j8(K:Fg)(n:Nat)(t:TGs):TG:=λv σ H Q=> ∃a xs,v= .ref a/\SqT K H a xs/\xs.length=n/\t xs σ H Q
theorem z7{es:List Expr}{k:Nat}{t:TGs}{n:Nat}(hc:X.calm=true)(h:PGs X es t)
  (hn:(assignEach es X.env).length=n:=by rfl) (hst:(assignEach es X.env).findIdx? (·.1)=none:=by rfl):PG X (.Tuple es k pos) (j8 X.K n t):=by
 intro pins s σ H v u Q I r hw;obtain⟨a,xs,e1,hq,hl,hw⟩:=hw;subst e1;cases r;obtain⟨its,rv,ht,hz⟩:=I.tuple hq;refine assign_Tuple_tuple (I.ok.hd hc) ht (by simp [hn,<-hl,rv.length]) hst λh' hx=> ?_;have I1:Inv X pins σ H {s with heap:=h'}:=I.kept (t':=s.toks) λb o e=>hx b o (JK (Qb e)) e;exact h pins _ σ H xs _ Q I1 (by simpa using rv) hw
def zrG(to ti:TE)(t:j7):TG:=λv σ H Q=>to σ H λo H1=>ti σ H1 λi H2=>t o i v H2 λH3=>Q σ H3
theorem zoS{o i:Expr}{to ti:TE}{t:j7}(ho:PE X o to)(hi:PE X i ti)(hs:zqL X t)
  (ha: ∀v,assign (.Subscript o i pos) X.env v=(do
   let ov<-holding [v] (eval o X.env)
   let iv<-holding [v,ov] (eval i X.env)
   standAt pos
   holding [v,ov,iv] (setItem ov iv v)
   release [v,ov,iv] []):=by intro _;rfl):PG X (.Subscript o i pos) (zrG to ti t):=by
 intro pins s σ H v u Q I r h;rw[ha];refine JW (wpAny_holding (thn (ho pins s σ H _ I h) λov s1 ⟨x,H1,I1,r1,q1⟩=> ?_));refine JW (wpAny_holding (thn (hi pins s1 σ H1 _ I1 q1) λiv s2 ⟨y,H2,I2,r2,q2⟩=> ?_));refine JW (wpAny_standAt (JW (wpAny_holding (thn (hs pins s2 σ H2 x y v ov iv u _ I2 r1 r2 r q2) λ_ s3 ⟨H3,I3,q3⟩=> ?_))));exact wpAny_release ⟨σ,H3,I3,q3⟩
def vY(te:TE)(g:TG):TS:=λD σ H=>te σ H λx H1=>g x σ H1 D.nx
theorem yv(he:PE X e te)(hg:PG X tg g)(hs:swapsWithSole [tg] e pos.line X.env=pure false:=by rfl)(hw:swappedStores [tg] e X.env=pure none:=by rfl)
  (h1:(assignEach [tg] X.env).map (·.2)= [assign tg X.env]:=by rfl):PS X (.Assign [tg] e pos) (vY te g):=by
 intro pins s σ H D I h;refine wpAny_Assign_stores (thn (he pins s σ H _ I h) λv s1 ⟨x,H1,I1,r1,q1⟩=> ?_) hs hw;rw[h1];exact thn (hg pins s1 σ H1 x v _ I1 r1 q1) λ_ s2 q=>q
theorem uJ{pos':Pos}(hN:X.N.Nodup)(hi:X.N[i]? =some x)(hx:Loc X.env.scope x)(he:PE X e te)(hs:swapsWith e (some (.Name x pos')) pos.line X.env=pure false:=by rfl)(hf:X.fn x=true\/X.env.scope.names.lookup x=some .local:=by first|exact .inl rfl|exact .inr rfl|assumption):
  PS X (.Assign [.Name x pos'] e pos) (vY te (xE i)):=by
 intro pins s σ H D I h;refine wpAny_Assign_Name (thn (he pins s σ H _ I h) λv s1 ⟨y,H1,I1,r1,q1⟩=> ?_) hs;exact jY I1 hN hi hx r1 (λs2 I2=>⟨_,H1,I2,q1⟩) hf
def zqM(i:Nat)(te:TE)(ti:TIp):TS:=λD σ H=> ∃x,σ[i]? =some (some x)/\te σ H λy H1=>ti x y H1 λz H2=>D.nx (σ.set i (some z)) H2
theorem zoT{ti:TIp}{pos':Pos}(hN:X.N.Nodup)(hi:X.N[i]? =some x)(hx:Loc X.env.scope x)(he:PE X e te)(ho:PIp X op ti)(hf:X.fn x=true\/X.env.scope.names.lookup x=some .local:=by first|exact .inl rfl|exact .inr rfl|assumption):
  PS X (.AugAssign (.Name x pos') op e pos) (zqM i te ti):=by
 intro pins s σ H D I h;obtain⟨v,e1,h⟩:=h;obtain⟨m,hn,hl⟩:=I.loc;have vis:Vis X.env.scope x:=by rcases hx with k|k;exact .inl k;exact .inr (.inl k)
 obtain⟨u,r,l⟩:=hl i x v hi e1 vis;refine wpAny_AugAssign_Name ?_;have go:wpAny (model X.prog X.w) X.A (eval e X.env) (λw s₂=>wpAny (model X.prog X.w) X.A (inplaceOp op u w) (λr s₃=>wpAny (model X.prog X.w) X.A (storeName X.env x r) (λ_=>SP X pins D .next) X.xe s₃) X.xe s₂) X.xe s:=by
  refine thn (he pins s σ H _ I h) λw s1 ⟨y,H1,I1,r1,q1⟩=> ?_;refine thn (ho pins s1 σ H1 v y u w _ I1 r r1 q1) λz s2 ⟨zv,H2,I2,r2,q2⟩=> ?_;exact jY I2 hN hi hx r2 (λs3 I3=>⟨_,H2,I3,q2⟩) hf
 rcases l with⟨hk,hm⟩|⟨hk,c,hc,hcell⟩
 ·exact wpAny_loadName_local I.ok.kind hk hn hm go
 ·rcases hk with hk|hk
  ·exact wpAny_loadName_cell I.ok.kind hk hc hcell go
  ·rcases hx with k|k
   ·have:X.env.scope.names.lookup x=some .free:=hk;rw[k] at this;cases this
   ·have:X.env.scope.names.lookup x=some .free:=hk;rw[k] at this;cases this
def ipI(f:Int->Int->Int):TIp:=λx y H Q=> ∃i j,x= .int i/\y= .int j/\Q (.int (f i j)) H
theorem zoU:PIp X .Add (ipI λi j=>i+j):=by
 intro pins s σ H x y v u Q I r1 r2 h;obtain⟨i,j,e1,e2,q⟩:=h;subst e1;subst e2;obtain⟨t,rfl⟩:=r1;obtain⟨t',rfl⟩:=r2;exact iadd_int ⟨.int _,H,I.tok _,⟨_,rfl⟩,q⟩
theorem zoV:PIp X .Sub (ipI λi j=>i - j):=by
 intro pins s σ H x y v u Q I r1 r2 h;obtain⟨i,j,e1,e2,q⟩:=h;subst e1;subst e2;obtain⟨t,rfl⟩:=r1;obtain⟨t',rfl⟩:=r2;exact isub_int ⟨.int _,H,I.tok _,⟨_,rfl⟩,q⟩
end
section
variable {X:Cx} {pos:Pos}
def zk6(c:TT)(tb:TS):TS:=λD σ H=> ∃W:Nat->St->Hp->Prop,(∃m,W m σ H)/\ ∀m σ H,W m σ H->
 c σ H λb H1=>if b=true then∃N:St->Hp->Prop,(∀σ' H',N σ' H'-> ∃m',m'<m/\W m' σ' H')/\tb {D with nx:=N,ct:=N,bk:=D.nx} σ H1 else D.nx σ H1
theorem zhu{tc:TT}(hp:PassesOwn (model X.prog X.w) X.A X.env X.xe)(hc:PT X c tc)(hb:PSs X body tb):PS X (.While c body [] pos) (zk6 tc tb):=by
 intro pins s σ H D I h;obtain⟨W,⟨m0,w0⟩,turn⟩:=h;refine wpAny_While (codeAny_whileLoop (λn s'=> ∃σ' H',Inv X pins σ' H' s'/\W n σ' H') ?_ m0 ⟨σ,H,I,w0⟩);rintro n s1 ⟨σ1,H1,I1,w1⟩;refine wpAny_passesOwn hp (thn (hc pins s1 σ1 H1 _ I1 (turn n σ1 H1 w1)) λb s2 ⟨H2,I2,q2⟩=> ?_);cases b with
 |true=>
  obtain⟨N,hN,q2⟩:=q2;rw[Jg rfl];refine wpAny_passesOwn hp (thn (hb pins s2 σ1 H2 _ I2 q2) λf s3 q3=> ?_);cases f with
  |next=>
   obtain⟨σ3,H3,I3,n3⟩:=q3;obtain⟨m',hm,w3⟩:=hN σ3 H3 n3;exact⟨m',hm,σ3,H3,I3,w3⟩
  |cont=>
   obtain⟨σ3,H3,I3,n3⟩:=q3;obtain⟨m',hm,w3⟩:=hN σ3 H3 n3;exact⟨m',hm,σ3,H3,I3,w3⟩
  |brk=>exact q3
  |ret v=>exact q3
 |false=>
  rw[Jf Ju];exact wpAny_execs_nil ⟨σ1,H2,I2,q2⟩
end
structure It where
 go:Nat->Hp->Prop
 yld:Nat->Hp->V->Hp->Prop
 stop:Nat->Hp->Prop
def xg(X:Cx)(pins:List (Addr×Obj))(H:Hp)(b:Addr):Prop:=
 H b=none/\b≠X.env.locals/\b∉X.fs/\(b∈X.ex\/X.s₀.heap.objs.size<=b)/\(∀x c,X.env.cells.lookup x=some c->c≠b)/\ ∀p∈X.pn++pins,p.1≠b
theorem Inv.fpOk{X:Cx}{H':Hp}(I:Inv X pins σ H s)(hb:s.heap.objs.size<=b)(hn:H' b=none):xg X pins H' b:=by
 refine⟨hn,Nat.ne_of_gt (Jy I.lt hb),I.nofs hb, .inr (JE I.sz hb),λx c e z=> ?_,λp hp z=> ?_⟩
 ·obtain⟨v,q⟩:=I.cell x c e;exact absurd (Jy q.lt (by rw[z];exact hb)) (Nat.lt_irrefl _)
 ·exact absurd (Jy (Qb (I.pin p hp).1) (by rw[z];exact hb)) (Nat.lt_irrefl _)
structure Turn (P:Program) (w:World) (K:Fg) (tg:Expr) (J:It) (fp:List Addr) (it:Addr) (tn:Nat->Heap->Prop):Prop where
 mem:it∈fp
 obj: ∀i h,tn i h-> ∀b∈fp,∃o,h.get? b=some o/\ ∀v,o.data≠ .cell v
 keep: ∀i h h',tn i h->(∀b∈fp,∀o,h.get? b=some o->h'.get? b=some o)->tn i h'
 item: ∀(X:Cx),X.prog=P->X.w=w->X.K=K->X.calm=true-> ∀(i:Nat) (pins:List (Addr×Obj)) (s:Shared) (σ:St) (H:Hp) (E:Value->Shared->Prop),Inv X pins σ H s->(∀b∈fp,xg X pins H b)->tn i s.heap->J.go i H->
  wpAny (model P w) X.A (pyNext (.ref it)) (λr s1=> ∃u,r=some u/\
   wpAny (model P w) X.A (letOwnedTupleGo tg (.ref it) u) (λ_ s2=> ∃x H',Inv X pins σ H' s2/\zt x u/\J.yld i H x H'/\tn (i+1) s2.heap/\ ∀b∈fp,H' b=none) E s1) E s
 done: ∀(X:Cx),X.prog=P->X.w=w->X.K=K->X.calm=true-> ∀(i:Nat) (pins:List (Addr×Obj)) (s:Shared) (σ:St) (H:Hp) (E:Value->Shared->Prop),Inv X pins σ H s->(∀b∈fp,xg X pins H b)->tn i s.heap->J.stop i H->
  wpAny (model P w) X.A (pyNext (.ref it)) (λr s1=>r=none/\Inv X pins σ H s1) E s
 self: ∀(A:Around) (i:Nat) (s:Shared) (Q:Value->Shared->Prop) (E:Value->Shared->Prop),tn i s.heap->Q (.ref it) s->wpAny (model P w) A (pyIter (.ref it)) Q E s
abbrev TI:=St->Hp->(It->Hp->Prop)->Prop
def PIE(X:Cx)(pins:List (Addr×Obj))(σ:St)(tg:Expr)(R:It->Hp->Prop)(itv:Value)(s2:Shared):Prop:=
 ∃(it:Addr) (fp:List Addr) (tn:Nat->Heap->Prop) (J:It) (H':Hp),itv= .ref it/\Inv X pins σ H' s2/\Turn X.prog X.w X.K tg J fp it tn/\tn 0 s2.heap/\(∀b∈fp,xg X pins H' b)/\R J H'
def PI(X:Cx)(tg iter:Expr)(wi:TI):Prop:=
 ∀(pins:List (Addr×Obj)) (s:Shared) (σ:St) (H:Hp) (R:It->Hp->Prop),Inv X pins σ H s->wi σ H R->
  wpAny (model X.prog X.w) X.A (eval iter X.env) (λv s1=>wpAny (model X.prog X.w) X.A (pyIter v) (PIE X pins σ tg R) X.xe s1) X.xe s
theorem j9{M:Model}{A:Around}{E:Value->Shared->Prop}{tg:Expr}{it:Addr}{u:Value}{o:Obj}{n:String}{vs:Array Value}{Q:Unit->Shared->Prop}(ho:s.heap.get? it=some o)(hc:o.cls= .type n)(hd:o.data= .fields vs)
  (hn: ["enumerate","zip","dict_itemiterator","dict_reverseitemiterator","odict_iterator","itertools.zip_longest","itertools.pairwise"].contains n=false) (hQ:Q () s):wpAny M A (letOwnedTupleGo tg (.ref it) u) Q E s:=by
 unfold letOwnedTupleGo;cases tg<;>first
  |exact JX hQ
  |(cases u<;>first
    |exact JX hQ
    |(refine JW (wpAny_load ho ?_)
      rw[hc,hd];show wpAny M A (if (["enumerate","zip","dict_itemiterator","dict_reverseitemiterator","odict_iterator","itertools.zip_longest","itertools.pairwise"].contains n && vs[0]? ==some (rawInt _))=true then _ else _) Q E s;rw[Jf (by intro h;rw[hn,Bool.false_and] at h;cases h)];exact JX hQ))
def Itl(K:Fg)(a:Addr):It:=
 ⟨λi H=> ∃xs x,SqL K H a xs/\xs[i]? =some x,λi H x H'=>H'=H/\ ∀xs,SqL K H a xs->xs[i]? =some x,λi H=> ∃xs,SqL K H a xs/\xs.length<=i⟩
def Itr(lo:Int)(n:Nat):It:=⟨λi _=>i<n,λi H x H'=>H'=H/\x= .int (lo+i),λi _=>n<=i⟩
theorem zkd(a it:Addr):Turn P w K tg (Itl K a) [it] it (λi h=>h.IsListIter it a i) where
 mem:=by simp
 obj:=λi h st b hb=>by
  have e:b=it:=by simpa using hb
  subst e;obtain⟨o,e,c,d⟩:=st;exact⟨o,e,λv z=>by rw[d] at z;cases z⟩
 keep:=λi h h' st k=>st.at λo e=>k it (by simp) o e
 item:=by
  intro X hP hw hK hc i pins s σ H E I hf st hg;subst hP hw hK;obtain⟨xs,x,hq,hx⟩:=hg;obtain⟨its,rv,p,hz⟩:=I.list hq;obtain⟨u,hu,ru⟩:=rv.get hx;obtain⟨f0,f1,f2,f3,f4,f5⟩:=hf it (by simp);refine wpAny_pyNext_list_item st p.isList (x:=u) (by simpa using hu) λh' st' sb=> ?_;have I1:Inv X pins σ H {s with heap:=h'}:=I.turned (t':=s.toks) (λb o hb e=>(sb.2 b hb).trans e) f0 f1 f3 f4 f5;obtain⟨o,e,c,d⟩:=id st';exact⟨u,rfl,j9 (s:={s with heap:=h'}) e c d 'd' ⟨x,H,I1,ru,⟨rfl,λys hy=>by rw[I.list_inj hy hq];exact hx⟩,st',λb hb=>(hf b hb).1⟩⟩
 done:=by
  intro X hP hw hK hc i pins s σ H E I hf st hg;subst hP hw hK;obtain⟨xs,hq,hx⟩:=hg;obtain⟨its,rv,p,hz⟩:=I.list hq;obtain⟨f0,f1,f2,f3,f4,f5⟩:=hf it (by simp);have hl:=rv.length;exact wpAny_pyNext_list_end (I.ok.hd hc) st p.isList (by simp;omega) λh' eb=>⟨rfl,I.turned (t':=s.toks) (λb o hb e=>eb b o hb e) f0 f1 f3 f4 f5⟩
 self:=λ_ _ _ _ _ st h=>wpAny_pyIter_listiter st h
theorem ziw(it:Addr)(lo:Int)(n:Nat):Turn P w K tg (Itr lo n) [it] it (λi h=>IsRangeIter h it (lo+(i:Nat)*1) ((n:Int) - (i:Nat)) 1) where
 mem:=by simp
 obj:=λi h st b hb=>by
  have e:b=it:=by simpa using hb
  subst e;exact⟨_,st,λv z=>by
   have z':Data.fields _=Data.cell v:=z;cases z'⟩
 keep:=λi h h' st k=>k it (by simp) _ st
 item:=by
  intro X hP hw hK hc i pins s σ H E I hf st hg;subst hP hw hK;obtain⟨f0,f1,f2,f3,f4,f5⟩:=hf it (by simp);have W:=Walks.range (prog:=X.prog) (w:=X.w) (I.ok.hd hc) it lo 1 n;refine W.item i s _ _ hg st λv h' tk hv st' kk=> ?_;obtain⟨t,rfl⟩:=hv;have I1:Inv X pins σ H {s with heap:=h',toks:=tk}:=I.turned (λb o hb e=>kk b o (by simpa using hb) e) f0 f1 f3 f4 f5;refine⟨_,rfl,j9 (s:={s with heap:=h',toks:=tk}) (n:="range_iterator") st' rfl rfl 'd' ⟨.int (lo+i),H,I1,⟨t,?_⟩,⟨rfl,rfl⟩,st',λb hb=>(hf b hb).1⟩⟩;rw[Int.mul_one]
 done:=by
  intro X hP hw hK hc i pins s σ H E I hf st hg;subst hP hw hK;obtain⟨f0,f1,f2,f3,f4,f5⟩:=hf it (by simp);exact wpAny_pyNext_range_end (I.ok.hd hc) st (by have:n<=i:=hg;omega) λh' eb=>⟨rfl,I.turned (t':=s.toks) (λb o hb e=>eb b o hb e) f0 f1 f3 f4 f5⟩
 self:=λ_ _ _ _ _ st h=>wpAny_pyIter_rangeiter st h
section
variable {X:Cx} {tg:Expr}
def yr(K:Fg)(tl:TE):TI:=λσ H R=>tl σ H λx H1=> ∃a,x= .ref a/\(∃xs,SqL K H1 a xs)/\R (Itl K a) H1
theorem qb{l:Expr}{tl:TE}(hl:PE X l tl):PI X tg l (yr X.K tl):=by
 intro pins s σ H R I h;refine thn (hl pins s σ H _ I h) λv s1 ⟨x,H1,I1,r1,q1⟩=> ?_;obtain⟨a,e,⟨xs,hq⟩,q⟩:=q1;subst e;cases r1;obtain⟨its,rv,p,hz⟩:=I1.list hq;refine wpAny_pyIter_list p.isList ?_;refine⟨s1.heap.objs.size, [s1.heap.objs.size],_,_,H1,rfl,I1.kept (t':=s1.toks) λb o e=>Qa _ e,zkd a _,⟨_,Qc _ rfl,rfl,rfl⟩,λb hb=> ?_,q⟩;have e:b=s1.heap.objs.size:=by simpa using hb
 subst e;exact I1.fpOk (Je _) (I1.hok.fresh (Je _))
theorem zhv{R:It->Hp->Prop}{E:Value->Shared->Prop}{lo hi:Int}{t u v:Tok}{tk:Nat}(I:Inv X pins σ H s)(h1: -(2 ^ 62)<=lo)(h2:lo<2 ^ 62)(h3: -(2 ^ 62)<=hi)(h4:hi<2 ^ 62)
  (q:R (Itr lo (hi - lo).toNat) H):wpAny (model X.prog X.w) X.A (pyIter (.ref s.heap.objs.size)) (PIE X pins σ tg R) E {s with heap:=s.heap.push {cls:= .type "range",data:= .fields #[.int lo t, .int hi u, .int 1 v]},toks:=tk}:=by
 refine wpAny_pyIter_range (IsRange.new ..) (small_one h1 h2 h3 h4) ?_;have I1:Inv X pins σ H {s with heap:=s.heap.push {cls:= .type "range",data:= .fields #[.int lo t, .int hi u, .int 1 v]},toks:=tk}:=I.kept λb o e=>Qa _ e;refine⟨(s.heap.push {cls:= .type "range",data:= .fields #[.int lo t, .int hi u, .int 1 v]}).objs.size, [(s.heap.push {cls:= .type "range",data:= .fields #[.int lo t, .int hi u, .int 1 v]}).objs.size],_,_,H,rfl,
  I1.kept (t':=tk) λb o e=>Qa _ e,ziw _ lo (hi - lo).toNat,?_,λb hb=> ?_,q⟩
 ·have e1:lo+((0:Nat):Int)*1=lo:=by simp
  have e2:(((hi - lo).toNat:Nat):Int) - ((0:Nat):Int)=Builtin.Range.rangeSize lo hi 1:=by rw[rangeSize_one];split<;>omega
  show IsRangeIter _ _ (lo+((0:Nat):Int)*1) ((((hi - lo).toNat:Nat):Int) - ((0:Nat):Int)) 1;rw[e1,e2];exact Qc _ rfl
 ·have e:b=(s.heap.push {cls:= .type "range",data:= .fields #[.int lo t, .int hi u, .int 1 v]}).objs.size:=by simpa using hb
  subst e;exact I1.fpOk (Je _) (I1.hok.fresh (Je _))
def yZ(ta:TA):TI:=λσ H R=>ta σ H λvs H1=> ∃j:Int,vs= [.int j]/\ -(2 ^ 62)<=j/\j<2 ^ 62/\R (Itr 0 j.toNat) H1
def qm(ta:TA):TI:=λσ H R=>ta σ H λvs H1=> ∃i j:Int,vs= [.int i, .int j]/\(-(2 ^ 62)<=i/\i<2 ^ 62/\ -(2 ^ 62)<=j/\j<2 ^ 62)/\R (Itr i (j - i).toNat) H1
theorem xR{a:Expr}{ta:TA}{p pos:Pos}(hg:Gl X "range")(hm:X.mg "range"=none)(ha:PA X [a] ta)(hs:starEach [a] X.env= [(false,eval a X.env)]:=by rfl):PI X tg (.Call (.Name "range" p) [a] [] pos) (yZ ta):=by
 intro pins s σ H R I h;refine Call_ (wM I hg hm boot_range (PyProof.Rows.callWith_type1 (thn (ha pos pins s σ H _ I h) λus s1 ⟨vs,H1,I1,r1,q1⟩=> ?_) hs rfl));obtain⟨j,e,q1,q2,q⟩:=q1;subst e;cases r1 with
 |cons r rr=>
  cases rr;obtain⟨t,rfl⟩:=r;exact call_range_1 (zhv I1 'o' 'o' q1 q2 (by simpa using q))
theorem ke{a b:Expr}{ta:TA}{p pos:Pos}(hg:Gl X "range")(hm:X.mg "range"=none)(ha:PA X [a,b] ta)(hs:starEach [a,b] X.env= [(false,eval a X.env),(false,eval b X.env)]:=by rfl)(hs2:starEach [b] X.env= [(false,eval b X.env)]:=by rfl):
  PI X tg (.Call (.Name "range" p) [a,b] [] pos) (qm ta):=by
 intro pins s σ H R I h;refine Call_ (wM I hg hm boot_range (PyProof.Rows.callWith_type1 (thn (ha pos pins s σ H _ I h) λus s1 ⟨vs,H1,I1,r1,q1⟩=> ?_) (by rw[hs,hs2]) (by rw[hs2];rfl)));obtain⟨i,j,e,⟨q1,q2,q3,q4⟩,q⟩:=q1;subst e;cases r1 with
 |cons r rr=>
  cases rr with
  |cons r' rr=>
   cases rr;obtain⟨t,rfl⟩:=r;obtain⟨t',rfl⟩:=r';exact call_range_2 (zhv I1 q1 q2 q3 q4 q)
def zqN(wi:TI)(g:TG)(tb:TS):TS:=λD σ H=>wi σ H λJ H1=> ∃W:Nat->Nat->St->Hp->Prop,(∃m,W 0 m σ H1)/\ ∀i m σ H,W i m σ H->
 (J.stop i H/\D.nx σ H)\/(J.go i H/\ ∃N:St->Hp->Prop,(∀σ' H',N σ' H'-> ∃m',m'<m/\W (i+1) m' σ' H')/\ ∀x H',J.yld i H x H'->g x σ H' λσ2 H2=>tb {D with nx:=N,ct:=N,bk:=D.nx} σ2 H2)
def vZ(fp:List Addr)(h:Heap):List (Addr×Obj):=fp.filterMap λb=>(h.get? b).map λo=>(b,o)
theorem uK{o:Obj}(hb:b∈fp)(e:h.get? b=some o):(b,o)∈vZ fp h:=List.mem_filterMap.mpr ⟨b,hb,by rw[e];rfl⟩
theorem zke{p:Addr×Obj}(hp:p∈vZ fp h):p.1∈fp/\h.get? p.1=some p.2:=by
 obtain⟨b,hb,e⟩:=List.mem_filterMap.mp hp;cases q:h.get? b with
 |none=>rw[q] at e;cases e
 |some o=>
  rw[q] at e;have e':(b,o)=p:=JV e;subst e';exact⟨hb,q⟩
theorem Inv.pinned(I:Inv X pins σ H s)(hf: ∀b∈fp,xg X pins H b)(ho: ∀b∈fp,∃o,s.heap.get? b=some o/\ ∀v,o.data≠ .cell v):Inv X (pins++vZ fp s.heap) σ H s:=
 I.pins_of λp hp=>(Jr.mp hp).elim (λz=>I.pin p (List.mem_append_right _ z)) λz=>by
  obtain⟨hb,e⟩:=zke z;obtain⟨f0,f1,f2,_⟩:=hf p.1 hb;obtain⟨o,e',d⟩:=ho p.1 hb;rw[e] at e';cases e';exact⟨e,f0,f1,f2,d⟩
theorem Inv.unpinned{pl:List (Addr×Obj)}(I:Inv X (pins++pl) σ H s):Inv X pins σ H s:=I.pins_of λp hp=>I.pin p (List.mem_append_right _ (List.mem_append_left _ hp))
theorem qj{iter:Expr}{wi:TI}{pos:Pos}(hp:PassesOwn (model X.prog X.w) X.A X.env X.xe)(hc:X.calm=true)(hi:PI X tg iter wi)(hg:PG X tg g)(hb:PSs X body tb)
  (hs: ∀x,foldedSetIterable iter X.env x=pure x:=by intro _;rfl):PS X (.For tg iter body [] pos) (zqN wi g tb):=by
 intro pins s σ H D I h;refine wpAny_For (thn (hi pins s σ H _ I h) λv s1 h1=>thn h1 λitv s2 h2=> ?_) hs;obtain⟨it,fp,tn,J,H2,e,I2,T,st2,f2,W,⟨m0,w0⟩,turn⟩:=h2;subst e;have stat: ∀{H':Hp},(∀b∈fp,H' b=none)-> ∀b∈fp,xg X pins H' b:=λhn b hb=>⟨hn b hb,(f2 b hb).2⟩
 refine codeAny_forLoop_any (λn s'=> ∃i σ' H',Inv X pins σ' H' s'/\tn i s'.heap/\(∀b∈fp,H' b=none)/\W i n σ' H') ?_ m0 ⟨0,σ,H2,I2,st2,λb hb=>(f2 b hb).1,w0⟩;rintro n s3 ⟨i,σ3,H3,I3,st3,fr3,w3⟩;rcases turn i n σ3 H3 w3 with⟨stop,qn⟩|⟨go,N,hN,step⟩
 ·refine wpAny_passesOwn hp (thn (T.done X rfl rfl rfl hc i pins s3 σ3 H3 X.xe I3 (stat fr3) st3 stop) λr s4 ⟨hr,I4⟩=> ?_);subst hr;exact wpAny_execs_nil ⟨σ3,H3,I4,qn⟩
 ·refine wpAny_passesOwn hp (thn (T.item X rfl rfl rfl hc i pins s3 σ3 H3 X.xe I3 (stat fr3) st3 go) λr s4 ⟨u,hr,h4⟩=> ?_);subst hr;refine wpAny_passesOwn hp (thn h4 λ_ s5 ⟨x,H5,I5,r5,y5,st5,fr5⟩=> ?_);have I5':=I5.pinned (stat fr5) (T.obj _ _ st5);refine wpAny_passesOwn hp (thn (hg _ s5 σ3 H5 x u _ I5' r5 (step x H5 y5)) λ_ s6 ⟨σ6,H6,I6,q6⟩=> ?_);refine wpAny_passesOwn hp (thn (hb _ s6 σ6 H6 _ I6 q6) λf s7 q7=> ?_);have again: ∀{σ7:St} {H7:Hp},Inv X (pins++vZ fp s5.heap) σ7 H7 s7->N σ7 H7-> ∃m,m<n/\ ∃i σ' H',Inv X pins σ' H' s7/\tn i s7.heap/\(∀b∈fp,H' b=none)/\W i m σ' H':=fun {σ7 H7} I7 n7=>by
   obtain⟨m',hm,w7⟩:=hN σ7 H7 n7;refine⟨m',hm,i+1,σ7,H7,I7.unpinned,T.keep _ _ _ st5 λb hb o e=>(I7.pin (b,o) (List.mem_append_right _ (List.mem_append_right _ (uK hb e)))).1,λb hb=> ?_,w7⟩;obtain⟨o,e,d⟩:=T.obj _ _ st5 b hb;exact(I7.pin (b,o) (List.mem_append_right _ (List.mem_append_right _ (uK hb e)))).2.1
  cases f with
  |next=>obtain⟨σ7,H7,I7,n7⟩:=q7;exact again I7 n7
  |cont=>obtain⟨σ7,H7,I7,n7⟩:=q7;exact again I7 n7
  |brk=>obtain⟨σ7,H7,I7,q7⟩:=q7;exact⟨σ7,H7,I7.unpinned,q7⟩
  |ret v=>obtain⟨x7,σ7,H7,I7,r7,q7⟩:=q7;exact⟨x7,σ7,H7,I7.unpinned,r7,q7⟩
end
theorem v0{xs:List V}{g:TG}{tb:TS}{D:Ends}(Pv:Nat->St->Hp->Prop)(h0:Pv 0 σ H)(hl: ∀i σ H,i<=xs.length->Pv i σ H->SqL K H a xs)
  (hs: ∀i x σ H,xs[i]? =some x->Pv i σ H->g x σ H λσ2 H2=>tb {D with nx:=Pv (i+1),ct:=Pv (i+1),bk:=D.nx} σ2 H2) (hd: ∀σ H,Pv xs.length σ H->D.nx σ H):
  ∃W:Nat->Nat->St->Hp->Prop,(∃m,W 0 m σ H)/\ ∀i m σ H,W i m σ H->
   ((Itl K a).stop i H/\D.nx σ H)\/((Itl K a).go i H/\ ∃N:St->Hp->Prop,(∀σ' H',N σ' H'-> ∃m',m'<m/\W (i+1) m' σ' H')/\ ∀x H',(Itl K a).yld i H x H'->g x σ H' λσ2 H2=>tb {D with nx:=N,ct:=N,bk:=D.nx} σ2 H2):=by
 refine⟨λi m σ H=>m=xs.length - i/\i<=xs.length/\Pv i σ H,⟨xs.length,by simp,Jv _,h0⟩,?_⟩;rintro i m σ H ⟨rfl,hi,p⟩;have q:=hl i σ H hi p;by_cases hlt:i<xs.length
 ·refine .inr ⟨⟨xs,xs[i],q,by simp [hlt]⟩,Pv (i+1),λσ' H' p'=>⟨xs.length - (i+1),'o',rfl,hlt,p'⟩,λx H' y=> ?_⟩;obtain⟨e,y⟩:=y;subst e;exact hs i x σ _ (y xs q) p
 ·have e:i=xs.length:=by omega
  subst e;exact .inl ⟨⟨xs,q,Je _⟩,hd σ H p⟩
theorem wk{lo:Int}{n:Nat}{g:TG}{tb:TS}{D:Ends}(Pv:Nat->St->Hp->Prop)(h0:Pv 0 σ H)
  (hs: ∀i σ H,i<n->Pv i σ H->g (.int (lo+i)) σ H λσ2 H2=>tb {D with nx:=Pv (i+1),ct:=Pv (i+1),bk:=D.nx} σ2 H2) (hd: ∀σ H,Pv n σ H->D.nx σ H):
  ∃W:Nat->Nat->St->Hp->Prop,(∃m,W 0 m σ H)/\ ∀i m σ H,W i m σ H->
   ((Itr lo n).stop i H/\D.nx σ H)\/((Itr lo n).go i H/\ ∃N:St->Hp->Prop,(∀σ' H',N σ' H'-> ∃m',m'<m/\W (i+1) m' σ' H')/\ ∀x H',(Itr lo n).yld i H x H'->g x σ H' λσ2 H2=>tb {D with nx:=N,ct:=N,bk:=D.nx} σ2 H2):=by
 refine⟨λi m σ H=>m=n - i/\i<=n/\Pv i σ H,⟨n,by simp,Jv _,h0⟩,?_⟩;rintro i m σ H ⟨rfl,hi,p⟩;by_cases hlt:i<n
 ·refine .inr ⟨hlt,Pv (i+1),λσ' H' p'=>⟨n - (i+1),'o',rfl,hlt,p'⟩,λx H' y=> ?_⟩;obtain⟨e,y⟩:=y;subst e y;exact hs i σ _ hlt p
 ·have e:i=n:=by omega
  subst e;exact .inl ⟨Je _,hd σ H p⟩
theorem zk8{c:TT}{tb:TS}{D:Ends}(Pv:St->Hp->Prop)(μ:St->Hp->Nat)(h0:Pv σ H)
  (hs: ∀σ H,Pv σ H->c σ H λb H1=>if b=true then tb {D with nx:=λσ' H'=>Pv σ' H'/\μ σ' H'<μ σ H,ct:=λσ' H'=>Pv σ' H'/\μ σ' H'<μ σ H,bk:=D.nx} σ H1 else D.nx σ H1)
  (mono: ∀σ H Q Q',(∀b H1,Q b H1->Q' b H1)->c σ H Q->c σ H Q'):zk6 c tb D σ H:=by
 refine⟨λm σ H=>m=μ σ H/\Pv σ H,⟨_,rfl,h0⟩,?_⟩;rintro m σ H ⟨rfl,p⟩;refine mono σ H _ _ (λb H1 q=> ?_) (hs σ H p);cases b with
 |true=>exact⟨_,λσ' H' ⟨p',l⟩=>⟨_,l,rfl,p'⟩,q⟩
 |false=>exact q
abbrev R2:=V->V->Hp->VK->Prop
def OpR(X:Cx)(f:Value->Value->Sem Value)(r:R2):Prop:=
 ∀(pins:List (Addr×Obj)) (s:Shared) (σ:St) (H:Hp) (x y:V) (v u:Value) (Q:VK),Inv X pins σ H s->zt x v->zt y u->r x y H Q->
  wpAny (model X.prog X.w) X.A (f v u) (EP X pins σ Q) X.xe s
def UnR(X:Cx)(f:Value->Sem Value)(r:V->Hp->VK->Prop):Prop:=
 ∀(pins:List (Addr×Obj)) (s:Shared) (σ:St) (H:Hp) (x:V) (v:Value) (Q:VK),Inv X pins σ H s->zt x v->r x H Q->
  wpAny (model X.prog X.w) X.A (f v) (EP X pins σ Q) X.xe s
def yM(X:Cx)(f:Value)(r:List V->Hp->VK->Prop):Prop:=
 ∀(pins:List (Addr×Obj)) (s:Shared) (σ:St) (H:Hp) (xs:List V) (us:List Value) (Q:VK),Inv X pins σ H s->zw xs us->r xs H Q->
  wpAny (model X.prog X.w) X.A (call f us) (EP X pins σ Q) X.xe s
def tOp(r:R2)(ta tb:TE):TE:=λσ H Q=>ta σ H λx H1=>tb σ H1 λy H2=>r x y H2 Q
def tUn(r:V->Hp->VK->Prop)(ta:TE):TE:=λσ H Q=>ta σ H λx H1=>r x H1 Q
def rI(C:Int->Int->Prop)(g:Int->Int->V):R2:=λx y H Q=> ∃i j,x= .int i/\y= .int j/\C i j/\Q (g i j) H
def rI0(g:Int->Int->V):R2:=λx y H Q=> ∃i j,x= .int i/\y= .int j/\Q (g i j) H
def rU(g:Int->V):V->Hp->VK->Prop:=λx H Q=> ∃i,x= .int i/\Q (g i) H
section
variable {X:Cx} {a b c:Expr} {ta tb tc:TE} {pos:Pos}
theorem kg(ha:PE X a ta)(hb:PE X b tb){R:V->V->Hp->Prop}(I:Inv X pins σ H s)
  (h:ta σ H λx H1=>tb σ H1 λy H2=>R x y H2) {Q:Value->Shared->Prop} {f:Value->Value->Sem Value}
  (hf: ∀v u s2 x y H2,Inv X pins σ H2 s2->zt x v->zt y u->R x y H2->wpAny (model X.prog X.w) X.A (f v u) Q X.xe s2):
  wpAny (model X.prog X.w) X.A (eval a X.env) (λv s₁=>wpAny (model X.prog X.w) X.A (eval b X.env) (λu s₂=>wpAny (model X.prog X.w) X.A (f v u) Q X.xe s₂) X.xe s₁) X.xe s:=by
 refine thn (ha pins s σ H _ I h) λv s1 ⟨x,H1,I1,r1,q1⟩=> ?_;refine thn (hb pins s1 σ H1 _ I1 q1) λu s2 ⟨y,H2,I2,r2,q2⟩=> ?_;exact hf v u s2 x y H2 I2 r1 r2 q2
theorem zg(ho:OpR X (binaryOp op) r)(ha:PE X a ta)(hb:PE X b tb):PE X (.BinOp a op b pos) (tOp r ta tb):=by
 intro pins s σ H Q I h;exact wpAny_BinOp (kg ha hb I h λv u s2 x y H2 I2 rx ry q=>ho pins s2 σ H2 x y v u Q I2 rx ry q)
theorem v7{op:UnaryOp}{r:V->Hp->VK->Prop}(ho:UnR X (unaryOp op) r)(ha:PE X a ta):PE X (.UnaryOp op a pos) (tUn r ta):=by
 intro pins s σ H Q I h;exact UnaryOp_ (thn (ha pins s σ H _ I h) λv s1 ⟨x,H1,I1,r1,q1⟩=>ho pins s1 σ H1 x v Q I1 r1 q1)
theorem opI{f:Value->Value->Sem Value}{C:Int->Int->Prop}{g:Int->Int->Int}
  (rule: ∀(i j:Int) (t u:Tok) (s:Shared) (Q:Value->Shared->Prop) (E:Value->Shared->Prop),C i j->Q (.int (g i j) s.toks) {s with toks:=s.toks+1}->wpAny (model X.prog X.w) X.A (f (.int i t) (.int j u)) Q E s):
  OpR X f (rI C λi j=> .int (g i j)):=by
 intro pins s σ H x y v u Q I rx ry h;obtain⟨i,j,rfl,rfl,hc,q⟩:=h;obtain⟨t,rfl⟩:=rx;obtain⟨t',rfl⟩:=ry;exact rule i j t t' s _ _ hc ⟨.int (g i j),H,I.tok _,⟨_,rfl⟩,q⟩
theorem zqO{f:Value->Value->Sem Value}{g:Int->Int->Int}
  (rule: ∀(i j:Int) (t u:Tok) (s:Shared) (Q:Value->Shared->Prop) (E:Value->Shared->Prop),Q (.int (g i j) s.toks) {s with toks:=s.toks+1}->wpAny (model X.prog X.w) X.A (f (.int i t) (.int j u)) Q E s):
  OpR X f (rI0 λi j=> .int (g i j)):=by
 intro pins s σ H x y v u Q I rx ry h;obtain⟨i,j,rfl,rfl,q⟩:=h;obtain⟨t,rfl⟩:=rx;obtain⟨t',rfl⟩:=ry;exact rule i j t t' s _ _ ⟨.int (g i j),H,I.tok _,⟨_,rfl⟩,q⟩
theorem uL{f:Value->Value->Sem Value}{g:Int->Int->Bool}
  (rule: ∀(i j:Int) (t u:Tok) (s:Shared) (Q:Value->Shared->Prop) (E:Value->Shared->Prop),Q (.bool (g i j)) s->wpAny (model X.prog X.w) X.A (f (.int i t) (.int j u)) Q E s):
  OpR X f (rI0 λi j=> .bl (g i j)):=by
 intro pins s σ H x y v u Q I rx ry h;obtain⟨i,j,rfl,rfl,q⟩:=h;obtain⟨t,rfl⟩:=rx;obtain⟨t',rfl⟩:=ry;exact rule i j t t' s _ _ ⟨.bl (g i j),H,I,rfl,q⟩
def uM(i j:Int):Prop:=0<j/\j<1073741824
def wO(i j:Int):Prop:=0<=j/\j<=1000000/\i.natAbs<2 ^ 64
def vn(i j:Int):Prop:=(-(2 ^ 64)<i/\i<2 ^ 64)\/(-(2 ^ 64)<j/\j<2 ^ 64)
theorem vn.ok{i j:Int}(h:vn i j):IntMulOk i j:=by
 rcases h with⟨h1,h2⟩|⟨h1,h2⟩
 ·exact .of_left (intBits_le_64 h1 h2)
 ·exact .of_right (intBits_le_64 h1 h2)
theorem zoX:OpR X (binaryOp .Add) (rI0 λi j=> .int (i+j)):=zqO λ_ _ _ _ _ _ _ q=>add_int q
theorem zoY:OpR X (binaryOp .Sub) (rI0 λi j=> .int (i - j)):=zqO λ_ _ _ _ _ _ _ q=>sub_int q
theorem zoZ:OpR X (binaryOp .Mult) (rI vn λi j=> .int (i*j)):=opI λ_ _ _ _ _ _ _ hc q=>mul_int q hc.ok
theorem zns:OpR X (binaryOp .FloorDiv) (rI uM λi j=> .int (i / j)):=opI λi j _ _ _ _ _ hc q=>by
 have h1:(0:Int)<j:=hc.1;have h2:j<1073741824:=hc.2;exact floordiv_int 'o' (by rw[Int.fdiv_eq_ediv_of_nonneg i 'o'];exact q) (.inl (PyProof.noPylong_small 'o'))
theorem zo0:OpR X (binaryOp .Mod) (rI (λ_ j=>0<j) λi j=> .int (i % j)):=opI λi j _ _ _ _ _ hc q=>by
 have h1:(0:Int)<j:=hc;exact mod_int' 'o' (by rw[Int.fmod_eq_emod_of_nonneg i 'o'];exact q)
theorem zo1:OpR X (binaryOp .Pow) (rI wO λi j=> .int (i ^ j.toNat)):=opI λ_ _ _ _ _ _ _ hc q=>pow_int_small hc.1 hc.2.1 hc.2.2 q
theorem unI{f:Value->Sem Value}{g:Int->Int}
  (rule: ∀(i:Int) (t:Tok) (s:Shared) (Q:Value->Shared->Prop) (E:Value->Shared->Prop),Q (.int (g i) s.toks) {s with toks:=s.toks+1}->wpAny (model X.prog X.w) X.A (f (.int i t)) Q E s):
  UnR X f (rU λi=> .int (g i)):=by
 intro pins s σ H x v Q I rx h;obtain⟨i,rfl,q⟩:=h;obtain⟨t,rfl⟩:=rx;exact rule i t s _ _ ⟨.int (g i),H,I.tok _,⟨_,rfl⟩,q⟩
theorem zo2:UnR X (unaryOp .USub) (rU λi=> .int (-i)):=unI λ_ _ _ _ _ q=>neg_int q
end
def xr:V->V->Bool
 | .non, .non=>true| .non, .int _=>true| .int _, .non=>true| .non, .bl _=>true| .bl _, .non=>true| .non, .str _=>true| .str _, .non=>true
 | .int _, .int _=>true| .bl _, .bl _=>true| .str _, .str _=>true| .byt _, .byt _=>true
 | .int _, .str _=>true| .str _, .int _=>true| .bl _, .str _=>true| .str _, .bl _=>true
 |_,_=>false
def rEq:R2:=λx y H Q=>xr x y=true/\Q (.bl (decide (x=y))) H
def rNe:R2:=λx y H Q=>xr x y=true/\Q (.bl (!decide (x=y))) H
theorem zjj{i j:Int}:decide (V.int i=V.int j)=(i==j):=by
 rw[Bool.eq_iff_iff];simp
theorem zk9{i j:Bool}:decide (V.bl i=V.bl j)=(i==j):=by
 rw[Bool.eq_iff_iff];simp
theorem zjk{i j:Str}:decide (V.str i=V.str j)=(i==j):=by
 rw[Bool.eq_iff_iff];simp
theorem zjl{i j:Array UInt8}:decide (V.byt i=V.byt j)=(i.toList==j.toList):=by
 rw[Bool.eq_iff_iff];cases i;cases j;simp
section
variable {X:Cx} {a b c:Expr} {ta tb tc:TE} {pos:Pos}
theorem yp{Q:VK}{k k':Bool}(I:Inv X pins σ H s)(q:Q (.bl k) H)(e:k=k'):EP X pins σ Q (.bool k') s:=by
 subst e;exact⟨.bl k,H,I,rfl,q⟩
theorem qR:OpR X (compareOp .Eq) rEq:=by
 intro pins s σ H x y v u Q I rx ry h;obtain⟨hs,q⟩:=h;cases x with
 |non=>
  cases rx;cases y with
  |non=>cases ry;exact PySem.EqNone.eq_none_none (yp I q (by simp))
  |bl j=>cases ry;exact PySem.EqNone.eq_none_bool (yp I q (by simp))
  |int j=>obtain⟨t',rfl⟩:=ry;exact PySem.EqNone.eq_none_int (yp I q (by simp))
  |str j=>obtain⟨t',rfl⟩:=ry;exact PySem.EqNone.eq_none_str (yp I q (by simp))
  |_=>exact absurd (show false=true from hs) Ju
 |bl i=>
  cases rx;cases y with
  |non=>cases ry;exact PySem.EqNone.eq_bool_none (yp I q (by simp))
  |bl j=>cases ry;exact eq_bool (yp I q zk9)
  |str j=>obtain⟨t',rfl⟩:=ry;exact PySem.EqMixed.eq_bool_str (yp I q (by simp))
  |_=>exact absurd (show false=true from hs) Ju
 |int i=>
  obtain⟨t,rfl⟩:=rx;cases y with
  |non=>cases ry;exact PySem.EqNone.eq_int_none (yp I q (by simp))
  |int j=>obtain⟨t',rfl⟩:=ry;exact eq_int (yp I q zjj)
  |str j=>obtain⟨t',rfl⟩:=ry;exact PySem.EqMixed.eq_int_str (yp I q (by simp))
  |_=>exact absurd (show false=true from hs) Ju
 |str i=>
  obtain⟨t,rfl⟩:=rx;cases y with
  |non=>cases ry;exact PySem.EqNone.eq_str_none (yp I q (by simp))
  |bl j=>cases ry;exact PySem.EqMixed.eq_str_bool (yp I q (by simp))
  |int j=>obtain⟨t',rfl⟩:=ry;exact PySem.EqMixed.eq_str_int (yp I q (by simp))
  |str j=>obtain⟨t',rfl⟩:=ry;exact eq_str (yp I q zjk)
  |_=>exact absurd (show false=true from hs) Ju
 |byt i=>
  obtain⟨t,rfl⟩:=rx;cases y with
  |byt j=>obtain⟨t',rfl⟩:=ry;exact PySem.W.eq_bytes (yp I q zjl)
  |_=>exact absurd (show false=true from hs) Ju
 |_=>cases y<;>exact absurd (show false=true from hs) Ju
theorem zoq:OpR X (compareOp .NotEq) rNe:=by
 intro pins s σ H x y v u Q I rx ry h;obtain⟨hs,q⟩:=h;cases x with
 |non=>
  cases rx;cases y with
  |non=>cases ry;exact PySem.EqNone.ne_none_none (yp I q (by simp))
  |bl j=>cases ry;exact PySem.EqNone.ne_none_bool (yp I q (by simp))
  |int j=>obtain⟨t',rfl⟩:=ry;exact PySem.EqNone.ne_none_int (yp I q (by simp))
  |str j=>obtain⟨t',rfl⟩:=ry;exact PySem.EqNone.ne_none_str (yp I q (by simp))
  |_=>exact absurd (show false=true from hs) Ju
 |bl i=>
  cases rx;cases y with
  |non=>cases ry;exact PySem.EqNone.ne_bool_none (yp I q (by simp))
  |bl j=>cases ry;exact ne_bool (yp I q (congrArg not zk9))
  |str j=>obtain⟨t',rfl⟩:=ry;exact PySem.EqMixed.ne_bool_str (yp I q (by simp))
  |_=>exact absurd (show false=true from hs) Ju
 |int i=>
  obtain⟨t,rfl⟩:=rx;cases y with
  |non=>cases ry;exact PySem.EqNone.ne_int_none (yp I q (by simp))
  |int j=>obtain⟨t',rfl⟩:=ry;exact ne_int (yp I q (congrArg not zjj))
  |str j=>obtain⟨t',rfl⟩:=ry;exact PySem.EqMixed.ne_int_str (yp I q (by simp))
  |_=>exact absurd (show false=true from hs) Ju
 |str i=>
  obtain⟨t,rfl⟩:=rx;cases y with
  |non=>cases ry;exact PySem.EqNone.ne_str_none (yp I q (by simp))
  |bl j=>cases ry;exact PySem.EqMixed.ne_str_bool (yp I q (by simp))
  |int j=>obtain⟨t',rfl⟩:=ry;exact PySem.EqMixed.ne_str_int (yp I q (by simp))
  |str j=>obtain⟨t',rfl⟩:=ry;exact ne_str (yp I q (congrArg not zjk))
  |_=>exact absurd (show false=true from hs) Ju
 |byt i=>
  obtain⟨t,rfl⟩:=rx;cases y with
  |byt j=>obtain⟨t',rfl⟩:=ry;exact PySem.W.ne_bytes (yp I q (congrArg not zjl))
  |_=>exact absurd (show false=true from hs) Ju
 |_=>cases y<;>exact absurd (show false=true from hs) Ju
theorem qo:OpR X (compareOp .Lt) (rI0 λi j=> .bl (decide (i<j))):=uL λ_ _ _ _ _ _ _ q=>lt_int q
theorem zor:OpR X (compareOp .LtE) (rI0 λi j=> .bl (decide (i<=j))):=uL λ_ _ _ _ _ _ _ q=>le_int q
theorem xt:OpR X (compareOp .Gt) (rI0 λi j=> .bl (decide (j<i))):=uL λ_ _ _ _ _ _ _ q=>gt_int q
theorem ko:OpR X (compareOp .GtE) (rI0 λi j=> .bl (decide (j<=i))):=uL λ_ _ _ _ _ _ _ q=>ge_int q
theorem zo3:OpR X (compareOp .Is) (λx y H Q=>y= .non/\Q (.bl (decide (x= .non))) H):=by
 intro pins s σ H x y v u Q I rx ry h;obtain⟨rfl,q⟩:=h;cases ry;refine is_none_gen (yp I q ?_);cases x<;>first
  |(cases rx;rfl)
  |(obtain⟨t,rfl⟩:=rx;rfl)
theorem yF(b:Expr){op:CmpOp}(h:op≠ .In:=by decide)(h2:op≠ .NotIn:=by decide):behindInMarks op b=false:=by
 have e1:(op==CmpOp.In)=false:=by cases op<;>first|rfl|exact absurd rfl h
 have e2:(op==CmpOp.NotIn)=false:=by cases op<;>first|rfl|exact absurd rfl h2
 cases b<;>simp [behindInMarks,e1,e2]
theorem xh{op:CmpOp}(ho:OpR X (compareOp op) r)(ha:PE X a ta)(hb:PE X b tb)(hm:behindInMarks op b=false):PE X (.Compare a [op] [b] pos) (tOp r ta tb):=by
 intro pins s σ H Q I h;exact wpAny_Compare1 (kg ha hb I h λv u s2 x y H2 I2 rx ry q=>ho pins s2 σ H2 x y v u Q I2 rx ry q) hm
def xS(t:TE):TT:=λσ H Q=>t σ H λx H'=> ∃k,x= .bl k/\Q k H'
theorem uN{op:CmpOp}(ho:OpR X (compareOp op) r)(ha:PE X a ta)(hb:PE X b tb)(hm:behindInMarks op b=false):PT X (.Compare a [op] [b] pos) (xS (tOp r ta tb)):=by
 intro pins s σ H Q I h;refine wpAny_isTrue_Compare1 (thn (ha pins s σ H _ I h) λv s1 ⟨x,H1,I1,r1,q1⟩=>thn (hb pins s1 σ H1 _ I1 q1) λu s2 ⟨y,H2,I2,r2,q2⟩=>
  thn (ho pins s2 σ H2 x y v u _ I2 r1 r2 q2) λc s3 ⟨z,H3,I3,r3,k,e,q3⟩=> ?_) hm
 subst e;cases r3;exact wpAny_truthy_bool ⟨H3,I3,q3⟩
theorem v8:(sizeLine:Nat)<2 ^ 63:=by rw[sizeLine_eq];decide
theorem ziy:OpR X (binaryOp .Add) (λx y H Q=> ∃i j,x= .str i/\y= .str j/\i.length+j.length<=sizeLine/\Q (.str (i++j)) H):=by
 intro pins s σ H x y v u Q I rx ry h;obtain⟨i,j,rfl,rfl,hz,q⟩:=h;obtain⟨t,rfl⟩:=rx;obtain⟨t',rfl⟩:=ry;exact add_str (λt' tk=>⟨.str (i++j),H,I.tok _,⟨_,rfl⟩,q⟩) hz
theorem qS{x:V}(r:zw [x] us): ∃u,us= [u]/\zt x u:=by
 cases r with
 |cons r1 r2=>cases r2;exact⟨_,rfl,r1⟩
theorem kr{x:V}(r:zw [x,y] us): ∃u w',us= [u,w']/\zt x u/\zt y w':=by
 cases r with
 |cons r1 r2=>
  cases r2 with
  |cons r3 r4=>cases r4;exact⟨_,_,rfl,r1,r3⟩
theorem zkg(hc:X.calm=true):yM X (.builtin "max") (λxs H Q=> ∃i j,xs= [.int i, .int j]/\Q (.int (if j>i then j else i)) H):=by
 intro pins s σ H xs us Q I r h;obtain⟨i,j,rfl,q⟩:=h;obtain⟨u,w',rfl,⟨t,rfl⟩,⟨t',rfl⟩⟩:=kr r;refine max_two_ints (I.ok.hd hc) λh' tk k=>⟨_,H,I.kept k,?_,q⟩
 by_cases hj:j>i
 ·rw[Jg hj,Jg hj];exact⟨_,rfl⟩
 ·rw[Jf hj,Jf hj];exact⟨_,rfl⟩
theorem xG(hc:X.calm=true):yM X (.builtin "min") (λxs H Q=> ∃i j,xs= [.int i, .int j]/\Q (.int (if j<i then j else i)) H):=by
 intro pins s σ H xs us Q I r h;obtain⟨i,j,rfl,q⟩:=h;obtain⟨u,w',rfl,⟨t,rfl⟩,⟨t',rfl⟩⟩:=kr r;refine min_two_ints (I.ok.hd hc) λh' tk k=>⟨_,H,I.kept k,?_,q⟩
 by_cases hj:j<i
 ·rw[Jg hj,Jg hj];exact⟨_,rfl⟩
 ·rw[Jf hj,Jf hj];exact⟨_,rfl⟩
theorem v9:yM X (.type "int") (λxs H Q=>(∃i,xs= [.int i]/\Q (.int i) H)\/ ∃k,xs= [.bl k]/\Q (.int (if k then 1 else 0)) H):=by
 intro pins s σ H xs us Q I r h;rcases h with⟨i,rfl,q⟩|⟨k,rfl,q⟩
 ·obtain⟨u,rfl,t,rfl⟩:=qS r;exact call_int_int ⟨.int i,H,I,⟨_,rfl⟩,q⟩
 ·obtain⟨u,rfl,r1⟩:=qS r;cases r1;exact call_int_bool ⟨.int (if k then 1 else 0),H,I.tok _,⟨_,rfl⟩,q⟩
theorem zeD:yM X (.builtin "divmod") (λxs H Q=> ∃i j,xs= [.int i, .int j]/\uM i j/\ ∀p,H p=none->Q (.ref p) (upd H p (.tup [.int (i / j), .int (i % j)]))):=by
 intro pins s σ H xs us Q I r h;obtain⟨i,j,rfl,⟨h1,h2⟩,q⟩:=h;obtain⟨u,w',rfl,⟨t,rfl⟩,⟨t',rfl⟩⟩:=kr r;refine divmod_int 'o' ?_ (.inl (PyProof.noPylong_small 'o'));rw[Int.fdiv_eq_ediv_of_nonneg i 'o',Int.fmod_eq_emod_of_nonneg i 'o'];have hn:H s.heap.objs.size=none:=I.hok.fresh (Je _);refine⟨.ref s.heap.objs.size,_,?_,rfl,q _ hn⟩;refine I.laid (λb o e=>Qa _ e) (Je _) ⟨by simp only[Jp,List.length_nil];rw[sizeLine_eq];decide, [.int (i / j) s.toks, .int (i % j) (s.toks+1)], .cons ⟨_,rfl⟩ (.cons ⟨_,rfl⟩ .nil),?_⟩;exact⟨_,Qc s.heap rfl,rfl,0,rfl⟩
end
structure ObjM (h:Heap) (x dx C:Addr) (mA:Str->Option Value):Prop where
 obj:h.get? x=some (PySem.W.instObj C dx)
 ns:h.Ns1 dx mA
 ne:dx≠x
theorem zkh{dx:Addr}{mA:Str->Option Value}(n:h.Ns1 dx mA): ∃od,h.get? dx=some od/\ ∀name,PySem.W.lookIn name od=some (mA name):=by
 obtain⟨o,es,ep,ho,hd,hk,_,hm⟩:=n;refine⟨o,ho,λname=> ?_⟩;have e:=hm name;unfold nsFind findBy at e;rw[<-Array.find?_toList] at e;unfold PySem.W.lookIn;rw[hd];dsimp only;split
 ·rename_i y q;rw[q] at e;exact congrArg some e
 ·rename_i q;rw[q] at e;have a:es.toList.any (·.refKey)=false:=by
   rw[List.any_eq_false];intro y hy;obtain⟨z,t,hkey⟩:=hk y (Array.mem_toList_iff.mp hy);simp [DictEntry.refKey,hkey]
  have a': ¬es.toList.any (·.refKey)=true:=by rw[a];exact Ju
  rw[Jf a'];exact congrArg some e
theorem ObjM.look{x dx:Addr}{mA:Str->Option Value}(I:ObjM h x dx C mA): ∃od,PySem.W.InstAt h x (PySem.W.instObj C dx) C (some od)/\ ∀name,PySem.W.lookIn name od=some (mA name):=
 let ⟨od,ho,hl⟩:=zkh I.ns
 ⟨od,⟨I.obj,rfl,rfl,ho⟩,hl⟩
section
variable {prog:Program} {w:World} {A:Around} {E:Value->Shared->Prop} {s:Shared} {K:Fg} {x dx C f:Addr} {mA:Str->Option Value} {name:Str} {v:Value}
theorem znt{expr:Bool}{Q:Value->Shared->Prop}(X:K.In s.heap)(I:ObjM s.heap x dx C mA)(hg:PySem.W.plainGet K C name=true)(hh:PySem.W.hasDictIn K C=true)
  (ha:PySem.W.findIn K (.ref C) name=some none) (hv:mA name=some v) (hv':PySem.W.handedIn v=true) (h:Q v {s with toks:=s.toks+1}):
  wpAny (model prog w) A (getAttr (.ref x) name expr) Q E s:=by
 obtain⟨od,J,hl⟩:=I.look;exact PySem.W.get_value X J (PySem.W.plainGet_of hg).1 (PySem.W.findObj_own hh ha rfl (by rw[hl,hv])) hv' h
theorem zlc{pl:Sem Bool}{Q:Value×List Value->Shared->Prop}(X:K.In s.heap)(I:ObjM s.heap x dx C mA)(hg:PySem.W.plainGet K C name=true)
  (hf:PySem.W.findIn K (.ref C) name=some (some (.ref f))) (ht:PySem.W.isFn K (.ref f)=true) (hv:mA name=none) (h:Q (.ref f, [.ref x]) s):
  wpAny (model prog w) A (getMethod (.ref x) name pl) Q E s:=by
 obtain⟨od,J,hl⟩:=I.look;exact PySem.W.method_fn X J (PySem.W.plainGet_of hg).1 (PySem.W.plainGet_of hg).2 hf (beq_iff_eq.mp ht) (by show (PySem.W.lookIn name od).map (·.isSome)=some false;rw[hl,hv];rfl) h
theorem znu{ns:List Str}{Q:Unit->Shared->Prop}(X:K.In s.heap)(I:ObjM s.heap x dx C mA)
  (hs:PySem.W.findIn K (.ref C) "__setattr__"=some (some (.builtin "object.__setattr__"))) (hp:PySem.W.plainOver K C=true) (ht:PySem.W.takerIn K C name=some none) (hh:PySem.W.hasDictIn K C=true)
  (hw:PySem.Within mA ns) (hsz:ns.length<=sizeLine)
  (h: ∀h',ObjM h' x dx C (λy=>if y=name then some v else mA y)->Heap.SameBut dx s.heap h'->Q () {s with heap:=h',toks:=s.toks+2}):
  wpAny (model prog w) A (setAttr (.ref x) name v) Q E s:=by
 obtain⟨od,J,hl⟩:=I.look;refine PySem.W.set_plain X J hs (PySem.W.osa_open (s:={s with toks:=s.toks+1}) (r:=none) X J hp ht λb=> ?_);obtain⟨cd,hc,hd'⟩:=PySem.W.any_some hh;have hx:s.heap.get? x=some ⟨.ref C,some dx, .plain, #[]⟩:=I.obj;refine JW (JX (JW (JW (wpAny_loadPart hx (JW (PySem.W.Looks.here (s:={s with toks:=s.toks+1}) (PySem.W.looks_clsIn X hc) ?_))))));rw[hd'];refine JX (a:=some dx) (JW (JX (JW ?_)));refine wpAny_nsSet1 (s:={s with toks:=s.toks+1}) I.ns λh' hn2 hs2=> ?_;obtain⟨oD,esD,epD,hoD,hdD,hcD⟩:=hn2.count (PySem.Within.cons name v hw);refine JW (wpAny_lookBehind hoD (by rw[hdD];exact pastItsLine_dict (JE hcD (by rw[Jp];omega))) ?_);exact JX (h _ ⟨(hs2.2 _ (Ne.symm I.ne)).trans I.obj,hn2,I.ne⟩ hs2)
theorem zld{R:Result->Shared->Prop}{vs:List Value}{kw:List (Str×Value)}(X:K.In s.heap)(hm:PySem.W.makesIn K C=true)
  (hi:PySem.W.findIn K (.ref C) "__init__"=some (some (.ref f))) (hf:PySem.W.typeIn K (.ref f)=some (.type "function"))
  (h:codeAny (model prog w) (A.under (.builtin "type.__call__" ⟨.ref C::vs,kw⟩)) (.call (.ref f) ⟨.ref (s.heap.objs.size+1)::vs,kw⟩) (PySem.W.InitBack (s.heap.objs.size+1) R)
   {s with heap:=(s.heap.push PySem.W.emptyDict).push (PySem.W.instObj C s.heap.objs.size)}):
  codeAny (model prog w) A (.call (.ref C) ⟨vs,kw⟩) R s:=by
 obtain⟨hh,g,d,t,os⟩:=s;exact PySem.W.make_core (PySem.W.makes_of X hm) (PySem.W.looks_findIn X hi) (λself=>PySem.W.bind_fn X self hf) (.inl rfl) h
end
def yT(f:Str)(v:V):List (Str×V)->List (Str×V)
 | []=> [(f,v)]
 |(g,x)::r=>if g=f then (g,v)::r else (g,x)::yT f v r
theorem zeE(f g:Str)(v:V): ∀fs:List (Str×V),(yT f v fs).lookup g=if g=f then some v else fs.lookup g
 | []=>by
  show List.lookup g [(f,v)]=_;by_cases h:g=f
  ·have hb:(g==f)=true:=beq_iff_eq.mpr h;simp only[List.lookup,hb,Jg h]
  ·have hb:(g==f)=false:=beq_eq_false_iff_ne.mpr h;simp only[List.lookup,hb,Jf h]
 |(k,x)::r=>by
  have ih:=zeE f g v r;rw[show yT f v ((k,x)::r)=(if k=f then (k,v)::r else (k,x)::yT f v r) from rfl];by_cases hk:k=f
  ·rw[Jg hk];by_cases h:g=k
   ·have hb:(g==k)=true:=beq_iff_eq.mpr h;simp only[List.lookup,hb,Jg (h.trans hk)]
   ·have hb:(g==k)=false:=beq_eq_false_iff_ne.mpr h;simp only[List.lookup,hb,Jf (λe:g=f=>h (e.trans hk.symm))]
  ·rw[Jf hk];by_cases h:g=k
   ·have hb:(g==k)=true:=beq_iff_eq.mpr h;simp only[List.lookup,hb,Jf (λe:g=f=>hk (h.symm.trans e))]
   ·have hb:(g==k)=false:=beq_eq_false_iff_ne.mpr h;simp only[List.lookup,hb];exact ih
theorem ku(f:Str)(v:V): ∀fs:List (Str×V),f∈(yT f v fs).map (·.1)/\ ∀g,g∈fs.map (·.1)->g∈(yT f v fs).map (·.1)
 | []=>⟨by simp [yT],λg h=>by simp at h⟩
 |(k,x)::r=>by
  obtain⟨i1,i2⟩:=ku f v r;rw[show yT f v ((k,x)::r)=(if k=f then (k,v)::r else (k,x)::yT f v r) from rfl];by_cases hk:k=f
  ·rw[Jg hk];subst hk;exact⟨by simp,λg h=>by simpa using h⟩
  ·rw[Jf hk];refine⟨?_,λg h=> ?_⟩
   ·rw[JA];exact Jl _ i1
   ·rw[JA] at h ⊢;rcases JD.mp h with e|e
    ·exact JD.mpr (.inl e)
    ·exact Jl _ (i2 g e)
theorem zeF(f:Str)(v:V): ∀fs:List (Str×V),(yT f v fs).length<=fs.length+1
 | []=>by simp [yT]
 |(k,x)::r=>by
  have ih:=zeF f v r;rw[show yT f v ((k,x)::r)=(if k=f then (k,v)::r else (k,x)::yT f v r) from rfl];by_cases hk:k=f
  ·rw[Jg hk,Jp,Jp];omega
  ·rw[Jf hk,Jp,Jp];omega
theorem qd.some_of{o:Option Value}(r:qd (some v) o): ∃u,o=some u/\zt v u:=by
 cases o with
 |none=>exact(show False from r).elim
 |some u=>exact⟨u,rfl,r⟩
theorem qd.none_of{o:Option Value}(r:qd none o):o=none:=by
 cases o with
 |none=>rfl
 |some u=>exact(show False from r).elim
theorem zki(r:zt v u):PySem.W.handedIn u=true:=by
 cases v with
 |non=>cases (show u=Value.none from r);rfl
 |bl b=>cases (show u=Value.bool b from r);rfl
 |int i=>obtain⟨t,e⟩:=(show∃t,u=Value.int i t from r);cases e;rfl
 |str x=>obtain⟨t,e⟩:=(show∃t,u=Value.str x t from r);cases e;rfl
 |byt b=>obtain⟨t,e⟩:=(show∃t,u=Value.bytes b t from r);cases e;rfl
 |flt b=>obtain⟨t,e⟩:=(show∃t,u=Value.float b t from r);cases e;rfl
 |ref a=>cases (show u=Value.ref a from r);rfl
 |ty n=>cases (show u=Value.type n from r);rfl
section
variable {P:Program} {w:World} {H H':Hp} {h h':Heap} {a C dx:Addr} {fs fs':List (Str×V)}
theorem kz(hok:HOk P w H h)(e:H a=some (.ins C dx fs)): ∃mA,ObjM h a dx C mA/\(∀f,qd (fs.lookup f) (mA f))/\PySem.Within mA (fs.map (·.1))/\fs.length<=1000/\H dx=some (.own a):=by
 obtain⟨d,z,ne,ob,mA,n,r,q⟩:=(show yy P w H h a (.ins C dx fs) from hok a _ e)
 exact⟨mA,⟨ob,n,ne⟩,r,q,z,d⟩
end
structure Cls (K:Fg) (C:Addr):Prop where
 pg:PySem.W.plainGet K C Str.empty=true
 hd:PySem.W.hasDictIn K C=true
 po:PySem.W.plainOver K C=true
 sa:PySem.W.findIn K (.ref C) "__setattr__"=some (some (.builtin "object.__setattr__"))
theorem Cls.get(c:Cls K C)(f:Str):PySem.W.plainGet K C f=true:=c.pg
def xH(K:Fg)(C:Addr)(f:Str):Prop:=PySem.W.findIn K (.ref C) f=some none
theorem xH.taker{f:Str}(n:xH K C f):PySem.W.takerIn K C f=some none:=by
 unfold PySem.W.takerIn;rw[show PySem.W.findIn K (.ref C) f=some none from n];rfl
structure Con (K:Fg) (C:Addr) (f:Str) (v:V) (u:Value):Prop where
 at_:PySem.W.findIn K (.ref C) f=some (some u)
 rel:zt v u
 get:PySem.W.specialIn K u "__get__"=some none
 cp:PySem.W.copiedNames.contains f=false
structure Meth (K:Fg) (C:Addr) (m:Str) (f:Addr):Prop where
 at_:PySem.W.findIn K (.ref C) m=some (some (.ref f))
 fn:PySem.W.isFn K (.ref f)=true
 kp:PySem.W.keepIn K (.ref f)=true
section
variable {X:Cx} {pins:List (Addr×Obj)} {σ:St} {H:Hp} {s:Shared} {a C dx:Addr} {fs:List (Str×V)} {f:Str} {v:V} {A:Around} {E:Value->Shared->Prop}
theorem ze4{b:Bool}{Q:Value->Shared->Prop}(I:Inv X pins σ H s)(e:H a=some (.ins C dx fs))(c:Cls X.K C)(n:xH X.K C f)(l:fs.lookup f=some v)
  (h: ∀u s',Inv X pins σ H s'->zt v u->Q u s'):wpAny (model X.prog X.w) A (getAttr (.ref a) f b) Q E s:=by
 obtain⟨mA,O,r,_,_,_⟩:=kz I.hok e;obtain⟨u,hu,ru⟩:=qd.some_of (v:=v) (o:=mA f) (by rw[<-l];exact r f);exact znt I.kIn O (c.get f) c.hd n hu (zki ru) (h u _ (I.tok _) ru)
theorem ze5{m:Str}{g:Addr}{pl:Sem Bool}{Q:Value×List Value->Shared->Prop}(I:Inv X pins σ H s)(e:H a=some (.ins C dx fs))(c:Cls X.K C)(k:Meth X.K C m g)(l:fs.lookup m=none)
  (h:Q (.ref g, [.ref a]) s):wpAny (model X.prog X.w) A (getMethod (.ref a) m pl) Q E s:=by
 obtain⟨mA,O,r,_,_,_⟩:=kz I.hok e;have hn:mA m=none:=qd.none_of (by rw[<-l];exact r m);exact zlc I.kIn O (c.get m) k.at_ k.fn hn h
theorem ze6{Q:Unit->Shared->Prop}(I:Inv X pins σ H s)(e:H a=some (.ins C dx fs))(c:Cls X.K C)(n:xH X.K C f)(hl:fs.length<1000)(ry:zt y u)
  (h: ∀s',Inv X pins σ (upd H a (.ins C dx (yT f y fs))) s'->Q () s'):wpAny (model X.prog X.w) A (setAttr (.ref a) f u) Q E s:=by
 obtain⟨mA,O,r,wi,_,ho⟩:=kz I.hok e;have hz:(fs.map (·.1)).length<=sizeLine:=by rw[Ja,sizeLine_eq];omega
 refine znu I.kIn O c.sa c.po n.taker c.hd wi hz λh' O' sb=>h _ ?_;have hd: ∃o,h'.get? dx=some o:=let ⟨o,_,_,e',_⟩:=O'.ns;⟨o,e'⟩;refine I.write (x:=a) (e:=dx) (by rw[e];exact True.intro) (.inr ho) (λb q hb z=>(sb.2 b hb).trans z) hd ?_;refine⟨by rw[zu O.ne];exact ho,?_,O.ne,O'.obj,_,O'.ns,λg=> ?_,λg hg=> ?_⟩
 ·have:=zeF f y fs;omega
 ·show qd ((yT f y fs).lookup g) (if g=f then some u else mA g);rw[zeE];by_cases q:g=f
  ·rw[Jg q,Jg q];exact ry
  ·rw[Jf q,Jf q];exact r g
 ·by_cases q:g=f
  ·rw[q];exact(ku f y fs).1
  ·refine(ku f y fs).2 g (wi g λz=>hg ?_);show (if g=f then some u else mA g)=none;rw[Jf q];exact z
theorem Inv.made(I:Inv X pins σ H s):Inv X pins σ (upd (upd H s.heap.objs.size (.own (s.heap.objs.size+1))) (s.heap.objs.size+1) (.ins C s.heap.objs.size []))
  {s with heap:=(s.heap.push PySem.W.emptyDict).push (PySem.W.instObj C s.heap.objs.size)}:=by
 have e1:(s.heap.push PySem.W.emptyDict).get? s.heap.objs.size=some PySem.W.emptyDict:=Qc s.heap rfl;have e2:((s.heap.push PySem.W.emptyDict).push (PySem.W.instObj C s.heap.objs.size)).get? (s.heap.objs.size+1)=some (PySem.W.instObj C s.heap.objs.size):=by
  have:=Qc (s.heap.push PySem.W.emptyDict) (o:=PySem.W.instObj C s.heap.objs.size) rfl;rwa[Heap.size_push] at this
 have e3:(s.heap.push PySem.W.emptyDict).Ns s.heap.objs.size (λ_=>none):=⟨PySem.W.emptyDict, #[],_,e1,rfl,(λe he=>absurd he (by simp)),λ_=>rfl⟩
 have I1:=I.laid (a:=s.heap.objs.size) (o:= .own (s.heap.objs.size+1)) (h':=s.heap.push PySem.W.emptyDict) (t':=s.toks) (λb u q=>Qa _ q) (Je _) ⟨_,e1⟩;refine I1.laid (a:=s.heap.objs.size+1) (o:= .ins C s.heap.objs.size []) (t':=s.toks) (λb u q=>Qa _ q) (Nat.le_of_eq (Heap.size_push _ _)) ?_;have ne:s.heap.objs.size≠s.heap.objs.size+1:=JK (Nat.lt_succ_self _);refine⟨by rw[zu ne,zN],Jv _,ne,e2,λ_=>none,(Heap.Ns1.of_empty e3).at λo q=>Qa _ q,λ_=>True.intro,λy hy=>absurd rfl hy⟩
theorem znv{prog:Program}{w:World}{env:Env}{pos:Pos}{s:Shared}{Q:Value->Shared->Prop}(hb:attributeBase e f env (eval e env)=eval e env)
  (h:wpAny (model prog w) A (eval e env) (λo s₁=>wpAny (model prog w) A (getAttr o f true) Q E s₁) E s):wpAny (model prog w) A (eval (.Attribute e f pos) env) Q E s:=
 Attribute_any_ h (by rw[arm_eval_Attribute,hb])
end
def zqP(K:Fg)(ta:TE)(f:Str):TE:=λσ H Q=>ta σ H λx H1=> ∃a C dx fs v,x= .ref a/\H1 a=some (.ins C dx fs)/\Cls K C/\xH K C f/\fs.lookup f=some v/\Q v H1
def zqQ(K:Fg)(ta tv:TE)(f:Str):TS:=λD σ H=>tv σ H λy H1=>ta σ H1 λx H2=> ∃a C dx fs,x= .ref a/\H2 a=some (.ins C dx fs)/\Cls K C/\xH K C f/\fs.length<1000/\
 D.nx σ (upd H2 a (.ins C dx (yT f y fs)))
def kA(X:Cx)(op:Operator)(rd:V->V->Hp->VK->Prop):Prop:=
 ∀(pins:List (Addr×Obj)) (s:Shared) (σ:St) (H:Hp) (x y:V) (u v:Value) (Q:VK),Inv X pins σ H s->zt x u->zt y v->rd x y H Q->wpAny (model X.prog X.w) X.A (inplaceOp op u v) (EP X pins σ Q) X.xe s
def zjm(K:Fg)(ta tv:TE)(rd:V->V->Hp->VK->Prop)(f:Str):TS:=λD σ H=>ta σ H λx H1=> ∃a C dx fs v,x= .ref a/\H1 a=some (.ins C dx fs)/\Cls K C/\xH K C f/\fs.lookup f=some v/\
 tv σ H1 λy H2=>rd v y H2 λz H3=> ∃dx' fs',H3 a=some (.ins C dx' fs')/\fs'.length<1000/\D.nx σ (upd H3 a (.ins C dx' (yT f z fs')))
section
variable {X:Cx} {o e value:Expr} {f:Str} {pos pos' tpos:Pos} {ta tv:TE}
theorem wt(he:PE X e ta)(hb:attributeBase e f X.env (eval e X.env)=eval e X.env):PE X (.Attribute e f pos) (zqP X.K ta f):=by
 intro pins s σ H Q I h;refine znv hb (thn (he pins s σ H _ I h) λu s1 ⟨x,H1,I1,rx,a,C,dx,fs,v,ex,ea,c,n,l,q⟩=> ?_);subst ex;obtain rfl:u=Value.ref a:=rx;exact ze4 I1 ea c n l λu' s2 I2 ru=>⟨v,H1,I2,ru,q⟩
theorem uO(ha:PE X o ta)(hv:PE X value tv)(hs:swapsWith value (some (.Attribute o f pos')) pos.line X.env=pure false):PS X (.Assign [.Attribute o f pos'] value pos) (zqQ X.K ta tv f):=by
 intro pins s σ H D I h;refine plainObj_wpAny_Assign_Attribute (thn (hv pins s σ H _ I h) λu s1 ⟨y,H1,I1,ry,q⟩=>thn (ha pins s1 σ H1 _ I1 q) λov s2 ⟨x,H2,I2,rx,a,C,dx,fs,ex,ea,c,n,l,q2⟩=> ?_) hs;subst ex;obtain rfl:ov=Value.ref a:=rx;exact ze6 I2 ea c n l ry λs3 I3=>⟨σ,_,I3,q2⟩
theorem ua{rd:V->V->Hp->VK->Prop}(ha:PE X o ta)(hv:PE X value tv)(hop:kA X op rd):PS X (.AugAssign (.Attribute o f tpos) op value pos) (zjm X.K ta tv rd f):=by
 intro pins s σ H D I h;refine wpAny_AugAssign_AttributeAny (thn (ha pins s σ H _ I h) λov s1 ⟨x,H1,I1,rx,a,C,dx,fs,v,ex,ea,c,n,l,q⟩=> ?_);subst ex;obtain rfl:ov=Value.ref a:=rx;refine ze4 I1 ea c n l λu s2 I2 ru=>thn (hv pins s2 σ H1 _ I2 q) λw3 s3 ⟨y,H2,I3,ry,q3⟩=>thn (hop pins s3 σ H2 v y u w3 _ I3 ru ry q3) λw4 s4 ⟨z,H3,I4,rz,dx',fs',ea',l',q4⟩=> ?_;exact ze6 I4 ea' c n l' rz λs5 I5=>⟨σ,_,I5,q4⟩
def zqR:V->V->Hp->VK->Prop:=λx y H Q=> ∃i j,x= .int i/\y= .int j/\Q (.int (i+j)) H
def zqS:V->V->Hp->VK->Prop:=λx y H Q=> ∃i j,x= .int i/\y= .int j/\Q (.int (i - j)) H
theorem kF:kA X .Add zqR:=by
 rintro pins s σ H x y u v Q I rx ry ⟨i,j,rfl,rfl,q⟩;obtain⟨t,rfl⟩:=(show∃t,u=Value.int i t from rx)
 obtain⟨t',rfl⟩:=(show∃t',v=Value.int j t' from ry)
 exact PyProof.Rows.iadd_int ⟨.int (i+j),H,I.tok _,⟨_,rfl⟩,q⟩
theorem zle:kA X .Sub zqS:=by
 rintro pins s σ H x y u v Q I rx ry ⟨i,j,rfl,rfl,q⟩;obtain⟨t,rfl⟩:=(show∃t,u=Value.int i t from rx)
 obtain⟨t',rfl⟩:=(show∃t',v=Value.int j t' from ry)
 exact PyProof.Rows.isub_int ⟨.int (i - j),H,I.tok _,⟨_,rfl⟩,q⟩
end
section
variable {X:Cx} {pins:List (Addr×Obj)} {σ:St} {H:Hp} {s:Shared} {A:Around} {E:Value->Shared->Prop} {Q:Value->Shared->Prop} {c:Value} {b:Bool}
inductive TyOf (K:Fg) (H:Hp):V->Value->Prop where
 |non:TyOf K H .non (.type "NoneType")
 |bl (x:Bool):TyOf K H (.bl x) (.type "bool")
 |int (i:Int):TyOf K H (.int i) (.type "int")
 |str (x:Str):TyOf K H (.str x) (.type "str")
 |flt (x:UInt64):TyOf K H (.flt x) (.type "float")
 |lst {a:Addr} {xs:List V} (e:H a=some (.lst xs)):TyOf K H (.ref a) (.type "list")
 |frz {a:Addr} {o:Obj} {xs:List V} (e:H a=some (.frz o (.lst xs))):TyOf K H (.ref a) (.type "list")
 |tup {a:Addr} {xs:List V} (e:H a=some (.tup xs)):TyOf K H (.ref a) (.type "tuple")
 |dK {a:Addr} {kvs:List (Key×V)} (e:H a=some (.dK kvs)):TyOf K H (.ref a) (.type "dict")
 |dT {a:Addr} {kvs:List (List Key×V)} (e:H a=some (.dT kvs)):TyOf K H (.ref a) (.type "dict")
 |ins {a C dx:Addr} {fs:List (Str×V)} (e:H a=some (.ins C dx fs)) (cl:Cls K C) (ha:PySem.W.findIn K (.ref C) "__class__"=some (some (.builtin "object.__class__")))
   (hn:PySem.W.specialIn K (.builtin "object.__class__") "__get__"=some (some (.builtin "getset_descriptor.__get__"))) (htk:PySem.W.takesIn K (.builtin "object.__class__")=some true)
   (hm:PySem.W.mroIn K C (.type "object")=some true):TyOf K H (.ref a) (.ref C)
end
structure Room (k:Nat) (A:Around):Prop where
 hd:A.handled=none
 dp:A.depth+3*k+5<recursionLimit
 un:A.units+16*k+200<cLine
theorem Room.mono{j k:Nat}(r:Room k A)(h:j<=k):Room j A:=⟨r.hd,by have:=r.dp;omega,by have:=r.un;omega⟩
theorem Room.deeper{k:Nat}{A:Around}(r:Room (k+1) A)(env:Env):Room k (A.deeper env):=
 ⟨r.hd,by have:=r.dp;show A.depth+1+3*k+5<_;omega,by have:=r.un;show A.units+3+16*k+200<_;omega⟩
theorem ziA:(A.under (.builtin "type.__call__" ⟨.ref C::us,kw⟩)).depth=A.depth+1:=by
 first|rfl|simp [Around.under,Code.weight,Code.isCreation,Code.isGuard,Code.isCaller,Code.frames,Code.isFrame,guardIds]
theorem ziB:(A.under (.builtin "type.__call__" ⟨.ref C::us,kw⟩)).units=A.units+1:=by
 first|rfl|simp [Around.under,Code.cUnits,Code.frames,Code.isFrame]
theorem Room.make{k:Nat}(r:Room (k+1) A)(C:Addr)(us:List Value)(kw:List (Str×Value)):Room k (A.under (.builtin "type.__call__" ⟨.ref C::us,kw⟩)):=
 ⟨r.hd,by have:=r.dp;rw[ziA];omega,by have:=r.un;rw[ziB];omega⟩
theorem Room.depth{k:Nat}{A:Around}(r:Room k A):A.depth<recursionLimit:=by have:=r.dp;omega
theorem Room.units{k:Nat}{A:Around}(r:Room k A):A.units+64<cLine:=by have:=r.un;omega
def uP:TA:=λ_ H Q=>Q [] H
def zos(ta:TE)(tr:TA):TA:=λσ H Q=>ta σ H λx H1=>tr σ H1 λxs H2=>Q (x::xs) H2
section
variable {X:Cx} {e:Expr} {es:List Expr} {te:TE} {t:TA} {pos:Pos}
theorem zd:PA X [] uP:=λ_ _ _ _ H Q I h=>Calls.spliced_nil ⟨[],H,I, .nil,h⟩
theorem zb(ha:PE X e te)(hr:PA X es t)(hs:starEach (e::es) X.env=(false,eval e X.env)::starEach es X.env:=by rfl):PA X (e::es) (zos te t):=by
 intro pos pins s σ H Q I h;rw[hs];show wpAny _ _ (spliced ((false,eval e X.env)::backTo pos (starEach es X.env))) _ _ s;refine Calls.spliced_cons (thn (ha pins s σ H _ I h) λu s1 ⟨x,H1,I1,r1,q1⟩=> ?_);exact thn (hr pos pins s1 σ H1 _ I1 q1) λus s2 ⟨xs,H2,I2,r2,q2⟩=>⟨x::xs,H2,I2, .cons r1 r2,q2⟩
def zqT(t:TA):TE:=λσ H Q=>t σ H λxs H1=>xs.length<=sizeLine/\ ∀p,H1 p=none->Q (.ref p) (upd H1 p (.tup xs))
theorem zo5{x1}(h:PA X es t):PE X (.Tuple es x1 pos) (zqT t):=by
 intro pins s σ H Q I hq;refine wpAny_Tuple_spliced (thn (h pos pins s σ H _ I hq) λus s1 ⟨xs,H1,I1,r,z,q⟩=>⟨by rw[<-r.length];exact z,?_⟩);have hf:H1 s1.heap.objs.size=none:=I1.hok.fresh (Je _);refine⟨.ref s1.heap.objs.size,upd H1 s1.heap.objs.size (.tup xs),I1.laid (t':=s1.toks) (λb u e=>Qa _ e) (Je _) ?_,rfl,q _ hf⟩;exact⟨z,us,r,⟨_,Qc _ rfl,rfl,_,rfl⟩⟩
end
abbrev Sp:=List V->Hp->VK->XK->Prop
abbrev CXT:=List Env->Hp->Shared->XK->Value->Shared->Prop
structure Env0 (P:Program) (w:World) (K:Fg) (mg:Str->Option Value) (base:Heap) (A:Around) (outer:List Env) (s:Shared) (H:Hp):Prop where
 frames:A.frames=some outer
 mod:Mod K mg base
 bs: ∀b o,base.get? b=some o->s.heap.get? b=some o/\H b=none
 bsz:base.objs.size<=s.heap.objs.size
 funs:s.heap.FunFrames base outer
 frf: ∀b∈frs outer,H b=none
 hok:HOk P w H s.heap
 bare:AllBare s.gens
def CE(outer:List Env)(P:Program)(w:World)(H:Hp)(s:Shared)(Q:VK)(u:Value)(s':Shared):Prop:=
 ∃v H',s'.os=s.os/\AllBare s'.gens/\Un (frs outer) [] H H' s.heap s'.heap/\HOk P w H' s'.heap/\zt v u/\Q v H'
def CR(CX:CXT)(outer:List Env)(P:Program)(w:World)(H:Hp)(s:Shared)(Q:VK)(E:XK)(r:Result)(s':Shared):Prop:=
 match r with
 | .ok (.ret u)=>CE outer P w H s Q u s'
 | .ok _=>False
 | .error e=>CX outer H s E e s'
structure FnOk (P:Program) (w:World) (K:Fg) (mg:Str->Option Value) (base:Heap) (CX:CXT) (k:Nat) (f:Addr) (fd:FuncData) (ps:List Str) (sp:Sp):Prop where
 len: ∀vs H Q E,sp vs H Q E->vs.length=ps.length
 run: ∀(A:Around) (outer:List Env) (s:Shared) (H:Hp) (args:Args) (us:List Value) (vs:List V) (Q:VK) (E:XK),Room k A->Env0 P w K mg base A outer s H->BindsTo s fd args (ps.zip us)->zw vs us->sp vs H Q E->
  codeAny (model P w) A (.call (.ref f) args) (CR CX outer P w H s Q E) s
theorem FnOk.mono{P:Program}{w:World}{K:Fg}{mg:Str->Option Value}{base:Heap}{CX:CXT}{j k:Nat}{f:Addr}{fd:FuncData}{ps:List Str}{sp:Sp}(F:FnOk P w K mg base CX j f fd ps sp)(h:j<=k):
  FnOk P w K mg base CX k f fd ps sp:=⟨F.len,λA outer s H args us vs Q E hr=>F.run A outer s H args us vs Q E (hr.mono h)⟩
theorem Env0.make{mg:Str->Option Value}{outer:List Env}(e:Env0 P w K mg base A outer s H)(C:Addr)(us:List Value)(kw:List (Str×Value)):
  Env0 P w K mg base (A.under (.builtin "type.__call__" ⟨.ref C::us,kw⟩)) outer s H:=⟨by first|exact e.frames|(simpa [Around.under,Code.envs,Code.isFrame,pushEnvs] using e.frames),e.mod,e.bs,e.bsz,e.funs,e.frf,e.hok,e.bare⟩
section
variable {X:Cx} {pins:List (Addr×Obj)} {σ:St} {H:Hp} {s s':Shared}
theorem Inv.env0(I:Inv X pins σ H s):Env0 X.prog X.w X.K X.mg X.base X.A X.stack s H:=
 ⟨I.ok.frames,I.ok.mod,I.bs,JE I.ok.bsz I.sz,I.stack,I.stkFree,I.hok,I.bare⟩
theorem Inv.after{Q:VK}(I:Inv X pins σ H s)(h:CE X.stack X.prog X.w H s Q u s'):EP X pins σ Q u s':=by
 obtain⟨v,H',os,bare,un,hok,r,q⟩:=h;obtain⟨hh,g,d,t,os'⟩:=s';obtain rfl:os'=s.os:=os;exact⟨v,H',I.call (h':=hh) (g':=g) (d':=d) (t':=t) (ch:= []) un hok bare (λb z=>absurd z (by simp)),r,q⟩
end
def kG(C:Addr)(m:Str)(sp:Sp)(dvs:List V)(E:XK)(ta:TE)(t:TA):TE:=λσ H Q=>ta σ H λx H1=> ∃a dx fs,x= .ref a/\H1 a=some (.ins C dx fs)/\fs.lookup m=none/\
 t σ H1 λvs H2=>sp (x::(vs++dvs)) H2 Q E
def zot(C:Addr)(sp:Sp)(dvs:List V)(E:XK)(t:TA):TE:=λσ H Q=>t σ H λvs H1=> ∀x dx,H1 x=none->H1 dx=none->dx≠x->
 sp (.ref x::(vs++dvs)) (upd (upd H1 dx (.own x)) x (.ins C dx [])) (λv H2=>v= .non/\Q (.ref x) H2) E
def qf(K:Fg)(fd:FuncData)(ps:List Str)(ds:List Value):Prop:=
 ∀(s:Shared) (us:List Value),K.In s.heap->(us++ds).length=ps.length->BindsTo s fd ⟨us, []⟩ (ps.zip (us++ds))
theorem qf.all{fd:FuncData}(h: ∀us:List Value,us.length=ps.length->bindArgs fd ⟨us, []⟩=pure (ps.zip us)):qf K fd ps []:=λs us _ hl=>by
 rw[Jt] at hl ⊢;exact .of_eq (h us hl)
def vo(CX:CXT)(X:Cx)(E:XK):Prop:= ∀(pins:List (Addr×Obj)) (σ:St) (H:Hp) (s:Shared) (e:Value) (s':Shared),Inv X pins σ H s->CX X.stack H s E e s'->X.xe e s'
section
variable {X:Cx} {CX:CXT} {k:Nat} {f C:Addr} {fd:FuncData} {ps:List Str} {sp:Sp} {dvs:List V} {ds:List Value} {E:XK} {x m:Str} {p pos apos:Pos} {e o:Expr} {es:List Expr} {ta:TE} {t:TA}
theorem zlg{pins:List (Addr×Obj)}{σ:St}{H:Hp}{s:Shared}{Q:VK}{us:List Value}{vs:List V}(F:FnOk X.prog X.w X.K X.mg X.base CX k f fd ps sp)(hr:Room k X.A)(hb:qf X.K fd ps ds)(hd:zw dvs ds)(hx:vo CX X E)
  (I:Inv X pins σ H s) (r:zw vs us) (h:sp (vs++dvs) H Q E):wpAny (model X.prog X.w) X.A (call (.ref f) us) (EP X pins σ Q) X.xe s:=by
 have r2:zw (vs++dvs) (us++ds):=r.append hd;have hl:(us++ds).length=ps.length:=by rw[<-r2.length];exact F.len _ _ _ _ h
 refine wpAny_call (codeAny_mono (F.run X.A X.stack s H ⟨us, []⟩ (us++ds) (vs++dvs) Q E hr I.env0 (hb s us I.kIn hl) r2 h) λr s' hq=> ?_);cases r with
 |error e=>exact hx pins σ H s e s' I hq
 |ok fl=>
  cases fl with
  |ret u=>exact I.after hq
  |next=>exact False.elim hq
  |brk=>exact False.elim hq
  |cont=>exact False.elim hq
theorem vp{pl:Sem Bool}(he:PE X o ta)(c:Cls X.K C)(hm:Meth X.K C m f)(F:FnOk X.prog X.w X.K X.mg X.base CX k f fd ps sp)(hr:Room k X.A)(hb:qf X.K fd ps ds)(hd:zw dvs ds)(hx:vo CX X E)(ha:PA X (e::es) t)
  (hst:starEach (e::es) X.env=(false,eval e X.env)::starEach es X.env:=by rfl) (hpl:(backTo pos (starEach es X.env)).any (·.1)=false:=by rfl)
  (ht:eval (.Call (.Attribute o m apos) (e::es) [] pos) X.env=(do
   let ov<-eval o X.env
   standAt apos.atName
   let (f,first)<-holding [ov] (getMethod ov m pl)
   callWith pos f first (backTo pos (starEach (e::es) X.env)) (backToKw pos (keywordEach [] X.env))):=by rfl):
  PE X (.Call (.Attribute o m apos) (e::es) [] pos) (kG C m sp dvs E ta t):=by
 intro pins s σ H Q I h;refine PySem.W.methodCall_KW (pl:=pl) (thn (he pins s σ H _ I h) λu s1 ⟨x,H1,I1,rx,a,dx,fs,ex,ea,l,q⟩=> ?_) ht;subst ex;obtain rfl:u=Value.ref a:=rx;refine ze5 I1 ea c hm l ?_;refine PySem.W.callWith_K (first:= [.ref a]) (h₀:=X.base) I.ok.mod.kin hm.kp (thn (ha pos pins s1 σ H1 _ I1 q) λus s2 ⟨vs,H2,I2,r,q2⟩=>⟨I2.kIn,?_⟩) hst hpl;exact zlg (us:= .ref a::us) (vs:= .ref a::vs) F hr hb hd hx I2 (.cons rfl r) q2
theorem zhx{pl:Sem Bool}(he:PE X o ta)(c:Cls X.K C)(hm:Meth X.K C m f)(F:FnOk X.prog X.w X.K X.mg X.base CX k f fd ps sp)(hr:Room k X.A)(hb:qf X.K fd ps ds)(hd:zw dvs ds)(hx:vo CX X E)
  (ht:eval (.Call (.Attribute o m apos) [] [] pos) X.env=(do
   let ov<-eval o X.env
   standAt apos.atName
   let (f,first)<-holding [ov] (getMethod ov m pl)
   callWith pos f first (backTo pos (starEach [] X.env)) (backToKw pos (keywordEach [] X.env))):=by rfl):
  PE X (.Call (.Attribute o m apos) [] [] pos) (kG C m sp dvs E ta uP):=by
 intro pins s σ H Q I h;refine PySem.W.methodCall_KW (pl:=pl) (thn (he pins s σ H _ I h) λu s1 ⟨x,H1,I1,rx,a,dx,fs,ex,ea,l,q⟩=> ?_) ht;subst ex;obtain rfl:u=Value.ref a:=rx;refine ze5 I1 ea c hm l ?_;exact PySem.W.callWith_K0 (first:= [.ref a]) I1.kIn hm.kp (zlg (us:= [.ref a]) (vs:= [.ref a]) F hr hb hd hx I1 (.cons rfl .nil) q)
structure Mk (K:Fg) (C f:Addr):Prop where
 makes:PySem.W.makesIn K C=true
 init:PySem.W.findIn K (.ref C) "__init__"=some (some (.ref f))
 fn:PySem.W.isFn K (.ref f)=true
 kp:PySem.W.keepIn K (.ref C)=true
theorem zlh{pins:List (Addr×Obj)}{σ:St}{H:Hp}{s:Shared}{Q:VK}{us:List Value}{vs:List V}(M:Mk X.K C f)(F:FnOk X.prog X.w X.K X.mg X.base CX k f fd ps sp)(hr:Room (k+1) X.A)(hb:qf X.K fd ps ds)(hd:zw dvs ds)
  (hx:vo CX X E) (I:Inv X pins σ H s) (r:zw vs us)
  (h: ∀x dx,H x=none->H dx=none->dx≠x->sp (.ref x::(vs++dvs)) (upd (upd H dx (.own x)) x (.ins C dx [])) (λv H2=>v= .non/\Q (.ref x) H2) E):
  wpAny (model X.prog X.w) X.A (call (.ref C) us) (EP X pins σ Q) X.xe s:=by
 have hq:=h (s.heap.objs.size+1) s.heap.objs.size (I.hok.fresh (Nat.le_succ _)) (I.hok.fresh (Je _)) (JK (Nat.lt_succ_self _));have I2:=Inv.made (C:=C) I;have r2:zw (V.ref (s.heap.objs.size+1)::(vs++dvs)) (Value.ref (s.heap.objs.size+1)::(us++ds)):= .cons rfl (r.append hd);have hl:(Value.ref (s.heap.objs.size+1)::us++ds).length=ps.length:=by
  have e:=r2.length;rw[F.len _ _ _ _ hq] at e;exact e.symm
 refine wpAny_call (zld (f:=f) I.kIn M.makes M.init (beq_iff_eq.mp M.fn) (codeAny_mono (F.run _ X.stack _ _ ⟨Value.ref (s.heap.objs.size+1)::us, []⟩ (Value.ref (s.heap.objs.size+1)::(us++ds)) _ _ E (hr.make C us [])
  (I2.env0.make C us []) (hb _ (Value.ref (s.heap.objs.size+1)::us) I2.kIn hl) r2 hq) λr s' hq'=> ?_))
 cases r with
 |error e=>exact hx pins σ _ _ e s' I2 hq'
 |ok fl=>
  cases fl with
  |ret u=>
   obtain⟨v,H',I3,rv,ev,q3⟩:=I2.after hq';subst ev;exact⟨rv,⟨V.ref (s.heap.objs.size+1),H',I3,rfl,q3⟩⟩
  |next=>exact False.elim hq'
  |brk=>exact False.elim hq'
  |cont=>exact False.elim hq'
theorem zli(M:Mk X.K C f)(F:FnOk X.prog X.w X.K X.mg X.base CX k f fd ps sp)(hr:Room (k+1) X.A)(hg:Gl X x)(hm:X.mg x=some (.ref C))(hb:qf X.K fd ps ds)(hd:zw dvs ds)(hx:vo CX X E)
  (hdb:(x==("__debug__":Str))=false:=by decide):PE X (.Call (.Name x p) [] [] pos) (zot C sp dvs E uP):=by
 intro pins s σ H Q I h;refine wpAny_Call_Name_kw (vV I hg hm ?_ hdb);exact PySem.W.callWith_K0 I.kIn M.kp (zlh (us:= []) M F hr hb hd hx I .nil h)
end
section
variable {X:Cx} {CX:CXT} {k:Nat} {f C:Addr} {fd:FuncData} {ps ks:List Str} {sp:Sp} {E:XK} {x m:Str} {p pos apos kpos:Pos} {e o:Expr} {es:List Expr} {kws:List Keyword} {te ta:TE} {t tk:TA} {nm:Option Str}
structure KBinds (K:Fg) (fd:FuncData) (ps ks:List Str) (g:List Value->List Value->List Value) (gV:List V->List V->List V):Prop where
 to: ∀(s:Shared) (us ws:List Value),K.In s.heap->(g us ws).length=ps.length->BindsTo s fd ⟨us,ks.zip ws⟩ (ps.zip (g us ws))
 rel: ∀{vs:List V} {us:List Value} {zs:List V} {ws:List Value},zw vs us->zw zs ws->zw (gV vs zs) (g us ws)
variable {g:List Value->List Value->List Value} {gV:List V->List V->List V}
end
structure FnScope (N P:List Str) (sc:Scope):Prop where
 kind:sc.kind= .function
 co:sc.isCoroutine=false
 gen:sc.isGenerator=false
 nd:N.Nodup
 pre:N.take P.length=P
 par: ∀x∈P,sc.names.lookup x=some .local\/sc.names.lookup x=some .cell
 nofree: ∀y∈sc.names,y.2≠ .free
theorem zf0{kindOf:Str->Option NameKind}{x:Str}: ∀{binds:List (Str×Value)} {m:Str->Option Value},(∀v,(x,v)∉binds)->bindL kindOf binds m x=m x
 | [],_,_=>rfl
 |(n,v)::r,m,h=>by
  unfold bindL;rw[zf0 λw hw=>h w (Jl _ hw)];split
  ·have:x≠n:=by rintro rfl;exact h v Jq
   simp [this]
  ·rfl
theorem zf1{kindOf:Str->Option NameKind}{x:Str}: ∀{binds:List (Str×Value)} {m:Str->Option Value},(∀v,(x,v)∉binds)->bindC kindOf binds m x=m x
 | [],_,_=>rfl
 |(n,v)::r,m,h=>by
  unfold bindC;rw[zf1 λw hw=>h w (Jl _ hw)];split
  ·rfl
  ·have:x≠n:=by rintro rfl;exact h v Jq
   simp [this]
theorem zf2{kindOf:Str->Option NameKind}{x:Str}{v:Value}: ∀{P:List Str} {vs:List Value} {i:Nat} {m:Str->Option Value},P.Nodup->P[i]? =some x->vs[i]? =some v->kindOf x=some .local->
  bindL kindOf (P.zip vs) m x=some v
 | [],_,_,_,_,h,_,_=>by simp at h
 |_::_, [],_,_,_,_,h,_=>by simp at h
 |p::P,w::vs,0,m,nd,h1,h2,hk=>by
  simp at h1 h2;subst h1;subst h2;show bindL kindOf ((p,w)::P.zip vs) m p=_;unfold bindL;rw[zf0 λv hv=>(List.nodup_cons.mp nd).1 (List.of_mem_zip hv).1,Jg hk];simp
 |p::P,w::vs,i+1,m,nd,h1,h2,hk=>by
  show bindL kindOf ((p,w)::P.zip vs) m x=_;unfold bindL;exact zf2 (i:=i) (List.nodup_cons.mp nd).2 (by simpa using h1) (by simpa using h2) hk
theorem zf3{kindOf:Str->Option NameKind}{x:Str}{v:Value}: ∀{P:List Str} {vs:List Value} {i:Nat} {m:Str->Option Value},P.Nodup->P[i]? =some x->vs[i]? =some v->kindOf x≠some .local->
  bindC kindOf (P.zip vs) m x=some v
 | [],_,_,_,_,h,_,_=>by simp at h
 |_::_, [],_,_,_,_,h,_=>by simp at h
 |p::P,w::vs,0,m,nd,h1,h2,hk=>by
  simp at h1 h2;subst h1;subst h2;show bindC kindOf ((p,w)::P.zip vs) m p=_;unfold bindC;rw[zf1 λv hv=>(List.nodup_cons.mp nd).1 (List.of_mem_zip hv).1,Jf hk];simp
 |p::P,w::vs,i+1,m,nd,h1,h2,hk=>by
  show bindC kindOf ((p,w)::P.zip vs) m x=_;unfold bindC;exact zf3 (i:=i) (List.nodup_cons.mp nd).2 (by simpa using h1) (by simpa using h2) hk
def start(N:List Str)(vs:List V):St:=vs.map some++List.replicate (N.length - vs.length) none
def xI(CX:CXT)(P:Program)(w:World)(K:Fg)(mg:Str->Option Value)(base:Heap)(N:List Str)(qual:Str)(scope:Scope)(f:Addr)(cd:Value)(A:Around)(outer:List Env)(s:Shared)(H:Hp)(E:XK):Cx where
 prog:=P
 w:=w
 K:=K
 mg:=mg
 base:=base
 A:=A.deeper (envOfC qual scope s.heap.objs.size f cd)
 N:=N
 s₀:=s
 H₀:=H
 env:=envOfC qual scope s.heap.objs.size f cd
 outer:=outer
 stack:=envOfC qual scope s.heap.objs.size f cd::outer
 ex:= []
 calm:=true
 fn:=λ_=>true
 pn:= []
 xe:=λe s'=>wpAny (model P w) (A.deeper (envOfC qual scope s.heap.objs.size f cd)) (leaving (envOfC qual scope s.heap.objs.size f cd) e) (λ_ s''=>CX outer H s E e s'') (λe' s''=>CX outer H s E e' s'') s'
theorem zhy{sc:Scope}(h:sc.names.lookup x=some .cell): ∃c,(cellsFrom n sc.names []).lookup x=some c:=by
 have q:=PySem.W.cellsFrom_some sc.names n [] (.inl h);exact Option.isSome_iff_exists.mp q
theorem zkj{CX:CXT}{P:Program}{w:World}{K:Fg}{mg:Str->Option Value}{base:Heap}{N ps:List Str}{qual:Str}{scope:Scope}{f:Addr}{cd:Value}{A:Around}{outer:List Env}{s s1:Shared}{H:Hp}{E:XK}{us:List Value}{vs:List V}
  (S:FnScope N ps scope) (hd:A.handled=none) (e0:Env0 P w K mg base A outer s H) (hl:vs.length=ps.length) (r:zw vs us)
  (x:InCallC s s.heap.objs.size (bindL (envOfC qual scope s.heap.objs.size f cd).kindOf (ps.zip us) λ_=>none) (cellsFrom (s.heap.objs.size+1) scope.names []) (bindC (envOfC qual scope s.heap.objs.size f cd).kindOf (ps.zip us) λ_=>none) s1):
  Inv (xI CX P w K mg base N qual scope f cd A outer s H E) [] (start N vs) H s1:=by
 have hpl:ps.length<=N.length:=by have:=congrArg List.length S.pre;rw[JB] at this;omega
 obtain⟨h1,tk,rfl,hk⟩:=x.done;have noA: ∀b:Addr,b∉(xI CX P w K mg base N qual scope f cd A outer s H E).ex:=λb z=>absurd (show b∈([]:List Addr) from z) (by simp);refine⟨⟨e0.mod,S.kind,rfl,rfl,Je _,λy z c h1 h2=> ?_,λy hy=> ?_,λy c _ h=> ?_,λ_=>hd,Around.frames_deeper e0.frames, .inr ⟨rfl,rfl⟩,λb z=>absurd z (noA b),e0.bs,e0.bsz,λb _ _=>noA b,λb z=>absurd z (noA b),e0.funs,e0.frf⟩,
  rfl,e0.bare,Un.kept hk,⟨_,x.toInCall.ns,λi y v h1 h2 h3=> ?_⟩,λy c h=>⟨_,x.cell y c h⟩,e0.hok.fresh (Je _),λy c h=> ?_,λp hp=>absurd (show p∈([]:List (Addr×Obj)) from hp) (by simp),e0.hok.kept hk,?_⟩
 ·exact name_of_addr x.apart (PySem.mem_of_lookup h1) (PySem.mem_of_lookup h2)
 ·have hy:scope.names.lookup y=some .cell\/scope.names.lookup y=some .free:=hy;rcases hy with hy|hy
  ·exact zhy hy
  ·exact absurd rfl (S.nofree _ (PySem.mem_of_lookup hy))
 ·exact Nat.le_of_lt (x.above y c (PySem.mem_of_lookup h))
 ·have hi:i<vs.length:=by
   unfold start at h2;by_cases hi:i<vs.length
   ·exact hi
   ·rw[List.getElem?_append_right (by simpa using hi)] at h2;rw[List.getElem?_replicate] at h2;split at h2<;>cases h2
  have ha:vs[i]? =some v:=by
   unfold start at h2;rw[List.getElem?_append_left (by simpa using hi),Jh] at h2;cases e:vs[i]? with
   |none=>rw[e] at h2;cases h2
   |some a=>rw[e] at h2;cases h2;rfl
  obtain⟨u,hu,rv⟩:=r.get ha;have hp:ps[i]? =some y:=by
   rw[<-S.pre,List.getElem?_take_of_lt 'o'];exact h1
  have ndP:ps.Nodup:=by rw[<-S.pre];exact S.nd.sublist (List.take_sublist _ _)
  refine⟨u,rv,?_⟩;rcases S.par y (Ji hp) with k|k
  ·exact .inl ⟨k,zf2 ndP hp hu k⟩
  ·obtain⟨c,e⟩:=zhy (n:=s.heap.objs.size+1) k;refine .inr ⟨.inl k,c,e,?_⟩;have q:=x.cell y c e;rw[zf3 ndP hp hu (by show scope.names.lookup y≠_;rw[k];decide)] at q;exact q
 ·exact e0.hok.fresh (Nat.le_of_lt (x.above y c (PySem.mem_of_lookup h)))
 ·unfold start;show _=N.length;rw[Jj,Ja,List.length_replicate];omega
theorem zqU{CX:CXT}{P:Program}{w:World}{K:Fg}{mg:Str->Option Value}{base:Heap}{k:Nat}{f:Addr}{name qual:Str}{params:Arguments}{body:List Stmt}{scope:Scope}{dV kV doc pm cdv ct oc:Value}{an od:Option Addr}
  {osl:Array (Option Value)} {N ps:List Str} {sp:Sp} (lk:K.lookup f=some ⟨oc,od, .func (PySem.W.fnOf name qual params body scope dV kV doc pm an cdv ct),osl⟩) (hcd:PySem.W.codeIn K cdv qual=true) (S:FnScope N ps scope)
  (len: ∀vs H Q E,sp vs H Q E->vs.length=ps.length)
  (hbody: ∀(A:Around) (outer:List Env) (s:Shared) (H:Hp) (vs:List V) (Q:VK) (E:XK),Room k (A.deeper (envOfC qual scope s.heap.objs.size f cdv))->sp vs H Q E->
   ∃t,PSs (xI CX P w K mg base N qual scope f cdv A outer s H E) body t/\t {nx:=λ_ H'=>Q .non H',rt:=Q} (start N vs) H):
  FnOk P w K mg base CX (k+1) f (PySem.W.fnOf name qual params body scope dV kV doc pm an cdv ct) ps sp:=by
 refine⟨len,λA outer s H args us vs Q E hr e0 hb r hsp=> ?_⟩;have hl:=len _ _ _ _ hsp;have KX:K.In s.heap:=e0.mod.kin.keeps λb o e=>(e0.bs b o e).1;have lim:s.heap.NoLimit:=e0.mod.nolimit.keeps λb o e=>(e0.bs b o e).1;have hkind: ∀y∈ps.zip us,scope.names.lookup y.1=some .local\/(scope.names.lookup y.1=some .cell/\((cellsFrom (s.heap.objs.size+1) scope.names []).lookup y.1).isSome=true):=λ⟨n,v⟩ hy=>by
  rcases S.par n (List.of_mem_zip hy).1 with q|q
  ·exact .inl q
  ·exact .inr ⟨q,PySem.W.cellsFrom_some _ _ _ (.inl q)⟩
 refine codeAny_call_function hr.depth (KX _ _ lk) rfl S.co S.gen rfl (PySem.W.codeRec_of KX hcd) (hb _ _ _ _ ?_);refine wpAny_newFunctionEnv_cells S.kind hkind λenv he s1 x=> ?_;subst he;refine⟨lim.keeps x.toInCall.keep,codeAny_func ?_⟩;obtain⟨t,ht,hq⟩:=hbody A outer s H vs Q E (hr.deeper _) hsp;have I:Inv (xI CX P w K mg base N qual scope f cdv A outer s H E) [] (start N vs) H s1:=zkj S hr.hd e0 hl r x;refine wpAny_mono (ht [] s1 (start N vs) H _ I hq) (λfl s' hs=> ?_) λe s' hs=>hs;have fin: ∀{σ':St} {H':Hp} {v:V} {u:Value},Inv (xI CX P w K mg base N qual scope f cdv A outer s H E) [] σ' H' s'->zt v u->Q v H'->CE outer P w H s Q u s':=
  fun {σ' H' v u} J rv q=>⟨v,H',J.os,J.bare,J.base,J.hok,rv,q⟩
 cases fl with
 |ret u=>
  obtain⟨v,σ',H',J,rv,q⟩:=hs;exact fin J rv q
 |next=>
  obtain⟨σ',H',J,q⟩:=hs;exact fin (v:=V.non) (u:=Value.none) J rfl q
 |brk=>
  obtain⟨_,_,_,q⟩:=hs;exact False.elim q
 |cont=>
  obtain⟨_,_,_,q⟩:=hs;exact False.elim q
section
variable {X:Cx} {x:Str} {p pos:Pos} {e:Expr} {es:List Expr} {t:TA} {id T:String} {r:List V->Hp->VK->Prop}
def tCB(r:List V->Hp->VK->Prop)(t:TA):TE:=λσ H Q=>t σ H λvs H1=>r vs H1 Q
theorem zY(hc:yM X (.builtin id) r)(hg:Gl X x)(hm:X.mg x=none)(hv:bootBuiltins x=some (.builtin id))(ha:PA X (e::es) t)(hn:x≠"__name__":=by decide)(hdb:(x==("__debug__":Str))=false:=by decide)
  (he:starEach (e::es) X.env=(false,eval e X.env)::starEach es X.env:=by rfl) (hpl:(backTo pos (starEach es X.env)).any (·.1)=false:=by rfl):PE X (.Call (.Name x p) (e::es) [] pos) (tCB r t):=by
 intro pins s σ H Q I h;refine wpAny_Call_Name_kw (wM I hg hm hv ?_ hn hdb);exact PyProof.Rows.callWith_builtin1 (thn (ha pos pins s σ H _ I h) λus s1 ⟨vs,H1,I1,r1,q1⟩=>hc pins s1 σ H1 vs us Q I1 r1 q1) he hpl
theorem xJ(hc:yM X (.type T) r)(hg:Gl X x)(hm:X.mg x=none)(hv:bootBuiltins x=some (.type T))(ha:PA X (e::es) t)(hn:x≠"__name__":=by decide)(hdb:(x==("__debug__":Str))=false:=by decide)
  (he:starEach (e::es) X.env=(false,eval e X.env)::starEach es X.env:=by rfl) (hpl:(backTo pos (starEach es X.env)).any (·.1)=false:=by rfl):PE X (.Call (.Name x p) (e::es) [] pos) (tCB r t):=by
 intro pins s σ H Q I h;refine wpAny_Call_Name_kw (wM I hg hm hv ?_ hn hdb);exact PyProof.Rows.callWith_type1 (thn (ha pos pins s σ H _ I h) λus s1 ⟨vs,H1,I1,r1,q1⟩=>hc pins s1 σ H1 vs us Q I1 r1 q1) he hpl
end
end L2
namespace HT
open PySem PyProof.Rows
section
open PySem.SeqAt
open PySem.AutoSeq1 (wpAny_loadPart')
open PySem.MeetsSeq PySem.MeetsSeq2 PySem.MeetsSeq3
end
section
variable {prog:Program} {w:World} {A:Around} {E:Value->Shared->Prop} {s:Shared}
def sIx(n d:Nat):Option Int->Nat
 |none=>d
 |some v=>if v<0 then (v+(n:Int)).toNat else min v.toNat n
theorem sIx_none(n d:Nat):sIx n d none=d:=rfl
theorem sIx_nat(n d k:Nat):sIx n d (some (k:Int))=min k n:=by
 show (if (k:Int)<0 then ((k:Int)+(n:Int)).toNat else min (k:Int).toNat n)=min k n;rw[Jf 'o',JF]
end
end HT
namespace L2
open PySem PySem.Spec PyProof.Rows
variable{α:Type}{n:Nat}{pins:List (Addr×Obj)}{σ:St}{H:Hp}{s:Shared}{its:List Value}{x:V}{v:Value}
abbrev TO:=St->Hp->(Option Int->Hp->Prop)->Prop
def PO(X:Cx)(e:Option Expr)(t:TO):Prop:=
 ∀(pins:List (Addr×Obj)) (s:Shared) (σ:St) (H:Hp) (Q:Option Int->Hp->Prop),Inv X pins σ H s->t σ H Q->
  wpAny (model X.prog X.w) X.A (evalPart e X.env) (λu s'=> ∃o H',Inv X pins σ H' s'/\IsPart u o/\Q o H') X.xe s
def zjn:TO:=λ_ H Q=>Q none H
def zou(t:TE):TO:=λσ H Q=>t σ H λx H1=> ∃i,x= .int i/\Q (some i) H1
section
variable {X:Cx} {e:Expr} {te:TE} {lo hi:Option Expr} {tl th:TO} {pos p2:Pos}
theorem kI:PO X none zjn:=by
 intro pins s σ H Q I h;rw[evalPart_none];exact JX ⟨none,H,I, .none,h⟩
theorem znx(h:PE X e te):PO X (some e) (zou te):=by
 intro pins s σ H Q I hw;rw[evalPart_some];refine thn (h pins s σ H _ I hw) λu s1 ⟨x,H1,I1,r1,q1⟩=> ?_;obtain⟨i,rfl,q⟩:=q1;obtain⟨t,rfl⟩:=r1;exact⟨some i,H1,I1, .int i t,q⟩
def SlR(X:Cx)(r:V->Option Int->Option Int->Hp->VK->Prop):Prop:=
 ∀(pins:List (Addr×Obj)) (s:Shared) (σ:St) (H:Hp) (x:V) (v vl vu:Value) (lo hi:Option Int) (sl:Addr) (Q:VK),Inv X pins σ H s->zt x v->s.heap.IsSliceOf sl vl vu .none->IsPart vl lo->IsPart vu hi->r x lo hi H Q->
  ∃T id,typeLookup (.type T) "__getitem__"=pure (some (.builtin id))/\s.TypeIs v T/\wpAny (model X.prog X.w) X.A (getItem v (.ref sl)) (EP X pins σ Q) X.xe s
def tSl(r:V->Option Int->Option Int->Hp->VK->Prop)(te:TE)(tl th:TO):TE:=λσ H Q=>te σ H λx H1=>tl σ H1 λl H2=>th σ H2 λu H3=>r x l u H3 Q
theorem kJ{r:V->Option Int->Option Int->Hp->VK->Prop}(hr:SlR X r)(he:PE X e te)(hl:PO X lo tl)(hu:PO X hi th):PE X (.Subscript e (.Slice lo hi none p2) pos) (tSl r te tl th):=by
 intro pins s σ H Q I h;refine Subscript_ (thn (he pins s σ H _ I h) λv s1 ⟨x,H1,I1,r1,q1⟩=> ?_);refine wpAny_Slice (thn (hl pins s1 σ H1 _ I1 q1) λvl s2 ⟨l,H2,I2,pl,q2⟩=>thn (hu pins s2 σ H2 _ I2 q2) λvu s3 ⟨u,H3,I3,pu,q3⟩=> ?_);rw[evalPart_none];refine JX ?_;have I4:Inv X pins σ H3 {s3 with heap:=s3.heap.push {cls:= .type "slice",data:= .fields #[vl,vu, .none]} }:=I3.kept (t':=s3.toks) λb ob q=>Qa _ q;obtain⟨T,id,hT,ht,hg⟩:=hr pins {s3 with heap:=s3.heap.push {cls:= .type "slice",data:= .fields #[vl,vu, .none]} } σ H3 x v vl vu l u s3.heap.objs.size Q I4 r1 (Heap.IsSliceOf.new ..) pl pu q3;show wpAny (model X.prog X.w) X.A (subscriptTail e (.Slice lo hi none p2) v (.ref s3.heap.objs.size)) (EP X pins σ Q) X.xe {s3 with heap:=s3.heap.push {cls:= .type "slice",data:= .fields #[vl,vu, .none]} };exact tail_any (ops:= [.ref s3.heap.objs.size,v]) ht hT hg (by with_unfolding_all rfl)
def xi(xs:List V)(lo hi:Option Int):List V:=(xs.drop (HT.sIx xs.length 0 lo)).take (HT.sIx xs.length xs.length hi - HT.sIx xs.length 0 lo)
theorem zeG(xs:List V)(lo hi:Option Int):(xi xs lo hi).length<=xs.length:=by
 unfold xi;rw[JB,List.length_drop];omega
end
def ixN(n:Nat)(i:Int):Option Nat:=if 0<=i then (if i<n then some i.toNat else none) else if -(n:Int)<=i then some (i+n).toNat else none
def atI(xs:List α)(i:Int):Option α:=(ixN xs.length i).bind λj=>xs[j]?
theorem zjo{i:Int}{j:Nat}(h:ixN n i=some j):seqIndex? i n=some j/\j<n/\ -(n:Int)<=i/\i<n:=by
 unfold ixN at h;by_cases h0:0<=i
 ·rw[Jg h0] at h;by_cases h1:i<n
  ·rw[Jg h1] at h;have e:i.toNat=j:=JV h;exact⟨by rw[seqIndex_of h0 h1,e],'o','o',h1⟩
  ·rw[Jf h1] at h;cases h
 ·rw[Jf h0] at h;by_cases h1: -(n:Int)<=i
  ·rw[Jg h1] at h;have e:(i+n).toNat=j:=JV h;exact⟨by rw[seqIndex_neg 'o' h1,e],'o',h1,'o'⟩
  ·rw[Jf h1] at h;cases h
theorem kK{xs:List α}{i:Int}{v:α}(h:atI xs i=some v): ∃j,seqIndex? i xs.length=some j/\xs[j]? =some v/\j<xs.length/\ -(xs.length:Int)<=i/\i<xs.length:=by
 unfold atI at h;cases e:ixN xs.length i with
 |none=>rw[e] at h;cases h
 |some j=>
  rw[e] at h;obtain⟨h1,h2,h3,h4⟩:=zjo e;exact⟨j,h1,h,h2,h3,h4⟩
theorem qp{xs:List α}{j:Nat}{v:α}(h:xs[j]? =some v):atI xs (j:Int)=some v:=by
 have hj:j<xs.length:=(Jc.mp h).1;have e:ixN xs.length (j:Int)=some j:=by
  unfold ixN;rw[Jg 'o',Jg 'o'];simp
 unfold atI;rw[e];exact h
def zjp(b:Expr):Prop:= ∀o i,subscripted b false o i=operate [o,i] (getItem o i)
def IxR(X:Cx)(r:R2):Prop:=
 ∀(value slice:Expr) (pins:List (Addr×Obj)) (s:Shared) (σ:St) (H:Hp) (x y:V) (v u:Value) (Q:VK),Inv X pins σ H s->zt x v->zt y u->r x y H Q->
  subscripted slice false v u=operate [v,u] (getItem v u)->wpAny (model X.prog X.w) X.A (subscriptTail value slice v u) (EP X pins σ Q) X.xe s
def MtR(X:Cx)(id:String)(r:V->List V->Hp->VK->Prop):Prop:=
 ∀(pins:List (Addr×Obj)) (s:Shared) (σ:St) (H:Hp) (x:V) (xs:List V) (v:Value) (us:List Value) (Q:VK),Inv X pins σ H s->zt x v->zw xs us->r x xs H Q->
  wpAny (model X.prog X.w) X.A (call (.builtin id) (v::us)) (EP X pins σ Q) X.xe s
section
variable {X:Cx} {a b:Expr} {ta tb:TE} {pos:Pos}
theorem zqV{r:R2}(hr:IxR X r)(ha:PE X a ta)(hb:PE X b tb)(hs:zjp b):PE X (.Subscript a b pos) (tOp r ta tb):=by
 intro pins s σ H Q I h;exact Subscript_ (kg ha hb I h λv u s2 x y H2 I2 rx ry q=>hr a b pins s2 σ H2 x y v u Q I2 rx ry q (hs _ _))
def wu(K:Fg):R2:=λx y H Q=> ∃p xs i v,x= .ref p/\y= .int i/\SqL K H p xs/\atI xs i=some v/\Q v H
def vq(K:Fg):R2:=λx y H Q=> ∃p xs i v,x= .ref p/\y= .int i/\SqT K H p xs/\atI xs i=some v/\Q v H
def zrH:R2:=λx y H Q=> ∃z i c,x= .str z/\y= .int i/\z.length<=sizeLine/\atI z.cps.toList i=some c/\Q (.str ⟨#[c]⟩) H
theorem z5:IxR X (wu X.K):=by
 intro value slice pins s σ H x y v u Q I rx ry h hs;obtain⟨p,xs,i,z,rfl,rfl,hq,he,q⟩:=h;cases rx;obtain⟨t,rfl⟩:=ry;obtain⟨its,r,pl,hz⟩:=I.list hq;obtain⟨j,h1,h2,h3,h4,h5⟩:=kK he;obtain⟨w,ew,rw'⟩:=r.get h2;have hl:=r.length;have hn:=v8;have fin:EP X pins σ Q w s:=⟨z,H,I,rw',q⟩
 by_cases h0:0<=i
 ·have hj:i.toNat=j:=by
   rw[seqIndex_of h0 h5] at h1;exact JV h1
  exact item_listR pl.isList h0 'o' (by rw[hj];simpa using ew) fin hs
 ·have hj:(i+(its.toArray.size:Int)).toNat=j:=by
   rw[seqIndex_neg 'o' h4] at h1;rw[Jn,<-hl];exact JV h1
  exact subscriptTail_builtinR (x:=w) pl.isList.typeIs slot_list_getitem.lookup
   (wpAny_getItem_list_neg (Q:=λr s'=>r=w/\EP X pins σ Q r s') pl.isList 'o' (by rw[Jn]<;>omega) 'o' (by rw[hj];simpa using ew) ⟨rfl,fin⟩) hs
theorem zH:IxR X (vq X.K):=by
 intro value slice pins s σ H x y v u Q I rx ry h hs;obtain⟨p,xs,i,z,rfl,rfl,hq,he,q⟩:=h;cases rx;obtain⟨t,rfl⟩:=ry;obtain⟨its,r,pl,hz⟩:=I.tuple hq;obtain⟨j,h1,h2,h3,h4,h5⟩:=kK he;obtain⟨w,ew,rw'⟩:=r.get h2;have hl:=r.length;have hn:=v8;have fin:EP X pins σ Q w s:=⟨z,H,I,rw',q⟩
 exact subscriptTail_builtinR (x:=w) pl.typeIs slot_tuple_getitem.lookup
  (getItem_tuple (j:=j) (Q:=λr s'=>r=w/\EP X pins σ Q r s') pl 'o' 'o' (by rw[Jn,<-hl];exact h1) (by simpa using ew) ⟨rfl,fin⟩) hs
theorem zo6:IxR X zrH:=by
 intro value slice pins s σ H x y v u Q I rx ry h hs;obtain⟨z,i,c,rfl,rfl,hz,he,q⟩:=h;obtain⟨t,rfl⟩:=rx;obtain⟨t',rfl⟩:=ry;obtain⟨j,h1,h2,h3,h4,h5⟩:=kK he;have hl:z.cps.toList.length=z.length:=by simp [Str.length]
 rw[hl] at h1 h4 h5;have hn:=v8;exact tail_any (typeIs_str s z t) slot_str_getitem.lookup (getItem_str (c:=c) (by
  have e1:decide (i< -(2 ^ 63:Int))=false:=JP 'o';have e2:decide (i≥2 ^ 63)=false:=JP 'o';rw[e1,e2,Bool.or_false]) (by rw[h1];simpa using h2) ⟨.str ⟨#[c]⟩,H,I.tok _,⟨_,rfl⟩,q⟩) hs
theorem ziC(its:List Value)(n j:Nat)(u:Value):Obj.mapSeq (·.setIfInBounds j u) {cls:= .type "list",data:= .seq its.toArray n}={cls:= .type "list",data:= .seq (its.set j u).toArray n}:=by
 simp [Obj.mapSeq]
theorem Inv.lst{pins:List (Addr×Obj)}{σ:St}{H:Hp}{s:Shared}{p:Addr}{xs:List V}(I:Inv X pins σ H s)(h:H p=some (.lst xs)):
  ∃(its:List Value) (n:Nat),zw xs its/\s.heap.get? p=some {cls:= .type "list",data:= .seq its.toArray n}/\xs.length<=sizeLine:=by
 obtain⟨z,its,n,r,e⟩:=I.hok p _ h;exact⟨its,n,r,e,z⟩
theorem Inv.lstUpd{p:Addr}{xs ys:List V}{its its':List Value}{n n':Nat}{f:Obj->Obj}(I:Inv X pins σ H s)(h:H p=some (.lst xs))
  (ho:s.heap.get? p=some {cls:= .type "list",data:= .seq its.toArray n}) (hf:f {cls:= .type "list",data:= .seq its.toArray n}={cls:= .type "list",data:= .seq its'.toArray n'}) (r:zw ys its') (hz:ys.length<=sizeLine) (t:Nat):
  Inv X pins σ (upd H p (.lst ys)) {s with heap:=s.heap.update p f,toks:=t}:=by
 have e:(s.heap.update p f).get? p=some {cls:= .type "list",data:= .seq its'.toArray n'}:=by
  rw[Heap.get?_update_self f ho (by rw[hf]<;>rfl),hf]
 refine I.write (x:=p) (e:=p) (by rw[h];trivial) (.inl rfl) (λb u hb q=>(Qd _ _ (Ne.symm hb)).trans q) ⟨_,e⟩ ?_;exact⟨hz,its',n',r,e⟩
def zqW:V->V->V->Hp->(Hp->Prop)->Prop:=λo i v H Q=> ∃p xs k j,o= .ref p/\i= .int k/\H p=some (.lst xs)/\ixN xs.length k=some j/\Q (upd H p (.lst (xs.set j v)))
theorem set_list:zqL X zqW:=by
 intro pins s σ H o i v ov iv u Q I ro ri rv h;obtain⟨p,xs,k,j,rfl,rfl,hp,hj,q⟩:=h;cases ro;obtain⟨t,rfl⟩:=ri;obtain⟨its,n,r,ho,hz⟩:=I.lst hp;obtain⟨h1,h2,h3,h4⟩:=zjo hj;have hl:=r.length;have hn:=v8;have I':Inv X pins σ (upd H p (.lst (xs.set j v))) {s with heap:=s.heap.update p (Obj.mapSeq (·.setIfInBounds j u))}:=
  I.lstUpd hp ho (ziC its n j u) (r.set rv j) (by rw[List.length_set];exact hz) s.toks
 by_cases h0:0<=k
 ·have hk:k.toNat=j:=by
   rw[seqIndex_of h0 h4] at h1;exact JV h1
  exact PySem.W.ki_setAt ho h0 'o' (by rw[Jn,<-hl];exact h4) (by rw[hk];exact⟨_,I',q⟩)
 ·have hk:(k+(its.toArray.size:Int)).toNat=j:=by
   rw[seqIndex_neg 'o' h3] at h1;rw[Jn,<-hl];exact JV h1
  exact PySem.W.ki_setBack ho 'o' (by rw[Jn,<-hl];exact h3) 'o' (by rw[hk];exact⟨_,I',q⟩)
theorem zgO(lo hi:Option Int)(n:Nat):(sliceBounds lo hi none n).1=((HT.sIx n 0 lo:Nat):Int)/\(sliceBounds lo hi none n).2.1=((HT.sIx n n hi:Nat):Int)/\(sliceBounds lo hi none n).2.2=1:=by
 refine⟨?_,?_,rfl⟩
 ·cases lo with
  |none=>simp [sliceBounds,HT.sIx]
  |some i=>
   simp only[sliceBounds,HT.sIx,Option.getD_none,show (1:Int)>0 by decide,if_true];by_cases h:i<0
   ·simp only[h,if_true]<;>omega
   ·simp only[h,if_false]<;>omega
 ·cases hi with
  |none=>simp [sliceBounds,HT.sIx]
  |some i=>
   simp only[sliceBounds,HT.sIx,Option.getD_none,show (1:Int)>0 by decide,if_true];by_cases h:i<0
   ·simp only[h,if_true]<;>omega
   ·simp only[h,if_false]<;>omega
theorem zfU(its:List Value)(lo hi:Option Int):slicePick its.toArray lo hi none=((its.drop (HT.sIx its.length 0 lo)).take (HT.sIx its.length its.length hi - HT.sIx its.length 0 lo)).toArray:=by
 obtain⟨h1,h2,h3⟩:=zgO lo hi its.toArray.size;unfold slicePick;rw[h1,h2,h3];simp only[sliceRange_one,pick_run,Jn]<;>rfl
def zrI(K:Fg):V->Option Int->Option Int->Hp->VK->Prop:=λx lo hi H Q=> ∃a xs,x= .ref a/\SqL K H a xs/\ ∀p,H p=none->Q (.ref p) (upd H p (.lst (xi xs lo hi)))
theorem zny:SlR X (zrI X.K):=by
 intro pins s σ H x v vl vu lo hi sl Q I rx hs pl pu h;obtain⟨a,xs,rfl,hx,q⟩:=h;cases rx;obtain⟨its,r,ht,hz⟩:=I.list hx;have hlen:=r.length;refine⟨"list",_,slot_list_getitem.lookup,ht.isList.typeIs,?_⟩;refine wpAny_getItem_list_slice ht.isList hs pl pu .none (by simp) ?_ (by rw[Jn]<;>omega);rw[zfU,<-hlen];refine⟨.ref s.heap.objs.size,_,I.laid (t':=s.toks) (o:= .lst (xi xs lo hi)) (λb ob q=>Qa _ q) (Je _) ?_,rfl,q _ (I.hok.fresh (Je _))⟩;exact⟨JE (zeG xs lo hi) hz,_,0,(r.drop (HT.sIx xs.length 0 lo)).take (HT.sIx xs.length xs.length hi - HT.sIx xs.length 0 lo),Qc _ rfl⟩
def xu:V->Bool
 | .non=>true
 | .bl _=>true
 | .int _=>true
 | .str _=>true
 |_=>false
def eqV:V->V->Bool
 | .non, .non=>true
 | .bl a, .bl b=>a==b
 | .bl a, .int b=>(if a then 1 else 0)==b
 | .int a, .bl b=>a==(if b then 1 else 0)
 | .int a, .int b=>a==b
 | .str a, .str b=>a==b
 |_,_=>false
theorem kL{A:Around}{y:V}{u:Value}(ry:zt y u)(rx:zt x v)(fy:xu y=true)(fx:xu x=true):SeqAt.EqAt A s u v (eqV y x):=by
 cases y with
 |non=>
  cases ry;cases x with
  |non=>cases rx;exact SeqAt.EqAt.same _
  |bl b=>cases rx;exact SeqAt.EqAt.none_bool b
  |int b=>obtain⟨t,rfl⟩:=rx;exact SeqAt.EqAt.none_int b t
  |str b=>obtain⟨t,rfl⟩:=rx;exact SeqAt.EqAt.none_str b t
  |_=>exact absurd (show false=true from fx) Ju
 |bl a=>
  cases ry;cases x with
  |non=>cases rx;exact SeqAt.EqAt.bool_none a
  |bl b=>cases rx;exact SeqAt.EqAt.bool_bool a b
  |int b=>obtain⟨t,rfl⟩:=rx;exact SeqAt.EqAt.bool_int a b t
  |str b=>obtain⟨t,rfl⟩:=rx;exact SeqAt.EqAt.bool_str a b t
  |_=>exact absurd (show false=true from fx) Ju
 |int a=>
  obtain⟨t',rfl⟩:=ry;cases x with
  |non=>cases rx;exact SeqAt.EqAt.int_none a t'
  |bl b=>cases rx;exact SeqAt.EqAt.int_bool a t' b
  |int b=>obtain⟨t,rfl⟩:=rx;exact SeqAt.EqAt.int_int a t' b t
  |str b=>obtain⟨t,rfl⟩:=rx;exact SeqAt.EqAt.int_str a t' b t
  |_=>exact absurd (show false=true from fx) Ju
 |str a=>
  obtain⟨t',rfl⟩:=ry;cases x with
  |non=>cases rx;exact SeqAt.EqAt.str_none a t'
  |bl b=>cases rx;exact SeqAt.EqAt.str_bool a t' b
  |int b=>obtain⟨t,rfl⟩:=rx;exact SeqAt.EqAt.str_int a t' b t
  |str b=>obtain⟨t,rfl⟩:=rx;exact SeqAt.EqAt.str_str a t' b t
  |_=>exact absurd (show false=true from fx) Ju
 |_=>exact absurd (show false=true from fy) Ju
def eqU(x:V)(u:Value):Bool:=match u with
 | .none=>eqV .non x
 | .bool b=>eqV (.bl b) x
 | .int i _=>eqV (.int i) x
 | .str z _=>eqV (.str z) x
 |_=>false
theorem zlj{y:V}{u:Value}(r:zt y u)(f:xu y=true):eqU x u=eqV y x:=by
 cases y with
 |non=>cases r;rfl
 |bl b=>cases r;rfl
 |int i=>obtain⟨t,rfl⟩:=r;rfl
 |str z=>obtain⟨t,rfl⟩:=r;rfl
 |_=>exact absurd (show false=true from f) Ju
theorem kM{x:V}: ∀{xs:List V} {us:List Value},zw xs us->xs.all xu=true->us.any (eqU x)=xs.any λy=>eqV y x
 |_,_, .nil,_=>rfl
 |y::xs,u::us, .cons r t,f=>by
  rw[List.all_cons,Bool.and_eq_true] at f;rw[List.any_cons,List.any_cons,zlj r f.1,kM t f.2]
theorem kN{A:Around}{s:Shared}{x:V}{v:Value}(rx:zt x v)(fx:xu x=true): ∀{xs:List V} {us:List Value},zw xs us->xs.all xu=true-> ∀u∈us,SeqAt.EqAt A s u v (eqU x u)
 |_,_, .nil,_=>λu hu=>by cases hu
 |y::xs,u::us, .cons r t,f=>λu' hu=>by
  rw[List.all_cons,Bool.and_eq_true] at f;rcases JD.mp hu with rfl|hu
  ·rw[zlj r f.1];exact kL r rx f.1 fx
  ·exact kN rx fx t f.2 u' hu
def inV(x:V)(xs:List V):Bool:=xs.any λy=>eqV y x
def rIn(K:Fg)(neg:Bool):R2:=λx y H Q=> ∃p xs,y= .ref p/\(SqL K H p xs\/SqT K H p xs)/\xu x=true/\xs.all xu=true/\Q (.bl (if neg then !inV x xs else inV x xs)) H
theorem kO:OpR X (compareOp .In) (rIn X.K false):=by
 intro pins s σ H x y v u Q I rx ry h;obtain⟨p,xs,rfl,hq,fx,fs,q⟩:=h;cases ry;rcases hq with hq|hq
 ·obtain⟨its,r,pl,hz⟩:=I.list hq;refine SeqAt.in_listAt (eqU x) pl.isList (λw hw=>kN rx fx r fs w (by simpa using hw)) ⟨.bl _,H,I,rfl,?_⟩;rw[show its.toArray.any (eqU x)=its.any (eqU x) by simp,kM r fs];exact q
 ·obtain⟨its,r,pl,hz⟩:=I.tuple hq;refine SeqAt.in_tupleAt (eqU x) pl (λw hw=>kN rx fx r fs w (by simpa using hw)) ⟨.bl _,H,I,rfl,?_⟩;rw[show its.toArray.any (eqU x)=its.any (eqU x) by simp,kM r fs];exact q
theorem xj:yM X (.builtin "len") (λxs H Q=> ∃p ys,xs= [.ref p]/\(SqL X.K H p ys\/SqT X.K H p ys)/\Q (.int ys.length) H):=by
 intro pins s σ H xs us Q I r h;obtain⟨p,ys,rfl,hq,q⟩:=h;obtain⟨u,rfl,rx⟩:=qS r;cases rx;have hn:=v8;rcases hq with hq|hq
 ·obtain⟨its,r',pl,hz⟩:=I.list hq;have hlen:=r'.length;exact Calls.call_len_list pl.isList (by simp only[Jn]<;>omega) ⟨.int ys.length,H,I.tok _,⟨s.toks+1,by rw[Jn,hlen]⟩,q⟩
 ·obtain⟨its,r',pl,hz⟩:=I.tuple hq;have hlen:=r'.length;exact len_tuple pl (by simp only[Jn]<;>omega) ⟨.int ys.length,H,I.tok _,⟨s.toks+1,by rw[Jn,hlen]⟩,q⟩
theorem zgQ:yM X (.type "list") (λxs H Q=> ∃p ys,xs= [.ref p]/\(SqL X.K H p ys\/SqT X.K H p ys)/\ ∀l,H l=none->Q (.ref l) (upd H l (.lst ys))):=by
 intro pins s σ H xs us Q I r h;obtain⟨p,ys,rfl,hq,q⟩:=h;obtain⟨u,rfl,rx⟩:=qS r;cases rx;have fin: ∀(its:List Value),zw ys its->ys.length<=sizeLine-> ∀(h':Heap) (c':Nat),(∀b o',s.heap.get? b=some o'->h'.get? b=some o')->
   h'.get? s.heap.objs.size=some {cls:= .type "list",dict:=none,data:= .seq its.toArray c',slots:= #[]}->EP X pins σ Q (.ref s.heap.objs.size) {s with heap:=h'}:=λits r' hz h' c' kp e=>
  ⟨.ref s.heap.objs.size,_,I.laid (t':=s.toks) kp (Je _) (show yy X.prog X.w _ h' _ (.lst ys) from⟨hz,its,c',r',e⟩),rfl,q _ (I.hok.fresh (Je _))⟩
 rcases hq with hq|hq
 ·obtain⟨its,r',pl,hz⟩:=I.list hq;have hlen:=r'.length;obtain⟨o,ho,hc,n,hd⟩:=pl.isList;exact call_list_seq p (.inl rfl) ho hc hd (λh' c' kp e=>fin its r' hz h' c' kp e) (by simp only[Jn]<;>omega)
 ·obtain⟨its,r',pl,hz⟩:=I.tuple hq;have hlen:=r'.length;obtain⟨o,ho,hc,n,hd⟩:=pl;exact call_list_seq p (.inr rfl) ho hc hd (λh' c' kp e=>fin its r' hz h' c' kp e) (by simp only[Jn]<;>omega)
def tyV(K:Fg)(T:String)(x:V)(H:Hp):Prop:=match x with
 | .str _=>T="str"
 | .int _=>T="int"
 | .ref p=>(T="list"/\ ∃xs,SqL K H p xs)\/(T="tuple"/\ ∃o,K.lookup p=some o/\o.cls= .type "tuple"/\o.dict=none)\/
   (T="dict"/\((∃kvs,H p=some (.dK kvs))\/ ∃kvs,H p=some (.dT kvs)))\/(T="set"/\ ∃S n,H p=some (.set S n))
 |_=>False
theorem zo7{T:String}(I:Inv X pins σ H s)(r:zt x v)(ty:tyV X.K T x H):
  s.TypeIs v T/\ ∀a,v= .ref a-> ∃ob,s.heap.get? a=some ob/\ob.dict=none:=by
 cases x with
 |str z=>
  obtain⟨t,rfl⟩:=r;cases (show T="str" from ty);exact⟨typeIs_str s z t,λ_ e=>nomatch e⟩
 |int i=>
  obtain⟨t,rfl⟩:=r;cases (show T="int" from ty);exact⟨typeIs_int s i t,λ_ e=>nomatch e⟩
 |ref p=>
  cases r;rcases ty with⟨rfl,xs,hq⟩|⟨rfl,o,hk,hc,hd⟩|⟨rfl,hk⟩|⟨rfl,S,n,hk⟩
  ·obtain⟨its,_,pl,_⟩:=I.list hq;refine⟨pl.isList.typeIs,λa e=> ?_⟩;cases e;obtain⟨o,n,e,c,hd,_⟩:=pl;exact⟨o,e,hd⟩
  ·refine⟨⟨o,I.kIn p o hk,hc⟩,λa e=> ?_⟩;cases e;exact⟨o,I.kIn _ o hk,hd⟩
  ·have z: ∃o,s.heap.get? p=some o/\o.ExactDict:=by
    rcases hk with⟨kvs,hk⟩|⟨kvs,hk⟩
    ·obtain⟨_,_,_,_,o,_,_,e,ex,_⟩:=I.hok p _ hk;exact⟨o,e,ex⟩
    ·obtain⟨_,_,_,_,o,_,_,e,ex,_⟩:=I.hok p _ hk;exact⟨o,e,ex⟩
   obtain⟨o,e,ex⟩:=z;refine⟨⟨o,e,ex.1⟩,λa e2=> ?_⟩;cases e2;exact⟨o,e,ex.2.1⟩
  ·obtain⟨o,_,_,_,e,ex,_⟩:=I.hok p _ hk;refine⟨⟨o,e,ex.1⟩,λa e2=> ?_⟩;cases e2;exact⟨o,e,ex.2.1⟩
 |_=>exact False.elim ty
def tBM(K:Fg)(T:String)(r:V->List V->Hp->VK->Prop)(to:TE)(t:TA):TE:=λσ H Q=>to σ H λx H1=>tyV K T x H1/\t σ H1 λxs H2=>r x xs H2 Q
variable {o e:Expr} {es:List Expr} {to:TE} {t:TA} {name:Str} {apos cpos:Pos} {T id:String} {r:V->List V->Hp->VK->Prop}
theorem qw(pa:PlainAttrs T)(slot:Slot T name id)(hty:typeOf (.builtin id)=pure (.type "method_descriptor"))(hm:MtR X id r)(ho:PE X o to)(ha:PA X (e::es) t)
  (hbase:attributeBase o name X.env (eval o X.env)=eval o X.env:=by rfl)
  (hfew:((backTo cpos (starEach (e::es) X.env)).all (λx=> !x.1) && (backToKw cpos (keywordEach [] X.env)).all (λx=>x.1.isSome)
   && decide ((e::es).length+([]:List Keyword).length+(if ([]:List Keyword).isEmpty then 0 else 1)<30))=true:=by rfl)
  (hline:(apos.endLine==cpos.line)=true:=by rfl) (hs:starEach (e::es) X.env=(false,eval e X.env)::starEach es X.env:=by rfl) (hplain:(backTo cpos (starEach es X.env)).any (·.1)=false:=by rfl):
  PE X (.Call (.Attribute o name apos) (e::es) [] cpos) (tBM X.K T r to t):=by
 intro pins s σ H Q I h;refine wpAny_Call_method_late hbase hfew hline rfl (thn (ho pins s σ H _ I h) λv s1 ⟨x,H1,I1,r1,ty,q1⟩=> ?_);obtain⟨h1,h2⟩:=zo7 I1 r1 ty;refine⟨T,id,pa,slot,hty,h1,h2,?_⟩;have hA:=ha cpos pins s1 σ H1 _ I1 q1;rw[hs] at hA ⊢;refine Calls.callWith_builtin (by show (false||(backTo cpos (starEach es X.env)).any (·.1))=false;rw[hplain]<;>rfl) (Calls.evalArgs_plain ?_);exact thn hA λus s2 ⟨vs,H2,I2,r2,q2⟩=>hm pins s2 σ H2 x vs v us Q I2 r1 r2 q2
end
def MtM(X:Cx)(id:String)(r:V->List V->Hp->VK->Prop):Prop:=
 ∀(pins:List (Addr×Obj)) (s:Shared) (σ:St) (H:Hp) (x:V) (xs:List V) (v:Value) (us:List Value) (Q:VK),Inv X pins σ H s->zt x v->zw xs us->r x xs H Q->
  wpAny (model X.prog X.w) X.A (call (.builtin id) (v::us)) (EP X pins σ Q) X.xe s
theorem zw.one: ∀{x:V} {us:List Value},zw [x] us-> ∃u,us= [u]/\zt x u
 |_,_, .cons r .nil=>⟨_,rfl,r⟩
theorem zw.eraseIdx: ∀{xs:List V} {us:List Value} (i:Nat),zw xs us->zw (xs.eraseIdx i) (us.eraseIdx i)
 |_,_,_, .nil=> .nil
 |_,_,0, .cons _ t=>t
 |_,_,i+1, .cons r t=> .cons r (zw.eraseIdx i t)
theorem zf4{α:Type}: ∀(l:List α) (i:Nat),(l.eraseIdx i).length<=l.length
 | [],_=>Je _
 |_::_,0=>Nat.le_succ _
 |_::r,i+1=>Nat.succ_le_succ (zf4 r i)
section
variable {X:Cx} {pins:List (Addr×Obj)} {σ:St} {H:Hp} {s:Shared} {l b:Addr} {xs ys zs:List V}
theorem Inv.lset{its its':List Value}{n:Nat}{f:Array Value->Array Value}{t':Nat}(I:Inv X pins σ H s)(hH:H l=some (.lst xs))
  (e:s.heap.get? l=some {cls:= .type "list",data:= .seq its.toArray n}) (hf:f its.toArray=its'.toArray) (hv:zw ys its') (hz:ys.length<=sizeLine):
  Inv X pins σ (upd H l (.lst ys)) {s with heap:=s.heap.update l (Obj.mapSeq f),toks:=t'}:=by
 have q:=PySem.IsL.update e f;rw[hf] at q;refine I.write (x:=l) (e:=l) (by rw[hH];exact trivial) (.inl rfl) (λb' u hb hu=>(Qd s.heap (Obj.mapSeq f) (Ne.symm hb)).trans hu) ⟨_,q⟩ ?_;exact⟨hz,its',_,hv,q⟩
theorem Inv.lnew{t':Nat}(I:Inv X pins σ H s)(hv:zw ys its)(hz:ys.length<=sizeLine):
  Inv X pins σ (upd H s.heap.objs.size (.lst ys)) {s with heap:=s.heap.push {cls:= .type "list",data:= .seq its.toArray},toks:=t'}:=
 I.laid (λ_ _ q=>Qa _ q) (Je _) ⟨hz,its,0,hv,Qc _ rfl⟩
theorem Inv.fresh(I:Inv X pins σ H s):H s.heap.objs.size=none:=I.hok.fresh (Je _)
theorem Inv.lstM(I:Inv X pins σ H s)(hH:H l=some (.lst xs)):xs.length<=sizeLine/\ ∃(its:List Value) (n:Nat),zw xs its/\xs.length=its.length/\s.heap.get? l=some {cls:= .type "list",data:= .seq its.toArray n}:=by
 obtain⟨z,its,n,r,e⟩:=I.hok l _ hH;exact⟨z,its,n,r,r.length,e⟩
theorem zlk(h:n<=sizeLine):Builtin.List.listTooLong n=false:=by
 unfold Builtin.List.listTooLong;exact JP 'o'
end
section
variable {X:Cx}
def znz:V->List V->Hp->VK->Prop:=λx vs H Q=> ∃l xs y,x= .ref l/\vs= [y]/\H l=some (.lst xs)/\xs.length<sizeLine/\Q .non (upd H l (.lst (xs++ [y])))
theorem qT:MtM X "list.append" znz:=by
 intro pins s σ H x vs v us Q I rx rv h;obtain⟨l,xs,y,rfl,rfl,hH,hz,q⟩:=h;cases rx;obtain⟨u,rfl,ru⟩:=rv.one;obtain⟨z,its,n,r,hl,e⟩:=I.lstM hH;refine call_meets F.slot_list_append ⟨_,e,rfl⟩ F.entry_list_append (F.args_list_append_2 _ _) (PySem.list_append l its.toArray n u (by rw[Jn];omega)) ⟨e,?_⟩;refine⟨.non,_,I.lset (its':=its++ [u]) hH e (by simp) (r.append (.cons ru .nil)) ?_,rfl,q⟩;rw[Jj,List.length_singleton];omega
def zjq:V->List V->Hp->VK->Prop:=λx vs H Q=> ∃l b xs zs,x= .ref l/\vs= [.ref b]/\H l=some (.lst xs)/\H b=some (.lst zs)/\xs.length+zs.length<=sizeLine/\Q .non (upd H l (.lst (xs++zs)))
theorem kP:MtM X "list.extend" zjq:=by
 intro pins s σ H x vs v us Q I rx rv h;obtain⟨l,b,xs,zs,rfl,rfl,hH,hB,hz,q⟩:=h;cases rx;obtain⟨u,rfl,ru⟩:=rv.one;cases ru;obtain⟨z,its,n,r,hl,e⟩:=I.lstM hH;obtain⟨z2,its2,n2,r2,hl2,e2⟩:=I.lstM hB;have hsz:its.toArray.size+its2.toArray.size<=sizeLine:=by rw[Jn,Jn];omega
 have hlong: ¬(!its.toArray.isEmpty && Builtin.List.listTooLong (its.toArray.size+its2.toArray.size))=true:=by
  rw[zlk hsz,Bool.and_false];exact Ju
 refine call_meets F.slot_list_extend ⟨_,e,rfl⟩ F.entry_list_extend (F.args_list_extend_2 _ _)
  (AutoSeq1.list_extend_list_list_0 l its.toArray n b its2.toArray n2 hlong (by rw[Jn];omega) 'o') ⟨e,e2,?_⟩
 refine⟨.non,_,I.lset (its':=its++its2) hH e (by simp) (r.append r2) ?_,rfl,q⟩;rw[Jj];omega
def zo8:V->List V->Hp->VK->Prop:=λx vs H Q=> ∃l xs i k y,x= .ref l/\vs= [.int i]/\H l=some (.lst xs)/\ -(2 ^ 63)<=i/\i<2 ^ 63/\seqIndex? i xs.length=some k/\xs[k]? =some y/\Q y (upd H l (.lst (xs.eraseIdx k)))
theorem zll:MtM X "list.pop" zo8:=by
 intro pins s σ H x vs v us Q I rx rv h;obtain⟨l,xs,i,k,y,rfl,rfl,hH,h1,h2,hk,hy,q⟩:=h;cases rx;obtain⟨u,rfl,ru⟩:=rv.one;obtain⟨t,rfl⟩:=ru;obtain⟨z,its,n,r,hl,e⟩:=I.lstM hH;obtain⟨w,hw,rw'⟩:=r.get hy;refine call_meets F.slot_list_pop ⟨_,e,rfl⟩ F.entry_list_pop (F.args_list_pop_2 _ _)
  (MeetsSeq.list_pop_at l its.toArray n i t k w (fitsIndex_both h1 h2) (by rw[Jn,<-hl];exact hk) (by rw[<-JG];exact hw) (by rw[Jn];omega)) ⟨e,?_⟩
 refine⟨y,_,I.lset (its':=its.eraseIdx k) hH e ?_ (r.eraseIdx k) ?_,rw',q⟩
 ·show its.toArray.eraseIdxIfInBounds k=(its.eraseIdx k).toArray;rw[List.eraseIdxIfInBounds_toArray]
 ·have:=zf4 xs k;omega
def zrJ:R2:=λx y H Q=> ∃l b xs zs,x= .ref l/\y= .ref b/\H l=some (.lst xs)/\H b=some (.lst zs)/\xs.length+zs.length<=sizeLine/\ ∀p,H p=none->Q (.ref p) (upd H p (.lst (xs++zs)))
theorem zo9:OpR X (binaryOp .Add) zrJ:=by
 intro pins s σ H x y v u Q I rx ry h;obtain⟨l,b,xs,zs,rfl,rfl,hH,hB,hz,q⟩:=h;cases rx;cases ry;obtain⟨z,its,n,r,hl,e⟩:=I.lstM hH;obtain⟨z2,its2,n2,r2,hl2,e2⟩:=I.lstM hB;refine PySem.P.add_list e e2 ?_ (by rw[Jn,Jn];omega);have ea:its.toArray++its2.toArray=(its++its2).toArray:=by simp
 rw[ea];exact⟨.ref _,_,I.lnew (t':=s.toks) (r.append r2) (by rw[Jj];omega),rfl,q _ I.fresh⟩
end
section
variable {prog:Program} {w:World} {A:Around} {E:Value->Shared->Prop} {s:Shared}
end
section
variable {X:Cx}
end
end L2
namespace Att
open PySem PySem.W PySem.Calls PyProof.Rows
theorem zeN{P:Params}{h:Heap}: ∀(ns:List Int) (vs:List Value),WellAll P h vs (ns.map WData.int)->IntsAre vs ns:=by
 intro ns;induction ns with
 |nil=>
  intro vs w;rw[JR] at w;cases w;exact .nil
 |cons n ns ih=>
  intro vs w;rw[JA] at w;cases w with
  |cons a b=>
   cases a;exact .cons _ _ (ih _ b)
theorem zkl{l:OpenLaw}{n:Nat}(hn:l.most=some n){P:Params}{h:Heap}{args:List WData}{vals:List Value}
  (hpre:l.row.toRowW.claim.pre args=true) (hwl:WellAll P h vals args):
  ∃a vs ns,vals= [Value.ref a]/\args= [WData.list (ns.map WData.int)]/\h.get? a=some {cls:= .type "list",data:= .seq vs.toArray}/\IntsAre vs ns/\ns.length<=n:=by
 have hsh:WShape.hasAll [] args [.list .int]=true:=(pre_splitW hpre).1;have hc:l.pre.holds [] {args:=args}=true:=(pre_splitW hpre).2;obtain⟨d,r,rfl,h1,h2⟩:=hasAllW_cons hsh;obtain rfl:=hasAllW_nil h2;obtain⟨xs,rfl,h3⟩:=hasW_list h1;obtain⟨ns,rfl⟩:=items_int h3;have hlen:ns.length<=n:=by
  unfold OpenLaw.pre at hc;have h4:(WTm.not (.lt (.lit (.int (n:Int))) (.len (.arg 0)))).holds [] {args:= [.list (ns.map .int)]}=true:=by
   have h4:=(holds_andW hc).1;rw[hn] at h4;exact h4
  have h5:=condW_of h4 (w_not (w_lt w_lit (w_len_list (w_arg rfl))));rw[Ja] at h5;refine Nat.le_of_not_lt λq=> ?_;have q':(n:Int)<((ns.length:Nat):Int):=by omega
  first
   |(rw[JO q'] at h5;exact absurd h5 'd')
   |(simp at h5;omega)
 cases hwl with
 |cons w1 w2=>
  cases w2;cases w1 with
  |list ho hall=>exact⟨_,_,ns,rfl,rfl,ho,zeN ns _ hall,hlen⟩
theorem zkm(l:OpenLaw)(args:List WData):l.row.toRowW.claim.post args (.bool true) args=true:=
 postW_of (r:=l.row.toRowW) (X:=(true==true))
  (show WShape.has [] (.bool true) .bool=true by first|rfl|decide|simp [WShape.has,WShape.arms,WShape.armsAll])
  (show (WTm.eq .res (.lit (.bool true))).value [] {args:=args,res:=some (.bool true),after:=args}=some (.bool (true==true)) from w_eq_bool (w_res rfl) w_lit) rfl
theorem attach_call{l:OpenLaw}{n:Nat}{q:Program}{loose:List Str}{XP:(Str->Option Value)->Heap->Prop}{YP:World->Heap->Prop}{d:DefRec}
  (hn:l.most=some n) (hdf:d.params.defaults= [])
  (call: ∀(w:World) (s₀ s₁:Shared) (mg mb:Str->Option Value) (fa:Addr) (o:Obj) (pm cd doc:Value) (a:Addr) (vs:List Value) (ns:List Int),
   Ground q loose [] XP w s₀ mg mb s₁.heap->YP w s₁.heap->
   s₁.heap.get? fa=some o->o.data= .func (docDef d.name d.params d.body d.scope pm cd doc)->s₁.heap.CodeRec cd d.name->mg d.name=some (.ref fa)->
   s₁.heap.get? a=some {cls:= .type "list",data:= .seq vs.toArray}->IntsAre vs ns->ns.length<=n->s₁.gens= #[]->
   codeAny (model l.prog w) callerA (.call (.ref fa) ⟨[.ref a], []⟩) (λr s'=>r= .ok (.ret (.bool true))/\OldK s₁.heap s'.heap/\s'.os=s₁.os/\AllBare s'.gens) s₁):
  WalkO q loose XP YP l.row.toRowW d [] (λf vs=>PySem.call f vs):=by
 intro w s₀ s₁ mg mb G Y fa o pm cd doc dV kV ho hd hcd hD hmg hg args vals as hpre hlay hrd hwl hlo;obtain rfl:dV= .none:=Dflts.none hD hdf;obtain rfl:kV= .none:=Dflts.noKw hD;obtain⟨a,vs,ns,rfl,rfl,hobj,hints,hlen⟩:=zkl hn hpre hwl;refine enter_call (codeAny_mono (call w s₀ s₁ mg mb fa o pm cd doc a vs ns G Y ho (fd_plain hd) hcd hmg hobj hints hlen hg) λr s' hq=> ?_);obtain⟨rfl,h2,h3,h4⟩:=hq;exact⟨.inl ⟨.bool true, .bool true, [],rfl,λ_=>rfl, .bool true,zkm l _,λ_=>⟨List.Pairwise.nil,λ_ hm=>(nomatch hm)⟩⟩,h2,h3,h4⟩
section
variable {prog:Program} {w:World} {A:Around} {E:Value->Shared->Prop} {s:Shared} {K:Frag}
end
end Att
namespace L2
open PySem PySem.Spec PyProof.Rows
variable{x:Str}
theorem zf5: ∀{vs:List Value} {ns:List Int},IntsAre vs ns->zw (ns.map V.int) vs
 |_,_, .nil=> .nil
 |_,_, .cons n t h=> .cons ⟨t,rfl⟩ (zf5 h)
def kQ(H:Hp):Prop:= ∀b,H b=none\/ ∃o xs,H b=some (.frz o (.lst xs))
theorem zlm{P:Program}{w:World}{K:Fg}{mg mb:Str->Option Value}{CX:CXT}{k:Nat}{fa a:Addr}{fd:FuncData}{x:Str}{sp:Sp}{s₁:Shared}{vs:List Value}{ns:List Int}
  (KX:K.In s₁.heap) (hns:s₁.heap.Ns mainGlobals mg) (hb:s₁.heap.Ns builtinsNs mb) (hbb: ∀x:Str,x≠"__name__"->mb x=bootBuiltins x) (hlim:s₁.heap.NoLimit) (hg:s₁.gens= #[])
  (ha:s₁.heap.get? a=some {cls:= .type "list",data:= .seq vs.toArray}) (hi:IntsAre vs ns) (hl:ns.length<=sizeLine) (hr:Room k callerA)
  (F: ∀base:Heap,K.In base->base.Ns mainGlobals mg->FnOk P w K mg base CX k fa fd [x] sp) (hbind: ∀(s:Shared) (u:Value),BindsTo s fd ⟨[u], []⟩ [(x,u)])
  (hsp: ∀H:Hp,kQ H->SqL K H a (ns.map V.int)->sp [.ref a] H (λv _=>v= .bl true) λ_ _ _=>False)
  (hCX: ∀H e s',CX [] H s₁ (λ_ _ _=>False) e s'->False):
  codeAny (model P w) callerA (.call (.ref fa) ⟨[.ref a], []⟩) (λr s'=>r= .ok (.ret (.bool true))/\OldK s₁.heap s'.heap/\s'.os=s₁.os/\AllBare s'.gens) s₁:=by
 have rv:=zf5 hi;have lenV:=hi.length;have core: ∀H:Hp,kQ H->SqL K H a (ns.map V.int)->HOk P w H s₁.heap->(∀b,H b≠none->b=a)->(H a≠none->K.lookup a=none)->
   codeAny (model P w) callerA (.call (.ref fa) ⟨[.ref a], []⟩) (λr s'=>r= .ok (.ret (.bool true))/\OldK s₁.heap s'.heap/\s'.os=s₁.os/\AllBare s'.gens) s₁:=by
  intro H hO hS hok hA hK;have base_of: ∀{b:Addr} {o:Obj},s₁.heap.get? b=some o->H b=none->(xP s₁.heap H).get? b=some o:=λe n=>zkY e n;have noA: ∀{b:Addr} {o:Obj} {es:Array DictEntry} {ep:Nat},s₁.heap.get? b=some o->o.data= .dict es ep->H b=none:=fun {b o es ep} e d=>by
   cases q:H b with
   |none=>rfl
   |some u=>
    have e':b=a:=hA b (by rw[q];simp);subst e';rw[ha] at e;cases e;have d':Data.seq vs.toArray _=Data.dict es ep:=d;cases d'
  have nsK: ∀{b:Addr} {m:Str->Option Value},s₁.heap.Ns b m->(xP s₁.heap H).Ns b m:=fun {b m} ⟨o,es,ep,e,d,r⟩=>⟨o,es,ep,base_of e (noA e d),d,r⟩
  have hKb:K.In (xP s₁.heap H):=λb o e=>base_of (KX b o e) (by
   cases q:H b with
   |none=>rfl
   |some u=>
    have e':b=a:=hA b (by rw[q];simp);subst e';rw[hK (by rw[q];simp)] at e;cases e)
  have hM:Mod K mg (xP s₁.heap H):=⟨hKb,nsK hns,⟨mb,nsK hb,hbb⟩,let ⟨mc,h1,h2⟩:=hlim;⟨mc,nsK h1,h2⟩⟩
  have e0:Env0 P w K mg (xP s₁.heap H) callerA [] s₁ H:=⟨rfl,hM,λb o e=>znn e,Nat.le_of_eq (zkc _ _),trivial,λb hb=>absurd (show b∈([]:List Addr) from hb) (by simp),hok, .of_eq hg⟩
  refine codeAny_mono ((F _ hKb (nsK hns)).run callerA [] s₁ H ⟨[.ref a], []⟩ [.ref a] [.ref a] _ _ hr e0 (hbind s₁ (.ref a)) (.cons rfl .nil) (hsp H hO hS)) λr s' h=> ?_;cases r with
  |error e=>exact(hCX H e s' h).elim
  |ok fl=>
   cases fl with
   |next=>exact False.elim h
   |brk=>exact False.elim h
   |cont=>exact False.elim h
   |ret u=>
    obtain⟨v,H',os,bare,un,hok',r',q⟩:=h;have q':v= .bl true:=q;subst q';obtain rfl:u=Value.bool true:=r';refine⟨rfl,OldK.of_keep λb o e=> ?_,os,bare⟩;cases q:H b with
    |none=>exact un.keep b o e q (by intro z;exact absurd (show b∈([]:List Addr) from z) (by simp)) (by simp)
    |some u=>
     rcases hO b with z|⟨ob,xs,z⟩
     ·rw[q] at z;cases z
     ·have z2:=un.frzs b ob _ z;obtain⟨e1,_⟩:=hok b _ z;obtain⟨e2,_⟩:=hok' b _ z2;rw[e] at e1;cases e1;exact e2
 cases hk:K.lookup a with
 |some o=>
  have e:=KX a o hk;rw[ha] at e;cases e;refine core (λ_=>none) (λ_=> .inl rfl) (.inr ⟨_,vs.toArray,_,hk,rfl,rfl,rfl,by rw[Jn,lenV];exact hl,by simpa using rv⟩) (λb u z=>by have z':(none:Option HO)=some u:=z;cases z') (λb z=>absurd rfl z) λz=>absurd rfl z
 |none=>
  refine core (λb=>if b=a then some (.frz {cls:= .type "list",data:= .seq vs.toArray} (.lst (ns.map V.int))) else none) (λb=> ?_) (.inl (.inr ⟨{cls:= .type "list",data:= .seq vs.toArray},Jg rfl⟩)) (λb u z=> ?_) (λb z=> ?_) λ_=>hk
  ·by_cases hb:b=a
   ·exact .inr ⟨_,_,Jg hb⟩
   ·exact .inl (Jf hb)
  ·by_cases hb:b=a
   ·have z':=(Jg hb).symm.trans z;cases z';subst hb;exact⟨ha,by rw[Ja];exact hl,vs,_,rv,ha⟩
   ·have z':=(Jf hb).symm.trans z;cases z'
  ·by_cases hb:b=a
   ·exact hb
   ·exact absurd (Jf hb) z
abbrev KOf{K:Fg}{h:Heap}(_:K.In h):Fg:=K
theorem walk_of{l:PySem.W.OpenLaw}{n k:Nat}{q:Program}{loose:List Str}{XP:(Str->Option Value)->Heap->Prop}{YP:World->Heap->Prop}{d:DefRec}{K:Params->Fg}{CX:World->CXT}{sp:World->Sp}{x:Str}
  (hn:l.most=some n) (hn2:n<=sizeLine) (hdf:d.params.defaults= []) (hr:Room k callerA)
  (hY: ∀(w:World) (h:Heap),YP w h->(K w.params).In h)
  (F: ∀(w:World) (mg:Str->Option Value) (fa:Addr) (h:Heap),(K w.params).In h->h.Ns mainGlobals mg->mg d.name=some (.ref fa)->
   ∃fd:FuncData,(∀(s:Shared) (u:Value),BindsTo s fd ⟨[u], []⟩ [(x,u)])/\
    ∀base:Heap,(K w.params).In base->base.Ns mainGlobals mg->FnOk l.prog w (K w.params) mg base (CX w) k fa fd [x] (sp w))
  (hsp: ∀(w:World) (H:Hp) (a:Addr) (ns:List Int),ns.length<=n->kQ H->SqL (K w.params) H a (ns.map V.int)->sp w [.ref a] H (λv _=>v= .bl true) λ_ _ _=>False)
  (hCX: ∀(w:World) (H:Hp) (s:Shared) (e:Value) (s':Shared),CX w [] H s (λ_ _ _=>False) e s'->False):
  PySem.W.WalkO q loose XP YP l.row.toRowW d [] (λf vs=>PySem.call f vs):=by
 refine Att.attach_call hn hdf λw s₀ s₁ mg mb fa o pm cd doc a vs ns G Y ho hd hcd hmg hobj hints hlen hg=> ?_;have KX:=hY w _ Y;obtain⟨fd,hb,hF⟩:=F w mg fa _ KX G.T.g hmg;exact zlm KX G.T.g G.T.b G.T.builtins G.T.nolimit hg hobj hints (JE hlen hn2) hr hF hb (λH hO hS=>hsp w H a ns hlen hO hS) λH e s'=>hCX w H s₁ e s'
def wP(s:Stmt):Arguments:=match s with
 | .FunctionDef _ a _ _ _ _ _ _ _ _=>a
 |_=>{posonlyargs:= [],args:= [],vararg:=none,kwonlyargs:= [],kw_defaults:= [],kwarg:=none,defaults:= []}
def wv(s:Stmt):List Stmt:=match s with
 | .FunctionDef _ _ b _ _ _ _ _ _ _=>b
 |_=> []
def zC(s:Stmt):Scope:=match s with
 | .FunctionDef _ _ _ _ _ _ sc _ _ _=>sc
 |_=>{kind:= .function,names:= [],isGenerator:=false,isCoroutine:=false}
structure Fun (K:Fg) (x qual:Str) (st:Stmt) (f:Addr) (fd:FuncData):Prop where
 ex: ∃(oc:Value) (od:Option Addr) (kV doc pm:Value) (an:Option Addr) (cdv ct:Value) (osl:Array (Option Value)),
  fd=PySem.W.fnOf x qual (wP st) (wv st) (zC st) .none kV doc pm an cdv ct/\K.lookup f=some ⟨oc,od, .func fd,osl⟩/\PySem.W.codeIn K cdv qual=true
 kp:PySem.W.keepIn K (.ref f)=true
section
variable {P:Program} {w:World} {K:Fg} {mg:Str->Option Value} {base:Heap}
theorem Fun.binds{qual:Str}{st:Stmt}{f:Addr}{fd:FuncData}{ps:List Str}(F:Fun K x qual st f fd)
  (h: ∀(kV doc pm:Value) (an:Option Addr) (cdv ct:Value) (us:List Value),us.length=ps.length->bindArgs (PySem.W.fnOf x qual (wP st) (wv st) (zC st) .none kV doc pm an cdv ct) ⟨us, []⟩=pure (ps.zip us)):qf K fd ps []:=by
 obtain⟨oc,od,kV,doc,pm,an,cdv,ct,osl,rfl,lk,hcd⟩:=F.ex;exact .all (h kV doc pm an cdv ct)
theorem zln{qual:Str}{st:Stmt}{f:Addr}{oc:Value}{od an:Option Addr}{osl:Array (Option Value)}{kV doc pm cdv ct:Value}(l:K.lookup f=some ⟨oc,od, .func (PySem.W.fnOf x qual (wP st) (wv st) (zC st) .none kV doc pm an cdv ct),osl⟩)
  (c:PySem.W.codeIn K cdv qual=true) (k:PySem.W.keepIn K (.ref f)=true):Fun K x qual st f (PySem.W.fnOf x qual (wP st) (wv st) (zC st) .none kV doc pm an cdv ct):=⟨⟨oc,od,kV,doc,pm,an,cdv,ct,osl,rfl,l,c⟩,k⟩
end
theorem xk{A:Around}{k:Nat}(hr:Room k A):A.units+1<cLine:=Nat.lt_of_le_of_lt (Nat.add_le_add_left (by decide:1<=64) _) hr.units
theorem xl{n:Nat}(h:n<=1000):n<sizeLine:=Nat.lt_of_le_of_lt h 'd'
section
variable {X:Cx}
theorem pv(i:Nat){pos:Pos}(hN:X.N[i]? =some x:=by rfl)(hv:Vis X.env.scope x:=by first|exact Or.inl rfl|exact Or.inr (Or.inl rfl)|exact Or.inr (Or.inr rfl))(hd:(x==("__debug__":Str))=false:=by decide)
  (hcd:(x==("__classdict__":Str))=false:=by decide):PE X (.Name x pos) (jZ i):=zkZ hN hv hd hcd
end
def zh(H H':Hp):Prop:= ∀b o,H b=some o->H' b=some o
theorem zh.refl(H:Hp):zh H H:=λ_ _ h=>h
theorem zh.trans{H H1 H2:Hp}(a:zh H H1)(b:zh H1 H2):zh H H2:=λc o h=>b c o (a c o h)
theorem zh.seq{K:Fg}{H H':Hp}{a:Addr}{xs:List V}(e:zh H H')(h:SqL K H a xs):SqL K H' a xs:=by
 rcases h with(h|⟨o,h⟩)|h
 ·exact .inl (.inl (e _ _ h))
 ·exact .inl (.inr ⟨o,e _ _ h⟩)
 ·exact .inr h
end L2
set_option maxHeartbeats 4000000
namespace L2
open PySem PySem.Spec PyProof.Rows
variable{P:Program}{w:World}{K:Fg}{base:Heap}{N:List Str}{qual:Str}{scope:Scope}{A:Around}{s:Shared}{H:Hp}{pins:List (Addr×Obj)}{σ:St}{Q:VK}{x v y:V}{n:Nat}{xs:List V}{i:Int}{o:HO}{a:Addr}{X:Cx}{env:Env}{wi:TI}{ds:List D}{e:D}
structure Fly (P:Program) (w:World) (l:List Env) (H:Hp) (s:Shared) (ea:Addr) (cls:Value) (H':Hp) (s':Shared):Prop where
 os:s'.os=s.os
 bare:AllBare s'.gens
 un:Un (frs l) [] H H' s.heap s'.heap
 ex: ∃B a0,Heap.FlyingW B l ea cls a0 s'.heap/\HOk P w H' B/\(∀b o,s.heap.get? b=some o->H b=none->b∉frs l->B.get? b=some o)/\
  ∀b o,s.heap.get? b=some o->b∉frs l-> ∃o',B.get? b=some o'
structure Cx.Own (X:Cx):Prop where
 stk:X.stack=X.env::X.outer
 fr:X.env.frame=some X.env.locals
 ex:X.ex= []
section
variable {X:Cx} {pins:List (Addr×Obj)} {σ:St} {H H':Hp} {s s':Shared} {ea:Addr} {cls a0:Value} {B h1 h2 h':Heap} {M:Model} {E:Value->Shared->Prop} {Q:Unit->Shared->Prop}
theorem Inv.fly_out(W:X.Own)(I:Inv X pins σ H s)(u:Un (frs X.stack) [] H H' s.heap h1)(up:h1.UpToSlots s'.heap)(ff:h1.FunFrames B X.stack)(fl:Heap.FlyingW B X.outer ea cls a0 s'.heap)(hok:HOk X.prog X.w H' B)
  (kp: ∀b o,s.heap.get? b=some o->H b=none->b∉frs X.stack->B.get? b=some o) (th: ∀b o,s.heap.get? b=some o->b∉frs X.stack-> ∃o',B.get? b=some o') (os:s'.os=s.os) (bare:AllBare s'.gens):
  Fly X.prog X.w X.outer X.H₀ X.s₀ ea cls H' s':=by
 have nst: ∀b o,X.s₀.heap.get? b=some o->b∉frs X.outer->b∉frs X.stack:=λb o e hb z=>by
  rcases JD.mp (I.stkSub b z) with q|q
  ·exact absurd q (JK (Jy (Qb e) I.ok.above))
  ·exact hb q
 have nx: ∀b,b∉X.ex:=λb=>by rw[W.ex];simp
 have nn: ∀b:Addr,b∉([]:List Addr):=λb=>by simp
 have inS: ∀b,b∈frs X.outer->b∈frs X.stack:=λb hb=>by
  rw[W.stk];obtain⟨env,he,hf⟩:=List.mem_filterMap.mp hb;exact List.mem_filterMap.mpr ⟨env,Jl _ he,hf⟩
 have kpo: ∀b o,X.s₀.heap.get? b=some o->X.H₀ b=none->b∉frs X.outer->B.get? b=some o:=λb o e n hb=>
  kp b o (I.base.keep b o e n hb (nx b)) (I.base.free b o e n (nx b)) (nst b o e hb)
 refine⟨os.trans I.os,bare,⟨λb o e n hb _=>fl.1 b o (kpo b o e n hb),λb o e n hb _=> ?_,λb o e n _=> ?_,λb o e _=> ?_,λb xs e=>u.tups b xs (I.base.tups b xs e),λb o xs e=>u.frzs b o xs (I.base.frzs b o xs e),λb ps e=> ?_⟩,
  B,a0,fl,hok,kpo,λb o e hb=> ?_⟩
 ·obtain⟨sl,e1⟩:=I.base.slot b o e n hb (nx b);obtain⟨sl2,e2⟩:=u.any e1 (I.base.free b o e n (nx b)) (nn b);obtain⟨_,o',ho',hnf⟩:=ff.mem (inS b hb);rw[e2] at ho';cases ho';obtain⟨sl3,e3⟩:=up b _ e2 hnf;exact⟨sl3,e3⟩
 ·obtain⟨o',e1⟩:=I.base.there b o e (nx b);exact u.free b o' e1 (I.base.free b o e n (nx b)) (nn b)
 ·obtain⟨o1,e1⟩:=I.base.there b o e (nx b);by_cases hb:b∈frs X.stack
  ·obtain⟨_,o',ho',hnf⟩:=ff.mem hb;obtain⟨sl3,e3⟩:=up b _ ho' hnf;exact⟨_,e3⟩
  ·obtain⟨o2,e2⟩:=th b o1 e1 hb;exact⟨o2,fl.1 b o2 e2⟩
 ·obtain⟨m1,e1⟩:=I.base.tbls b ps e;obtain⟨m2,e2⟩:=u.tbls b _ e1;exact⟨m1++m2,by rw[e2,Array.append_assoc]⟩
 ·obtain⟨o1,e1⟩:=I.base.there b o e (nx b);exact th b o1 e1 (nst b o e hb)
theorem zpb(W:X.Own)(I:Inv X pins σ H s)(F:Fly X.prog X.w X.stack H s ea cls H' s')
  (hQ: ∀h',Fly X.prog X.w X.outer X.H₀ X.s₀ ea cls H' {s' with heap:=h'}->Q () {s' with heap:=h'}):wpAny M X.A (leaving X.env (.ref ea)) Q E s':=by
 obtain⟨B,a0,fl,hok,kp,th⟩:=F.ex;have fl2:=fl;rw[W.stk] at fl2;refine wpAny_leaves_onW (by rw[I.ok.frames,W.stk]) W.fr fl2 λh' fl' up=>hQ h' ?_;exact I.fly_out W F.un up fl.2.2.1 fl' hok kp th F.os F.bare
theorem Inv.hide(I:Inv X pins σ H s):HOk X.prog X.w H (PySem.W.hideAll s.heap (frs X.stack))/\
  s.heap.FunFrames (PySem.W.hideAll s.heap (frs X.stack)) X.stack:=by
 refine⟨λa u e=>(I.hok a u e).stay (λb v hc q=>PySem.W.hideAll_get _ q λz=> ?_) (λ_ q=>q) λ_ _ q=>q,PySem.W.funFrames_hide I.stack λenv he a ha=>List.mem_filterMap.mpr ⟨env,he,ha⟩⟩;have n:=I.stkFree b z;rcases hc with rfl|hc
 ·rw[n] at e;cases e
 ·rw[n] at hc;cases hc
theorem znA(W:X.Own)(I:Inv X pins σ H s){args:List Value}(hx:Heap.MadeExcOf s.heap h2 ea cls args)
  (hQ: ∀h',Fly X.prog X.w X.outer X.H₀ X.s₀ ea cls H {s with heap:=h'}->Q () {s with heap:=h'}):wpAny M X.A (leaving X.env (.ref ea)) Q E {s with heap:=h2}:=by
 obtain⟨hok,ff⟩:=I.hide;have ff2:=ff;rw[W.stk] at ff2;refine wpAny_leaves_madeW (s:={s with heap:=h2}) (base:=PySem.W.hideAll s.heap (frs X.stack)) (h:=s.heap) (by rw[I.ok.frames,W.stk]) W.fr (λb o q=>PySem.W.of_hideAll _ q) (by rw[<-W.stk];exact ff) hx λh' t fl tup bt up=>hQ h' ?_;exact I.fly_out (s':={s with heap:=h'}) W (Un.kept hx.keeps) up (ff.of_keeps λb o e _=>⟨o,hx.keeps b o e,rfl⟩) fl hok (λb o e _ hb=>PySem.W.hideAll_get _ e hb) (λb o e hb=>⟨o,PySem.W.hideAll_get _ e hb⟩) rfl I.bare
end
def CXE(P:Program)(w:World):CXT:=λl H s E e s'=> ∃ea cls H',e= .ref ea/\Fly P w l H s ea cls H' s'/\E cls none H'
structure Lv (X:Cx) (Ek:St->XK):Prop where
 call: ∀pins σ ea cls H H' s s',Inv X pins σ H s->Fly X.prog X.w X.stack H s ea cls H' s'->Ek σ cls none H'->X.xe (.ref ea) s'
structure LvR (X:Cx) (Ek:St->XK):Prop extends Lv X Ek where
 new: ∀pins σ ea cls args H s h2,Inv X pins σ H s->Heap.MadeExcOf s.heap h2 ea cls args->Ek σ cls none H->X.xe (.ref ea) {s with heap:=h2}
theorem zpc{P:Program}{w:World}{K:Fg}{mg:Str->Option Value}{base:Heap}{N:List Str}{qual:Str}{scope:Scope}{f:Addr}{cd:Value}{A:Around}{outer:List Env}{s:Shared}{H:Hp}{E:XK}:
  LvR (xI (CXE P w) P w K mg base N qual scope f cd A outer s H E) (λ_=>E):=by
 have W:(xI (CXE P w) P w K mg base N qual scope f cd A outer s H E).Own:=⟨rfl,rfl,rfl⟩
 refine⟨⟨λpins σ ea cls H1 H' s1 s' I F q=> ?_⟩,λpins σ ea cls args H1 s1 h2 I hx q=> ?_⟩
 ·exact zpb W I F λh' F=>⟨ea,cls,H',rfl,F,q⟩
 ·exact znA W I hx λh' F=>⟨ea,cls,H1,rfl,F,q⟩
section
variable {X:Cx} {Ek:St->XK} {k:Nat} {f C:Addr} {fd:FuncData} {ps:List Str} {sp:Sp} {dvs:List V} {ds:List Value} {x:Str} {p pos:Pos} {e:Expr} {es:List Expr} {t:TA}
theorem znB{pins:List (Addr×Obj)}{σ:St}{H:Hp}{s:Shared}{Q:VK}{us:List Value}{vs:List V}(L:Lv X Ek)(F:FnOk X.prog X.w X.K X.mg X.base (CXE X.prog X.w) k f fd ps sp)(hr:Room k X.A)(hb:qf X.K fd ps ds)(hd:zw dvs ds)
  (I:Inv X pins σ H s) (r:zw vs us) (h:sp (vs++dvs) H Q (Ek σ)):wpAny (model X.prog X.w) X.A (call (.ref f) us) (EP X pins σ Q) X.xe s:=by
 have r2:zw (vs++dvs) (us++ds):=r.append hd;have hl:(us++ds).length=ps.length:=by rw[<-r2.length];exact F.len _ _ _ _ h
 refine wpAny_call (codeAny_mono (F.run X.A X.stack s H ⟨us, []⟩ (us++ds) (vs++dvs) Q (Ek σ) hr I.env0 (hb s us I.kIn hl) r2 h) λr s' hq=> ?_);cases r with
 |error e=>
  obtain⟨ea,cls,H',rfl,fl,q⟩:=hq;exact L.call pins σ ea cls H H' s s' I fl q
 |ok fl=>
  cases fl with
  |ret u=>exact I.after hq
  |next=>exact False.elim hq
  |brk=>exact False.elim hq
  |cont=>exact False.elim hq
def kR(sp:Sp)(dvs:List V)(Ek:St->XK)(t:TA):TE:=λσ H Q=>t σ H λvs H1=>sp (vs++dvs) H1 Q (Ek σ)
theorem zlo(L:Lv X Ek)(F:FnOk X.prog X.w X.K X.mg X.base (CXE X.prog X.w) k f fd ps sp)(hr:Room k X.A)(hg:Gl X x)(hm:X.mg x=some (.ref f))(hk:PySem.W.keepIn X.K (.ref f)=true)(hb:qf X.K fd ps ds)(hd:zw dvs ds)
  (ha:PA X (e::es) t) (hdb:(x==("__debug__":Str))=false:=by decide) (he:starEach (e::es) X.env=(false,eval e X.env)::starEach es X.env:=by rfl) (hpl:(backTo pos (starEach es X.env)).any (·.1)=false:=by rfl):
  PE X (.Call (.Name x p) (e::es) [] pos) (kR sp dvs Ek t):=by
 intro pins s σ H Q I h;refine wpAny_Call_Name_kw (vV I hg hm ?_ hdb);refine PySem.W.callWith_K (h₀:=X.base) I.ok.mod.kin hk (thn (ha pos pins s σ H _ I h) λus s1 ⟨vs,H1,I1,r,q⟩=>⟨I1.kIn,?_⟩) he hpl;exact znB L F hr hb hd I1 r q
structure Exc (K:Fg) (C:Addr):Prop where
 ok: ∃bmB newId initId,ExcBaseFacts "ValueError" newId initId bmB/\PySem.W.excIn K C bmB newId=true
theorem znC{h:Heap}{bmB:List Value}{newId:String}(X:K.In h)(q:PySem.W.excIn K C bmB newId=true):
  ∃bm N nm q bs hdct sn sub ab col dd k0 k1 k2 k3 k5 mN,h.get? C=some (excClassObj nm q C N bs bm hdct sn sub ab col dd k0 k1 k2 k3 k5 newId)/\h.Ns N mN/\mN "__init__"=none/\OwnTail h bmB bm:=by
 unfold PySem.W.excIn at q;split at q
 case h_2=>cases q
 case h_1 dd cd sl ho=>
  split at q
  case h_2=>cases q
  case h_1 C1 bm1 a0 a1 a2 a3 nw a5 hm hs=>
   simp only[Bool.and_eq_true,beq_iff_eq,Bool.not_eq_true'] at q;obtain⟨⟨⟨⟨⟨e1,e2⟩,e3⟩,e4⟩,e5⟩,e6⟩:=q;subst e1;subst e2;cases cd with
   |mk nm bs mro ns qn hd sn sub ab col del=>
    have m1:mro= .ref C1::bm1:=hm;have m2:del=false:=e3;subst m1;subst m2;have z:sl= #[a0,a1,a2,a3,some (.builtin nw),a5]:=Array.toList_inj.mp hs;subst z;exact⟨bm1,ns,nm,qn,bs,hd,sn,sub,ab,col,dd,a0,a1,a2,a3,a5,_,X _ _ ho,Heap.Ns.of_isNs (PySem.W.isNs_of_in X e5),PySem.W.nsMap_none_of_in X e5 e6,PySem.W.tail_of_in X e4⟩
def kS(C:Addr)(Ek:St->XK)(t:TA):TS:=λ_ σ H=>t σ H λvs H1=>vs.length<=sizeLine/\Ek σ (.ref C) none H1
theorem zlp(L:LvR X Ek)(O:Exc X.K C)(hc:X.calm=true)(hg:Gl X x)(hm:X.mg x=some (.ref C))(ha:PA X (e::es) t)(hdb:(x==("__debug__":Str))=false:=by decide)
  (he:starEach (e::es) X.env=(false,eval e X.env)::starEach es X.env:=by rfl) (hpl:(backTo pos (starEach es X.env)).any (·.1)=false:=by rfl) {rpos:Pos}:
  PS X (.Raise (some (.Call (.Name x p) (e::es) [] pos)) none rpos) (kS C Ek t):=by
 intro pins s σ H D I h;obtain⟨bmB,newId,initId,FB,q⟩:=O.ok;obtain⟨tl,N,nm,qn,bs,hdct,sn,sub,ab,col,dd,k0,k1,k2,k3,k5,mN,hC,hN,hni,T⟩:=znC I.ok.mod.kin q;refine wpAny_Raise_call_subT (C:=C) (nm:=nm) (q:=qn) (N:=N) (bs:=bs) (bm:=tl) (hdct:=hdct) (sn:=sn) (sub:=sub) (ab:=ab) (col:=col) (dd:=dd) (k0:=k0) (k1:=k1) (k2:=k2) (k3:=k3) (k5:=k5)
  FB (mN:=mN) (T.hasType FB.hasBase) (I.ok.hd hc) (by rw[he];show (false||(backTo pos (starEach es X.env)).any (·.1))=false;rw[hpl];rfl) hni (vV I hg hm ⟨rfl,?_⟩ hdb)
 have ha':=ha pos pins s σ H _ I h;rw[he] at ha' ⊢;refine Calls.evalArgs_plain (wpAny_mono ha' (λus s2 hq=> ?_) λ_ _ y=>y);obtain⟨vs,H1,I1,r,hl,q1⟩:=hq;refine⟨rfl,by rw[<-r.length];exact hl,I1.bk _ _ hC,hN.keeps I1.bk,T.keeps I1.bk,λh' ea hm=> ?_⟩;exact L.new pins σ ea _ us H1 s2 h' I1 hm q1
end
def zqX(ea:Addr)(cls:Value):HO:= .ext λh=> ∃o vs,h.get? ea=some o/\o.cls=cls/\o.data= .fields vs
section
variable {X:Cx} {pins:List (Addr×Obj)} {σ:St} {H H':Hp} {s s':Shared}
end
section
variable {X:Cx} {body suite:List Stmt} {b₀:Stmt} {n xn:Str} {i:Nat} {C:Addr} {tb:(St->XK)->TS} {ts:TS} {np hpos pos:Pos}
end
theorem Fun.okX{P:Program}{w:World}{mg:Str->Option Value}{base:Heap}{x:Str}{st:Stmt}{f:Addr}{fd:FuncData}{ps:List Str}{k:Nat}{sp:Sp}(F:Fun K x qual st f fd)(S:FnScope N ps (zC st))(len: ∀vs H Q E,sp vs H Q E->vs.length=ps.length)
  (hbody: ∀(cdv:Value) (A:Around) (outer:List Env) (s:Shared) (H:Hp) (vs:List V) (Q:VK) (E:XK),LvR (xI (CXE P w) P w K mg base N qual (zC st) f cdv A outer s H E) (λ_=>E)->Room k (A.deeper (envOfC qual (zC st) s.heap.objs.size f cdv))->sp vs H Q E->
   ∃t,PSs (xI (CXE P w) P w K mg base N qual (zC st) f cdv A outer s H E) (wv st) t/\t {nx:=λ_ H'=>Q .non H',rt:=Q} (start N vs) H):FnOk P w K mg base (CXE P w) (k+1) f fd ps sp:=by
 obtain⟨oc,od,kV,doc,pm,an,cdv,ct,osl,rfl,lk,hcd⟩:=F.ex;exact zqU lk hcd S len λA outer s H vs Q E hr hsp=>hbody cdv A outer s H vs Q E zpc hr hsp
theorem qU:bootBuiltins "len"=some (.builtin "len"):=by decide+kernel
theorem xK:bootBuiltins "min"=some (.builtin "min"):=by decide+kernel
theorem zpd:bootBuiltins "max"=some (.builtin "max"):=by decide+kernel
theorem zf6:bootBuiltins "divmod"=some (.builtin "divmod"):=by decide+kernel
theorem ub:bootBuiltins "int"=some (.type "int"):=by decide+kernel
theorem uQ:bootBuiltins "list"=some (.type "list"):=by decide+kernel
open PySem.Builtin PySem.Builtin.ObjectAttr PySem.Builtin.Getset_descriptor
structure ExcCls (K:Fg) (D:Addr):Prop where
 cls:(PySem.W.clsIn K D).isSome=true
 ga:PySem.W.findIn K (.ref D) "__getattribute__"=some (some (.builtin "BaseException.__getattribute__"))
 gt:PySem.W.findIn K (.ref D) "__getattr__"=some none
 cl:PySem.W.findIn K (.ref D) "__class__"=some (some (.builtin "object.__class__"))
 mo:PySem.W.mroIn K D (.type "object")=some true
 mb:PySem.W.mroIn K D (.type "BaseException")=some true
section
variable {prog:Program} {w:World} {A:Around} {E:Value->Shared->Prop} {h:Heap} {g:Array GenState} {d:Drawn} {t:Nat} {os:OsState} {K:Fg} {a D:Addr} {o:Obj}
end
inductive TyX (K:Fg) (H:Hp):V->Value->Prop where
 |old {x:V} {t:Value} (h:TyOf K H x t):TyX K H x t
 |exc {a D:Addr} (e:H a=some (zqX a (.ref D))) (C:ExcCls K D):TyX K H (.ref a) (.ref D)
structure ClsOk (K:Fg) (C:Addr):Prop where
 cls:(PySem.W.clsIn K C).isSome=true
 ty:PySem.W.typeIn K (.ref C)=some (.type "type")
 me:PySem.W.mroIn K C (.ref C)=some true
section
variable {X:Cx}
end
section
variable {X:Cx}
end
theorem zrK{CX:CXT}{P:Program}{w:World}{K:Fg}{mg:Str->Option Value}{base:Heap}{N:List Str}{qual:Str}{scope:Scope}{f:Addr}{cd:Value}{A:Around}{outer:List Env}{s:Shared}{H:Hp}{E:XK}:
  (xI CX P w K mg base N qual scope f cd A outer s H E).K=K:=rfl
theorem slT(h:n<=1000):(n<=sizeLine)=True:=eq_true (JE h 'd')
theorem ixL{p:Addr}(h:SqL K H p xs)(e:atI xs i=some v)(q:Q v H):wu K (.ref p) (.int i) H Q:=⟨p,xs,i,v,rfl,rfl,h,e,q⟩
theorem ixT{p:Addr}(h:SqT K H p xs)(e:atI xs i=some v)(q:Q v H):vq K (.ref p) (.int i) H Q:=⟨p,xs,i,v,rfl,rfl,h,e,q⟩
theorem wQ{xs:List Int}(h0:0<=i)(h1:i<xs.length):atI (xs.map V.int) i=some (.int (xs.getD i.toNat 0)):=by
 obtain⟨k,rfl⟩:=Int.eq_ofNat_of_zero_le h0;have hk:k<xs.length:=by omega
 refine qp ?_;rw[Jh,Jb hk,JF,Jo,Jb hk];rfl
theorem xL{p:Addr}(h:H p=none)(o:HO):zh H (upd H p o):=λb u q=>by rw[zu (qa q h)];exact q
theorem znD(a b:Int):(xr (.int a) (.int b)=true)=True:=eq_true rfl
theorem znE(a b:Bool):(xr (.bl a) (.bl b)=true)=True:=eq_true rfl
theorem znF(a b:Str):(xr (.str a) (.str b)=true)=True:=eq_true rfl
theorem znG(b:Int):(xr .non (.int b)=true)=True:=eq_true rfl
theorem znH(a:Int):(xr (.int a) .non=true)=True:=eq_true rfl
section
variable {X:Cx}
end
theorem uc{H':Hp}{p:Addr}(s:zh H H')(h:H p=none):zh H (upd H' p o):=λb u q=>by
 rw[zu (qa q h)];exact s b u q
theorem zh.sqT{H':Hp}(e:zh H H')(h:SqT K H a xs):SqT K H' a xs:=by
 rcases h with(h|⟨o,h⟩)|h
 ·exact .inl (.inl (e _ _ h))
 ·exact .inl (.inr ⟨o,e _ _ h⟩)
 ·exact .inr h
def zrL(t:TS):TS:=λD σ H=> ∃R:St->Hp->Prop,t {D with nx:=R} σ H/\ ∀σ' H',R σ' H'->D.nx σ' H'
theorem xv{st:Stmt}{t:TS}(h:PS X st t):PS X st (zrL t):=by
 intro pins s σ H D I q;obtain⟨R,q1,q2⟩:=q;refine thn (h pins s σ H {D with nx:=R} I q1) λf s1 z=> ?_;cases f with
 |next=>
  obtain⟨σ',H',I',z⟩:=z;exact⟨σ',H',I',q2 _ _ z⟩
 |ret v=>exact z
 |brk=>exact z
 |cont=>exact z
section
variable {X:Cx} {Ek:St->XK} {k:Nat} {f:Addr} {fd:FuncData} {ps:List Str} {sp:Sp} {x:Str} {p pos:Pos} {e:Expr} {es:List Expr} {t:TA}
end
section
variable {X:Cx} {K:Fg}
end
def SL(cs:List Nat):Str:=⟨cs.toArray⟩
theorem zqY(z:Str):z=SL z.cps.toList:=by cases z;rfl
theorem vt(cs:List Nat):(SL cs).length=cs.length:=by show cs.toArray.size=_;simp
theorem zpe(a b:List Nat):SL a++SL b=SL (a++b):=by
 show (⟨a.toArray++b.toArray⟩:Str)=⟨(a++b).toArray⟩;simp
theorem ww(a b:List Nat):(SL a=SL b)=(a=b):=by
 refine propext ⟨λh=> ?_,λh=>by rw[h]⟩
 have:=congrArg (λz:Str=>z.cps.toList) h;exact this
section
variable {X:Cx} {tg:Expr}
end
def dg(n:Nat):List Nat:=(Nat.toDigits 10 n).map Char.toNat
def sI(i:Int):List Nat:=if i<0 then 45::dg (-i).toNat else dg i.toNat
section
variable {X:Cx}
theorem zZ{x:Str}{cs:List Nat}{j pos}(e:x=SL cs):PE X (.Constant (.str x) j pos) (tC (.str (SL cs))):=e ▸ xQ
theorem zhA:OpR X (binaryOp .Add) (λx y H Q=> ∃a b,x= .str (SL a)/\y= .str (SL b)/\a.length+b.length<=sizeLine/\Q (.str (SL (a++b))) H):=by
 intro pins s σ H x y v u Q I rx ry h;obtain⟨a,b,rfl,rfl,hz,q⟩:=h;exact ziy pins s σ H _ _ v u Q I rx ry ⟨_,_,rfl,rfl,by rw[vt,vt];exact hz,by rw[zpe];exact q⟩
theorem zqZ:IxR X (λx y H Q=> ∃cs i c,x= .str (SL cs)/\y= .int i/\cs.length<=sizeLine/\atI cs i=some c/\Q (.str (SL [c])) H):=by
 intro value slice pins s σ H x y v u Q I rx ry h hs;obtain⟨cs,i,c,rfl,rfl,hz,he,q⟩:=h;exact zo6 value slice pins s σ H _ _ v u Q I rx ry ⟨_,i,c,rfl,rfl,by rw[vt];exact hz,he,q⟩ hs
end
def jn(sep:List Nat):List (List Nat)->List Nat
 | []=> []
 | [x]=>x
 |x::y::r=>x++sep++jn sep (y::r)
def zf(cs:List Nat)(n:Nat):List Nat:=List.replicate (n - cs.length) 48++cs
section
variable {X:Cx}
end
open PySem PySem.NumText
theorem kT{xs:List Int}{lo hi:Int}(h: ∀x∈xs,lo<=x/\x<=hi)(h0:0<=i)(h1:i<xs.length):lo<=xs.getD i.toNat 0/\xs.getD i.toNat 0<=hi:=by
 have hl:i.toNat<xs.length:=by omega
 rw[Jo,Jb hl];exact h _ (List.getElem_mem hl)
section
variable {prog:Program} {w:World} {A:Around} {E:Value->Shared->Prop}
end
section
variable {X:Cx} {pos:Pos}
end
def PEt(X:Cx)(e:Expr)(t:TE):Prop:=
 ∀(pins:List (Addr×Obj)) (s:Shared) (σ:St) (H:Hp) (Q:VK),0<s.toks->Inv X pins σ H s->t σ H Q->wpAny (model X.prog X.w) X.A (eval e X.env) (EP X pins σ Q) X.xe s
def PAt(X:Cx)(es:List Expr)(t:TA):Prop:=
 ∀(pos:Pos) (pins:List (Addr×Obj)) (s:Shared) (σ:St) (H:Hp) (Q:List V->Hp->Prop),0<s.toks->Inv X pins σ H s->t σ H Q->wpAny (model X.prog X.w) X.A (spliced (backTo pos (starEach es X.env))) (AP X pins σ Q) X.xe s
def zrM(X:Cx)(st:List Stmt)(t:TS):Prop:=
 ∀(pins:List (Addr×Obj)) (s:Shared) (σ:St) (H:Hp) (D:Ends),0<s.toks->Inv X pins σ H s->t D σ H->wpAny (model X.prog X.w) X.A (execs st X.env) (SP X pins D) X.xe s
section
variable {X:Cx} {a b e o:Expr} {es:List Expr} {te ta tb to:TE} {t:TA} {pos apos cpos:Pos}
end
section
variable {prog:Program} {w:World} {A:Around} {R:Result->Shared->Prop} {s:Shared}
abbrev NoE:Value->Shared->Prop:=λ_ _=>False
theorem zhB{elt target iter:Expr}{ifs:List Expr}{scope:Scope}{pos:Pos}{it acc:Value}{env:Env}(I:Nat->Shared->Prop)
  (turn: ∀n s,I n s->wpAny (model prog w) A (pyNext it) (λr s₁=>match r with
   |none=>R (.ok .next) s₁
   |some v=>wpAny (model prog w) A (letOwnedTupleGo target it v) (λ_ s₁'=>wpAny (model prog w) A (assign target env v) (λ_ s₂=>
     wpAny (model prog w) A (forIn ifs true λc r=>if r=true then do let ok<-isTrue c env (eval c env);pure (ForInStep.yield ok) else pure (ForInStep.yield r)) (λok s₃=>
      if ok=true then wpAny (model prog w) A (eval elt env) (λx s₄=>
       wpAny (model prog w) A (call (.builtin "list.append") [acc,x]) (λ_ s₅=> ∃m,m<n/\I m s₅) NoE s₄) NoE s₃
      else∃m,m<n/\I m s₃) NoE s₂) NoE s₁') NoE s₁) NoE s)
  (n:Nat) (h:I n s):
  codeAny (model prog w) A (.compLoop (.ListComp elt [⟨target,iter,ifs,0⟩] scope pos) 0 it acc env) R s:=by
 refine codeAny_loop rfl I (λn s hI=> ?_) n h;show wpAny _ A ((compTurn (.ListComp elt [⟨target,iter,ifs,0⟩] scope pos) 0 it acc env).onRaise (λx=>do noteFrame x env;theTreesLotGoes x)) _ _ s;refine wpAny_noted ?_;rw[compTurn_list];refine JW (wpAny_standAt (JW (wpAny_mono (turn n s hI) (λr s₁ h₁=> ?_) λ_ _ h'=>h'.elim)));cases r with
 |none=>exact JX h₁
 |some v=>
  refine JW (wpAny_mono h₁ (λ_ s₁' h₁'=> ?_) λ_ _ h'=>h'.elim);refine JW (wpAny_mono h₁' (λ_ s₂ h₂=>JW (wpAny_mono h₂ (λok s₃ h₃=> ?_) λ_ _ h'=>h'.elim)) λ_ _ h'=>h'.elim);cases ok with
  |false=>exact JX ⟨rfl,h₃⟩
  |true=>
   exact JW (JW (wpAny_mono h₃ (λx s₄ h₄=>JW (wpAny_mono h₄ (λ_ s₅ h₅=>JX (JX ⟨rfl,h₅⟩)) λ_ _ h'=>h'.elim)) λ_ _ h'=>h'.elim))
end
structure CA where
 cl:List (Str×Addr)
 C:Addr
 s:Shared
 H:Hp
 fp:List Addr
def Cx.comp(X:Cx)(scope:Scope)(N:List Str)(a:CA):Cx:=
 {X with N:=N,s₀:=a.s,H₀:=a.H,env:=compEnvC scope a.cl a.C X.env,outer:=X.stack,ex:=a.fp,fn:=λ_=>false,pn:= [],xe:=NoE}
theorem zpf{a:CA}:(X.comp scope N a).K=X.K:=rfl
theorem vv:Lv X (λ_ _ _ _=>False):=⟨λ_ _ _ _ _ _ _ _ _ _ q=>q.elim⟩
def wS(outer:List (Str×NameKind))(oN:List Str)(inner:List (Str×NameKind))(N:List Str)(n:Nat)(js:List Nat):Bool:=
 N.length==n+js.length &&
 (inner.all λp=>p.2 != .cell && (p.2 != .local||inner.lookup p.1==some .local) && (p.2 != .free||(inner.lookup p.1==some .free && (outer.lookup p.1==some .cell||outer.lookup p.1==some .free)))) &&
 (List.range js.length).all λk=>match js[k]?,N[n+k]? with
  |some j,some x=>oN[j]? ==some x && (outer.lookup x==some .cell||outer.lookup x==some .free) && inner.lookup x==some .free
  |_,_=>false
def xw(σ:St)(n:Nat)(js:List Nat):St:=List.replicate n none++js.map λj=>(σ[j]?).join
def Sub(σ τ:St):Prop:=σ.length=τ.length/\ ∀(i:Nat) v,σ[i]? =some (some v)->τ[i]? =some (some v)
theorem znI:Sub [] []=True:=eq_true ⟨rfl,λi v h=>by simp at h⟩
theorem zlq{τ:St}{x:Option V}:Sub (none::σ) (x::τ)=Sub σ τ:=by
 refine propext ⟨λh=>⟨by simpa using h.1,λi v e=>by simpa using h.2 (i+1) v (by simpa using e)⟩,λh=>⟨by simpa using h.1,λi v e=> ?_⟩⟩;cases i with
 |zero=>simp at e
 |succ i=>simpa using h.2 i v (by simpa using e)
theorem zlr{τ:St}:Sub (some x::σ) (some x::τ)=Sub σ τ:=by
 refine propext ⟨λh=>⟨by simpa using h.1,λi v e=>by simpa using h.2 (i+1) v (by simpa using e)⟩,λh=>⟨by simpa using h.1,λi v e=> ?_⟩⟩;cases i with
 |zero=>simpa using e
 |succ i=>simpa using h.2 i v (by simpa using e)
theorem ziG(h: ∀p∈scope.names,p.2=NameKind.free-> ∃c,env.cells.lookup p.1=some c):
  ∃cl,closureFor scope env=pure cl/\(∀x c,cl.lookup x=some c->env.cells.lookup x=some c)/\ ∀p∈scope.names,p.2=NameKind.free-> ∃c,cl.lookup p.1=some c:=by
 have go: ∀(names:List (Str×NameKind)) (acc:List (Str×Addr)),(∀p∈names,p.2=NameKind.free-> ∃c,env.cells.lookup p.1=some c)->(∀x c,acc.lookup x=some c->env.cells.lookup x=some c)->
   ∃cl,(forIn names acc (λx r=>match x with|(name,kind)=>if (kind==NameKind.free)=true then do let c<-cellOf env name;pure (ForInStep.yield ((name,c)::r)) else pure (ForInStep.yield r)):Sem (List (Str×Addr)))=pure cl/\
    (∀x c,cl.lookup x=some c->env.cells.lookup x=some c)/\(∀p∈names,p.2=NameKind.free-> ∃c,cl.lookup p.1=some c)/\ ∀x,(∃c,acc.lookup x=some c)-> ∃c,cl.lookup x=some c:=by
  intro names;induction names with
  |nil=>intro acc _ ha;exact⟨acc,rfl,ha,λp hp=>absurd hp (by simp),λ_ q=>q⟩
  |cons p r ih=>
   intro acc hp ha;obtain⟨nm,k⟩:=p;by_cases hk:k=NameKind.free
   ·subst hk;obtain⟨c,hc⟩:=hp (nm, .free) Jq rfl;have ec:cellOf env nm=pure c:=by unfold cellOf;rw[hc]
    have ha': ∀x c',((nm,c)::acc).lookup x=some c'->env.cells.lookup x=some c':=λx c' e=>by
     rw[List.lookup_cons] at e;cases z:x==nm with
     |true=>rw[z] at e;cases e;rw[eq_of_beq z];exact hc
     |false=>rw[z] at e;exact ha x c' e
    obtain⟨cl,e,q1,q2,q3⟩:=ih ((nm,c)::acc) (λp hp'=>hp p (Jl _ hp')) ha';refine⟨cl,?_,q1,λp hp' hf=> ?_,λx hx=>q3 x ?_⟩
    ·rw[List.forIn_cons];simp only[beq_self_eq_true,if_true,ec];exact e
    ·rcases JD.mp hp' with rfl|hp'
     ·exact q3 nm ⟨c,by rw[List.lookup_cons,beq_self_eq_true]⟩
     ·exact q2 p hp' hf
    ·rw[List.lookup_cons];cases z:x==nm with
     |true=>exact⟨c,rfl⟩
     |false=>exact hx
   ·obtain⟨cl,e,q1,q2,q3⟩:=ih acc (λp hp'=>hp p (Jl _ hp')) ha;refine⟨cl,?_,q1,λp hp' hf=> ?_,q3⟩
    ·rw[List.forIn_cons];have z:(k==NameKind.free)=false:=by simpa using hk
     simp only[z,Js,if_false];exact e
    ·rcases JD.mp hp' with rfl|hp'
     ·exact absurd hf hk
     ·exact q2 p hp' hf
 obtain⟨cl,e,q1,q2,_⟩:=go scope.names [] h (λx c e=>by simp at e);refine⟨cl,?_,q1,q2⟩;unfold closureFor;simp only[pure_bind,bind_pure];exact e
theorem ud{outer:List (Str×NameKind)}{oN:List Str}{inner:List (Str×NameKind)}{js:List Nat}(h:wS outer oN inner N n js=true):
  N.length=n+js.length/\(∀p∈inner,p.2≠NameKind.cell)/\(∀p∈inner,p.2=NameKind.local->inner.lookup p.1=some .local)/\
  (∀p∈inner,p.2=NameKind.free->inner.lookup p.1=some .free/\(outer.lookup p.1=some .cell\/outer.lookup p.1=some .free))/\
  ∀k j x,js[k]? =some j->N[n+k]? =some x->oN[j]? =some x/\(outer.lookup x=some .cell\/outer.lookup x=some .free)/\inner.lookup x=some .free:=by
 unfold wS at h;simp only[Bool.and_eq_true,beq_iff_eq,List.all_eq_true,List.mem_range] at h;obtain⟨⟨h1,h2⟩,h3⟩:=h;refine⟨h1,λp hp=>by simpa using (h2 p hp).1.1,λp hp e=> ?_,λp hp e=> ?_,λk j x e1 e2=> ?_⟩
 ·have z:=(h2 p hp).1.2;rw[e] at z;simpa using z
 ·have z:=(h2 p hp).2;rw[e] at z;simpa using z
 ·have z:=h3 k (Jc.mp e1).1;rw[e1,e2] at z;simpa [and_assoc] using z
theorem zdi{x:Str}:(relabel scope env).names.lookup x=(scope.names.lookup x).map (λk=>if (k==NameKind.free && env.scope.kind== .function && env.kindOf x==some .cell)=true then NameKind.cell else k):=by
 show (scope.names.map λ(n,k)=>if (k==NameKind.free && env.scope.kind== .function && env.kindOf n==some .cell)=true then (n,NameKind.cell) else (n,k)).lookup x=_;induction scope.names with
 |nil=>rfl
 |cons p r ih=>
  obtain⟨nm,k⟩:=p;rw[JA];dsimp only;cases z:x==nm with
  |true=>
   obtain rfl:=eq_of_beq z;by_cases c:(k==NameKind.free && env.scope.kind== .function && env.kindOf x==some .cell)=true
   ·simp only[c,if_true,List.lookup_cons,z,Option.map_some]
   ·rw[Jf c];simp only[List.lookup_cons,z,Option.map_some,Jf c]
  |false=>
   by_cases c:(k==NameKind.free && env.scope.kind== .function && env.kindOf nm==some .cell)=true
   ·rw[Jg c];simp only[List.lookup_cons,z];exact ih
   ·rw[Jf c];simp only[List.lookup_cons,z];exact ih
section
variable {X:Cx} {scope:Scope} {N:List Str} {n:Nat} {js:List Nat} {pins:List (Addr×Obj)} {σ:St} {H:Hp} {s₃:Shared} {cl:List (Str×Addr)} {fp:List Addr}
theorem zls(cap:wS X.env.scope.names X.N scope.names N n js=true)(hkind:scope.kind= .function)(I:Inv X pins σ H s₃)(hc1: ∀x c,cl.lookup x=some c->X.env.cells.lookup x=some c)
  (hc2: ∀p∈scope.names,p.2=NameKind.free-> ∃c,cl.lookup p.1=some c) (hf: ∀b∈fp,xg X pins H b) (hlt: ∀b∈fp,b<s₃.heap.objs.size) {h₁:Heap} {t:Nat} {m:Str->Option Value}
  (hns:h₁.Ns s₃.heap.objs.size m) (hk: ∀b o,s₃.heap.get? b=some o->h₁.get? b=some o):
  Inv (X.comp scope N ⟨cl,s₃.heap.objs.size,s₃,H,fp⟩) [] (xw σ n js) H {s₃ with heap:=h₁,toks:=t}:=by
 obtain⟨k1,k2,k3,k4,k5⟩:=ud cap;have kf: ∀x,((relabel scope X.env).names.lookup x=some .cell\/(relabel scope X.env).names.lookup x=some .free)->scope.names.lookup x=some .free:=λx h=>by
  rw[zdi] at h;cases e:scope.names.lookup x with
  |none=>rw[e] at h;simp at h
  |some k=>
   rw[e,Option.map_some] at h;cases k with
   |free=>rfl
   |cell=>exact absurd rfl (k2 (x, .cell) (PySem.mem_of_lookup e))
   | «local» =>simp at h
   |_=>simp at h
 have bf: ∀x,scope.names.lookup x=some .free->(relabel scope X.env).names.lookup x=some .cell\/(relabel scope X.env).names.lookup x=some .free:=λx h=>by
  rw[zdi,h,Option.map_some];split
  ·exact .inl rfl
  ·exact .inr rfl
 have isC: ∀c v,s₃.heap.IsCell c v->h₁.IsCell c v:=λc v ⟨o,ho,r⟩=>⟨o,hk _ _ ho,r⟩
 refine⟨⟨I.ok.mod,hkind,I.ok.glob,I.ok.blt,Je _,λx y c e1 e2=>I.ok.inj x y c (hc1 x c e1) (hc1 y c e2),λx h=>hc2 (x, .free) (PySem.mem_of_lookup (kf x h)) rfl,λx c h=>absurd h Ju,I.ok.hd,I.ok.frames, .inl rfl,
   λb hb=>⟨JK (hlt b hb),λx c e=>(hf b hb).2.2.2.2.1 x c (hc1 x c e)⟩,I.bs,JE I.ok.bsz I.sz,λb o e hb=> ?_,λb hb hz=> ?_,I.stack,I.stkFree⟩,
  rfl,I.bare,Un.kept hk,⟨m,hns,λi x v e1 e2 e3=> ?_⟩,λx c e=> ?_,I.hok.fresh (Je _),λx c e=>I.freeC x c (hc1 x c e),λp hp=>absurd hp (by simp [Cx.comp]),I.hok.kept hk,?_⟩
 ·rcases (hf b hb).2.2.2.1 with z|z
  ·exact I.ok.noex b o e z
  ·exact absurd (Jy (Qb e) (JE I.ok.bsz z)) (Nat.lt_irrefl _)
 ·rcases JD.mp (I.stkSub b hz) with z|z
  ·exact(hf b hb).2.1 z
  ·exact(hf b hb).2.2.1 z
 ·have e2':(xw σ n js)[i]? =some (some v):=e2;unfold xw at e2';by_cases hi:i<n
  ·rw[List.getElem?_append_left (by simpa using hi),List.getElem?_replicate,Jg hi] at e2';cases e2'
  ·rw[List.getElem?_append_right (by simpa using hi),List.length_replicate,Jh] at e2';cases ej:js[i - n]? with
   |none=>rw[ej] at e2';cases e2'
   |some j=>
    rw[ej,Option.map_some] at e2';have e4:(σ[j]?).join=some v:=JV e2';have e5:σ[j]? =some (some v):=by
     cases q:σ[j]? with
     |none=>rw[q] at e4;cases e4
     |some w=>rw[q] at e4;rw[show w=some v from e4]
    have e1':N[n+(i - n)]? =some x:=by rw[show n+(i - n)=i by omega];exact e1
    obtain⟨c1,c2,c3⟩:=k5 (i - n) j x ej e1';obtain⟨m',hn',hl'⟩:=I.loc;obtain⟨u,ru,lk⟩:=hl' j x v c1 e5 (.inr c2);refine⟨u,ru,?_⟩;rcases lk with⟨hk',_⟩|⟨_,c,hc,hcell⟩
    ·have hk'':X.env.scope.names.lookup x=some .local:=hk';rcases c2 with c2|c2<;>(rw[hk''] at c2;cases c2)
    ·obtain⟨c',hc'⟩:=hc2 (x, .free) (PySem.mem_of_lookup c3) rfl
     have:=hc1 x c' hc';rw[hc] at this;cases this;exact .inr ⟨bf x c3,c,hc',isC _ _ hcell⟩
 ·obtain⟨v,z⟩:=I.cell x c (hc1 x c e);exact⟨v,isC _ _ z⟩
 ·show (xw σ n js).length=N.length;unfold xw;rw[Jj,List.length_replicate,Ja,k1]
end
def PIf(X:Cx)(ifs:List Expr)(t:TT):Prop:=
 ∀(pins:List (Addr×Obj)) (s:Shared) (σ:St) (H:Hp) (Q:Bool->Hp->Prop),Inv X pins σ H s->t σ H Q->
  wpAny (model X.prog X.w) X.A (forIn ifs true λc r=>if r=true then do let ok<-isTrue c X.env (eval c X.env);pure (ForInStep.yield ok) else pure (ForInStep.yield r)) (TP X pins σ Q) X.xe s
def uR:TT:=λ_ H Q=>Q true H
theorem qM:PIf X [] uR:=λ_ _ _ H _ I h=>wpAny_tests_nil ⟨H,I,h⟩
theorem vw{c:Expr}{t:TT}(hc:PT X c t):PIf X [c] t:=λpins s σ H Q I h=>wpAny_tests_one (hc pins s σ H Q I h)
def vx(J:It)(σ0:St)(g:TG)(tc:TT)(te:TE)(l:Addr)(Q:VK)(H1:Hp):Prop:=
 ∃W:Nat->Nat->List V->Hp->Prop,(∃m,W 0 m [] (upd H1 l (.lst [])))/\ ∀i m xs H,W i m xs H->H l=some (.lst xs)/\xs.length<sizeLine/\
  ((J.stop i H/\Q (.ref l) H)\/(J.go i H/\ ∀x H',J.yld i H x H'->g x σ0 H' λσ2 H2=>Sub σ0 σ2/\tc σ2 H2 λb H3=>
   if b=true then te σ2 H3 λv H4=>H4 l=some (.lst xs)/\ ∃m',m'<m/\W (i+1) m' (xs++ [v]) (upd H4 l (.lst (xs++ [v]))) else∃m',m'<m/\W (i+1) m' xs H3))
section
variable {X:Cx} {tg elt iter:Expr} {ifs:List Expr} {scope:Scope} {pos:Pos} {N:List Str} {n:Nat} {js:List Nat} {g:CA->TG} {tc:CA->TT} {te:CA->TE}
theorem zf9{pins:List (Addr×Obj)}{σ:St}{H₁:Hp}{s₂:Shared}{E:Value->Shared->Prop}(cap:wS X.env.scope.names X.N scope.names N n js=true)(hkind:scope.kind= .function)(hcalm:X.calm=true)
  (hg: ∀a,PG (X.comp scope N a) tg (g a)) (hc: ∀a,PIf (X.comp scope N a) ifs (tc a)) (he: ∀a,PE (X.comp scope N a) elt (te a))
  (I:Inv X pins σ H₁ s₂) {it:Addr} {fp:List Addr} {tn:Nat->Heap->Prop} {J:It} (T:Turn X.prog X.w X.K tg J fp it tn) (h0:tn 0 s₂.heap) (hf: ∀b∈fp,xg X pins H₁ b)
  {cl:List (Str×Addr)} (hc1: ∀x c,cl.lookup x=some c->X.env.cells.lookup x=some c) (hc2: ∀p∈scope.names,p.2=NameKind.free-> ∃c,cl.lookup p.1=some c)
  {Q:VK} (hq: ∀l,H₁ l=none-> ∀a,vx J (xw σ n js) (g a) (tc a) (te a) l Q H₁)
  {RR:Value->Addr->Result->Shared->Prop}
  (hRR: ∀l C H' s' m,Inv X pins σ H' s'->s'.heap.Ns C m->H' C=none->C≠X.env.locals->X.s₀.heap.objs.size<=C->(∀x c,X.env.cells.lookup x=some c->c≠C)->(∀p∈X.pn++pins,p.1≠C)->C∉X.fs->Q (.ref l) H'->RR (.ref l) C (.ok .next) s'):
  wpAny (model X.prog X.w) X.A (newList []) (λacc s₃=>wpAny (model X.prog X.w) X.A (newFunctionEnv scope X.env.globals cl [] X.env.qual none .none (some X.env)) (λcenv s₄=>
   codeAny (model X.prog X.w) X.A (.compStart (.ListComp elt [⟨tg,iter,ifs,0⟩] scope pos) 0 (.ref it) acc {cenv with scope:=relabel scope X.env}) (RR acc cenv.locals) s₄) E s₃) E s₂:=by
 obtain⟨k1,k2,k3,k4,k5⟩:=ud cap;refine wpAny_newObj_type (wpAny_newFunctionEnv k2 (by intro y hy;simp at hy) (λh₁ hns₁ hsb₁=> ?_) hkind);dsimp only at hns₁ hsb₁ ⊢;obtain⟨s3,hs3⟩: ∃s3:Shared,s3={s₂ with heap:=s₂.heap.push {cls:= .type "list",dict:=none,data:= .seq ([]:List Value).toArray} }:=⟨_,rfl⟩
 have eh:s₂.heap.push {cls:= .type "list",dict:=none,data:= .seq ([]:List Value).toArray}=s3.heap:=by rw[hs3]
 rw[eh] at hns₁ hsb₁ ⊢;have kp3: ∀b o,s₂.heap.get? b=some o->s3.heap.get? b=some o:=λb o e=>by rw[<-eh];exact Qa _ e
 have hl0:H₁ s₂.heap.objs.size=none:=I.hok.fresh (Je _);have I3:Inv X pins σ (upd H₁ s₂.heap.objs.size (.lst [])) s3:=by
  rw[hs3];exact I.laid (t':=s₂.toks) (λb u e=>Qa _ e) (Je _) ⟨Jv _, [],0, .nil,Qc _ rfl⟩
 have fpo: ∀b∈fp,∃o,s₂.heap.get? b=some o:=λb hb=>let ⟨o,e,_⟩:=T.obj _ _ h0 b hb;⟨o,e⟩;have fpl: ∀b∈fp,b≠s₂.heap.objs.size:=λb hb z=>let ⟨o,e⟩:=fpo b hb;Nat.lt_irrefl _ (z ▸ Qb e);have hf3: ∀b∈fp,xg X pins (upd H₁ s₂.heap.objs.size (.lst [])) b:=λb hb=>⟨by rw[zu (fpl b hb)];exact(hf b hb).1,(hf b hb).2⟩
 have hlt3: ∀b∈fp,b<s3.heap.objs.size:=λb hb=>let ⟨o,e⟩:=fpo b hb;Qb (kp3 b o e);have kp1: ∀b o,s3.heap.get? b=some o->h₁.get? b=some o:=λb o e=>hsb₁.extBut b o (JK (Qb e)) (Qa _ e);have IC:=zls (t:=s3.toks) cap hkind I3 hc1 hc2 hf3 hlt3 hns₁ kp1;have hCl:X.env.locals<s3.heap.objs.size:=I3.lt;obtain⟨a,ha⟩: ∃a:CA,a=⟨cl,s3.heap.objs.size,s3,upd H₁ s₂.heap.objs.size (.lst []),fp⟩:=⟨_,rfl⟩
 rw[<-ha] at IC;have aC:a.C=s3.heap.objs.size:=by rw[ha]
 obtain⟨W,⟨m0,w0⟩,turn⟩:=hq _ hl0 a;have tn1:tn 0 h₁:=T.keep _ _ _ h0 λb _ o e=>kp1 b o (kp3 b o e);have stat: ∀{H':Hp},(∀b∈fp,H' b=none)-> ∀b∈fp,xg (X.comp scope N a) [] H' b:=fun {H'} hn b hb=>
  ⟨hn b hb,by show b≠a.C;rw[aC];exact JK (hlt3 b hb),λhz=>by
    rcases JD.mp (I3.stkSub b hz) with z|z
    ·exact(hf b hb).2.1 z
    ·exact(hf b hb).2.2.1 z, .inl (by show b∈a.fp;rw[ha];exact hb),λx c e=>(hf b hb).2.2.2.2.1 x c (hc1 x c (by rw[ha] at e;exact e)),λp hp=>absurd hp (by simp [Cx.comp])⟩
 have loop: ∀s4:Shared,s4={s3 with heap:=h₁,toks:=s3.toks}->
   codeAny (model X.prog X.w) X.A (.compLoop (.ListComp elt [⟨tg,iter,ifs,0⟩] scope pos) 0 (.ref it) (.ref s₂.heap.objs.size) (X.comp scope N a).env) (RR (.ref s₂.heap.objs.size) s3.heap.objs.size) s4:=by
  rintro s4 rfl;refine zhB (λk s'=> ∃i xs H',Inv (X.comp scope N a) [] (xw σ n js) H' s'/\tn i s'.heap/\(∀b∈fp,H' b=none)/\W i k xs H') ?_ m0 ⟨0, [],_,IC,tn1,λb hb=>(hf3 b hb).1,w0⟩;rintro k s5 ⟨i,xs,H5,I5,t5,f5,w5⟩;obtain⟨hl5,hz5,alt⟩:=turn i k xs H5 w5;rcases alt with⟨stop,qn⟩|⟨go,step⟩
  ·refine thn (T.done (X.comp scope N a) rfl rfl rfl hcalm i [] s5 _ H5 NoE I5 (stat f5) t5 stop) λr s6 ⟨hr,I6⟩=> ?_;subst hr;obtain⟨m6,hn6,_⟩:=I6.loc;have hn6':s6.heap.Ns s3.heap.objs.size m6:=by rw[<-aC];exact hn6
   have u6:Un (frs X.stack) fp (upd H₁ s₂.heap.objs.size (.lst [])) H5 s3.heap s6.heap:=by
    have z:=I6.base;rw[ha] at z;exact z
   have os6:s6.os=s3.os:=by
    have z:=I6.os;rw[ha] at z;exact z
   have I7:Inv X pins σ H5 s6:=I3.call' os6 u6 I6.hok I6.bare λb hb=>⟨(hf b hb).2.2.2.1,(hf b hb).2.1,(hf b hb).2.2.2.2.1,(hf b hb).2.2.2.2.2⟩
   refine hRR _ _ H5 s6 m6 I7 hn6' (by have z:=I6.free;rw[show (X.comp scope N a).env.locals=s3.heap.objs.size from aC] at z;exact z) (Nat.ne_of_gt hCl) I3.sz (λx c e z=> ?_) (λp hp z=> ?_) (I3.nofs (Je _)) qn
   ·obtain⟨v,q⟩:=I3.cell x c e;exact Nat.lt_irrefl _ (z ▸ q.lt)
   ·exact Nat.lt_irrefl _ (z ▸ Qb (I3.pin p hp).1)
  ·refine thn (T.item (X.comp scope N a) rfl rfl rfl hcalm i [] s5 _ H5 NoE I5 (stat f5) t5 go) λr s6 ⟨u,hr,h6⟩=> ?_;subst hr;refine thn h6 λ_ s7 ⟨x,H7,I7,r7,y7,t7,f7⟩=> ?_;have I7':=I7.pinned (stat f7) (T.obj _ _ t7);rw[List.nil_append] at I7';refine thn (hg a _ s7 _ H7 x u _ I7' r7 (step x H7 y7)) λ_ s8 ⟨σ8,H8,I8,sub8,q8⟩=> ?_;refine thn (hc a _ s8 σ8 H8 _ I8 q8) λok s9 ⟨H9,I9,q9⟩=> ?_;have back: ∀{σ':St} {H':Hp} {s':Shared},Inv (X.comp scope N a) (vZ fp s7.heap) σ' H' s'->Sub (xw σ n js) σ'->Inv (X.comp scope N a) [] (xw σ n js) H' s'/\tn (i+1) s'.heap/\ ∀b∈fp,H' b=none:=fun {σ' H' s'} I' sb=>by
    refine⟨(I'.pins_of λp hp=>absurd hp (by simp)).weak sb.1 sb.2,T.keep _ _ _ t7 λb hb o e=>(I'.pin (b,o) (List.mem_append_right _ (uK hb e))).1,λb hb=> ?_⟩;obtain⟨o,e,d⟩:=T.obj _ _ t7 b hb;exact(I'.pin (b,o) (List.mem_append_right _ (uK hb e))).2.1
   cases ok with
   |false=>
    obtain⟨m',lt,w'⟩:=q9;obtain⟨b1,b2,b3⟩:=back I9 sub8;exact⟨m',lt,i+1,xs,H9,b1,b2,b3,w'⟩
   |true=>
    refine thn (he a _ s9 σ8 H9 _ I9 q9) λy s10 ⟨v,H10,I10,r10,hl10,m',lt,w'⟩=> ?_;refine thn (qT (X:=X.comp scope N a) _ s10 σ8 H10 (.ref s₂.heap.objs.size) [v] _ [y] (λ_ H'=>H'=upd H10 s₂.heap.objs.size (.lst (xs++ [v]))) I10 rfl (.cons r10 .nil) ⟨_,xs,v,rfl,rfl,hl10,hz5,rfl⟩) λ_ s11 ⟨_,H11,I11,_,e11⟩=> ?_;subst e11;obtain⟨b1,b2,b3⟩:=back I11 sub8;exact⟨m',lt,i+1,_,_,b1,b2,b3,w'⟩
 have eE:{newEnv scope s3.heap.objs.size X.env.globals cl X.env.qual none Value.none (some X.env) builtinsNs with scope:=relabel scope X.env}=(X.comp scope N a).env:=by rw[ha];rfl
 have lp:=loop _ rfl;rw[<-eE] at lp;have sf:=T.self X.A 0 {s3 with heap:=h₁,toks:=s3.toks} (λit' s'=>codeAny (model X.prog X.w) X.A (.compLoop (.ListComp elt [⟨tg,iter,ifs,0⟩] scope pos) 0 it' (.ref s₂.heap.objs.size) {newEnv scope s3.heap.objs.size X.env.globals cl X.env.qual none Value.none (some X.env) builtinsNs with scope:=relabel scope X.env}) (RR (.ref s₂.heap.objs.size) s3.heap.objs.size) s')
  (notedBy (model X.prog X.w) X.A {newEnv scope s3.heap.objs.size X.env.globals cl X.env.qual none Value.none (some X.env) builtinsNs with scope:=relabel scope X.env} λx s'=>RR (.ref s₂.heap.objs.size) s3.heap.objs.size (.error x) s') tn1 lp
 have fin:=codeAny_compStart_list lp sf;rw[hs3] at fin ⊢;exact fin
def qk(n:Nat)(js:List Nat)(wi:TI)(g:CA->TG)(tc:CA->TT)(te:CA->TE):TE:=λσ H Q=>wi σ H λJ H1=> ∀l,H1 l=none-> ∀a:CA,vx J (xw σ n js) (g a) (tc a) (te a) l Q H1
theorem zdW(cap:wS X.env.scope.names X.N scope.names N n js=true)(I:Inv X pins σ H s):
  ∃cl,closureFor scope X.env=pure cl/\(∀x c,cl.lookup x=some c->X.env.cells.lookup x=some c)/\ ∀p∈scope.names,p.2=NameKind.free-> ∃c,cl.lookup p.1=some c:=
 ziG λp hp e=>I.ok.has p.1 ((ud cap).2.2.2.1 p hp e).2
theorem qG(cap:wS X.env.scope.names X.N scope.names N n js=true)(hkind:scope.kind= .function)(hcalm:X.calm=true)(hi:PI X tg iter wi)
  (hg: ∀a,PG (X.comp scope N a) tg (g a)) (hc: ∀a,PIf (X.comp scope N a) ifs (tc a)) (he: ∀a,PE (X.comp scope N a) elt (te a))
  (hs: ∀x,foldedSetIterable iter X.env x=pure x:=by intro _;rfl):PE X (.ListComp elt [⟨tg,iter,ifs,0⟩] scope pos) (qk n js wi g tc te):=by
 intro pins s σ H Q I h;obtain⟨cl,hclos,hc1,hc2⟩:=zdW cap I;rw[eval_ListComp];refine wpAny_comprehension_free (use:=none) rfl hs hclos hkind (ud cap).2.2.1 (thn (hi pins s σ H _ I h) λv s1 h1=>thn h1 λitv s2 h2=> ?_);obtain⟨it,fp,tn,J,H2,rfl,I2,T,st2,f2,q⟩:=h2;refine zf9 (RR:=λacc C=>compPost (model X.prog X.w) X.A X.xe none (EP X pins σ Q) acc C) cap hkind hcalm hg hc he I2 T st2 f2 hc1 hc2 q ?_;intro l C H' s' m I' hn hC hL hs0 hcell hpin hfs hq;exact⟨m,hn,λh' hsb=>⟨.ref l,H',I'.turned (t':=s'.toks) (λb o hb e=>(hsb.2 b hb).trans e) hC hL (.inr hs0) hcell hpin,rfl,hq⟩⟩
theorem ue{i:Nat}{y:Str}{py spos:Pos}(hN:X.N.Nodup)(hi:X.N[i]? =some y)(hy:X.env.scope.names.lookup y=some .local)(cap:wS X.env.scope.names X.N scope.names N n js=true)(hkind:scope.kind= .function)(hcalm:X.calm=true)(hw:PI X tg iter wi)
  (hg: ∀a,PG (X.comp scope N a) tg (g a)) (hc: ∀a,PIf (X.comp scope N a) ifs (tc a)) (he: ∀a,PE (X.comp scope N a) elt (te a))
  (hsw:swapsWith (.ListComp elt [⟨tg,iter,ifs,0⟩] scope pos) (some (.Name y py)) spos.line X.env=pure true:=by rfl)
  (hs: ∀x,foldedSetIterable iter X.env x=pure x:=by intro _;rfl):PS X (.Assign [.Name y py] (.ListComp elt [⟨tg,iter,ifs,0⟩] scope pos) spos) (vY (qk n js wi g tc te) (xE i)):=by
 intro pins s σ H D I h;obtain⟨cl,hclos,hc1,hc2⟩:=zdW cap I;rw[exec_Assign_Name_used _ _ _ _ hsw];refine JW (wpAny_standAt (JW ?_));show wpAny _ X.A (do let _<-comprehension (.ListComp elt [⟨tg,iter,ifs,0⟩] scope pos) scope X.env _ (newList []) false (eval iter X.env) (some (assign (.Name y py) X.env))) _ _ s;refine JW (wpAny_mono (wpAny_comprehension_free (use:=some (assign (.Name y py) X.env)) (Q:=λ_ s'=>SP X pins D .next s') rfl hs hclos hkind (ud cap).2.2.1
  (thn (hw pins s σ H _ I h) λv s1 h1=>thn h1 λitv s2 h2=> ?_)) (λ_ s' hq=>JX (JX hq)) λ_ _ e=>e)
 obtain⟨it,fp,tn,J,H2,rfl,I2,T,st2,f2,q⟩:=h2;refine zf9 (Q:=λx H1=>D.nx (σ.set i (some x)) H1) (RR:=λacc C=>compPost (model X.prog X.w) X.A X.xe (some (assign (.Name y py) X.env)) (λ_ s'=>SP X pins D .next s') acc C) cap hkind hcalm hg hc he I2 T st2 f2 hc1 hc2 q ?_;intro l C H' s' m I' hn hC hL hs0 hcell hpin hfs hq;show wpAny _ X.A (assign (.Name y py) X.env (.ref l)) _ _ _;refine wpAny_assign_Name (zfZ I' hN hi (.inl hy) (v:= .ref l) rfl (λs3 I3 hsb=> ?_) (.inr hy));obtain⟨b,hsb,hb⟩:=hsb;have nb:C≠b:=by
  rcases hb with rfl|hb
  ·exact hL
  ·exact λz=>hcell y b hb z.symm
 refine⟨m,hn.sameBut hsb nb,λh' hsb'=> ?_⟩;exact⟨σ.set i (some (.ref l)),H',I3.turned (t':=s3.toks) (λc o hc e=>(hsb'.2 c hc).trans e) hC hL (.inr hs0) hcell hpin,hq⟩
end
structure Lists (J:It) (H1:Hp) (ys:List V):Prop where
 go: ∀i H,zh H1 H->i<ys.length->J.go i H
 stop: ∀H,zh H1 H->J.stop ys.length H
 yld: ∀i H x H',zh H1 H->J.yld i H x H'->i<ys.length->H'=H/\ys[i]? =some x
theorem qV{H1:Hp}{ys:List V}(h:SqL K H1 a ys):Lists (Itl K a) H1 ys where
 go:=λi H sm hi=>⟨ys,ys[i],sm.seq h,Jb hi⟩
 stop:=λH sm=>⟨ys,sm.seq h,Je _⟩
 yld:=λi H x H' sm ⟨e,y⟩ _=>⟨e,y ys (sm.seq h)⟩
def rng(lo:Int)(n:Nat):List V:=(List.range n).map λ(i:Nat)=>V.int (lo+i)
theorem qH(lo:Int)(n:Nat):(rng lo n).length=n:=by unfold rng;rw[Ja,JI]
theorem uf{lo:Int}{i:Nat}(h:i<n):(rng lo n)[i]? =some (.int (lo+i)):=by
 unfold rng;rw[Jh,List.getElem?_range h];rfl
theorem uS(lo:Int)(n:Nat)(H1:Hp):Lists (Itr lo n) H1 (rng lo n) where
 go:=λi H _ hi=>by rw[qH] at hi;exact hi
 stop:=λH _=>by rw[qH];exact Je _
 yld:=λi H x H' _ ⟨e,y⟩ hi=>⟨e,by rw[qH] at hi;rw[uf hi,y]⟩
def Sm(i:Int):Prop:=i.natAbs<2 ^ 3000
theorem Sm.bits(h:Sm i):Builtin.Int.intBits i<=2 ^ 20:=by
 unfold Builtin.Int.intBits;by_cases z:i.natAbs=0
 ·obtain rfl:i=0:=by omega
  decide
 ·have q:i.natAbs.log2<3000:=(Nat.log2_lt z).mpr h;have e:(2:Nat) ^ 20=1048576:=by decide
  split<;>omega
theorem Sm.log(h:Sm i):i.natAbs.log2<9000:=by
 by_cases z:i.natAbs=0
 ·rw[z];decide
 ·have q:i.natAbs.log2<3000:=(Nat.log2_lt z).mpr h;omega
theorem Sm.pow10{k:Nat}(hk:k<=700)(h:i.natAbs<=10 ^ k):Sm i:=by
 refine Nat.lt_of_le_of_lt h ?_;refine Nat.lt_of_le_of_lt (Nat.pow_le_pow_left (show 10<=2 ^ 4 by decide) k) ?_;rw[<-Nat.pow_mul];exact Nat.pow_lt_pow_right 'd' 'o'
theorem Sm.small(h0: -1000000000000000000<=i)(h1:i<=1000000000000000000):Sm i:=by
 refine Sm.pow10 (k:=18) 'd' ?_;have e:(10:Nat) ^ 18=1000000000000000000:=by decide
 omega
section
variable {X:Cx}
theorem znK:OpR X (binaryOp .Mult) (rI (λi j=>vn i j\/(Sm i/\Sm j)) λi j=> .int (i*j)):=opI λ_ _ _ _ _ _ _ hc q=>mul_int q (by
 rcases hc with hc|⟨h1,h2⟩
 ·exact hc.ok
 ·exact IntMulOk.of_bits h1.bits h2.bits)
theorem zlt:OpR X (binaryOp .FloorDiv) (rI (λ_ j=>0<j/\Sm j) λi j=> .int (i / j)):=opI λi j _ _ _ _ _ hc q=>by
 have h1:(0:Int)<j:=hc.1;exact floordiv_int 'o' (by rw[Int.fdiv_eq_ediv_of_nonneg i 'o'];exact q) (.inl (PyProof.noPylong_of_log2 hc.2.log))
theorem xT:bootBuiltins "sum"=some (.builtin "sum"):=by decide+kernel
theorem uT:bootBuiltins "sorted"=some (.builtin "sorted"):=by decide+kernel
theorem kU(ns:List Int): ∀k,k<=ns.length->PySem.preSum (λi=>ns.getD i 0) k=(ns.take k).sum
 |0,_=>rfl
 |k+1,h=>by
  show PySem.preSum (λi=>ns.getD i 0) k+ns.getD k 0=_;rw[kU ns k 'o',JH,List.sum_append,Jo,Jb 'o'];simp
theorem wx(hc:X.calm=true):yM X (.builtin "sum") (λxs H Q=> ∃(p:Addr) (ns:List Int),xs= [.ref p]/\SqL X.K H p (ns.map V.int)/\Q (.int ns.sum) H):=by
 intro pins s σ H xs us Q I r h;obtain⟨p,ns,rfl,hq,q⟩:=h;obtain⟨u,rfl,ru⟩:=qS r;obtain rfl:u=Value.ref p:=ru;obtain⟨its,rv,pl,hz⟩:=I.list hq;have hl:ns.length=its.length:=by rw[<-rv.length,Ja]
 obtain⟨o0,n0,e0,_⟩:=id pl;have ne:p≠s.heap.objs.size:=JK (Qb e0);refine call_sum_walkG (wpAny_pyIter_list pl.isList ?_);refine⟨s.heap.objs.size,_,_,_,_,_,λi=>ns.getD i 0,rfl,Walks.list (show X.A.in1.handled=none from I.ok.hd hc) s.heap.objs.size p ne its.toArray,⟨⟨_,Qc _ rfl,rfl,rfl⟩,?_⟩,?_,?_,λh' tk t' hk=> ?_⟩
 ·exact pl.isList.at λo e=>Qa _ e
 ·intro b hb;have hb':b=s.heap.objs.size\/b=p:=by simpa using hb
  show b<(s.heap.push _).objs.size;rw[Heap.size_push];rcases hb' with rfl|rfl
  ·exact Nat.lt_succ_self _
  ·exact Nat.lt_succ_of_lt (Qb e0)
 ·intro i v hv;have hi:its[i]? =some v:=by simpa using hv
  obtain⟨hlt,_⟩:=Jc.mp hi;have hb:(ns.map V.int)[i]? =some (.int ns[i]):=by rw[Jh,Jb 'o'];rfl
  obtain⟨u',e',t,rfl⟩:=rv.get hb;rw[hi] at e';cases e';have z:ns.getD i 0=ns[i]:=by rw[Jo,Jb 'o'];rfl
  exact⟨t,by show Value.int ns[i] t=Value.int (ns.getD i 0) t;rw[z]⟩
 ·have e:PySem.preSum (λi=>ns.getD i 0) its.toArray.size=ns.sum:=by rw[Jn,<-hl,kU ns _ (Je _),JC]
  rw[e];refine⟨.int _,H,I.kept (t':=tk) λb o hb=>hk b o (λz=> ?_) (Qa _ hb),⟨_,rfl⟩,q⟩;have z':b=s.heap.objs.size:=by simpa using z
  exact absurd (z' ▸ Qb hb) (Nat.lt_irrefl _)
end
inductive D where
 |non
 |bl (b:Bool)
 |int (i:Int)
 |str (cs:List Nat)
 |tup (ds:List D)
 |lst (ds:List D)
def all2(f:D->V->Prop):List D->List V->Prop
 | [], []=>True
 |d::ds,x::xs=>f d x/\all2 f ds xs
 |_,_=>False
def Dp(K:Fg)(H:Hp):Nat->D->V->Prop
 |_, .non,v=>v= .non
 |_, .bl b,v=>v= .bl b
 |_, .int i,v=>v= .int i
 |_, .str cs,v=>v= .str (SL cs)
 |n+1, .tup ds,v=> ∃a xs,v= .ref a/\SqT K H a xs/\all2 (Dp K H n) ds xs
 |n+1, .lst ds,v=> ∃a xs,v= .ref a/\SqL K H a xs/\all2 (Dp K H n) ds xs
 |0, .tup _,_=>False
 |0, .lst _,_=>False
def qW(f:D->D->Bool):List D->List D->Bool
 | [], []=>true
 |a::r,b::t=>f a b && qW f r t
 |_,_=>false
def eqb:Nat->D->D->Bool
 |_, .non, .non=>true
 |_, .bl a, .bl b=>a==b
 |_, .bl a, .int b=>(if a then 1 else 0)==b
 |_, .int a, .bl b=>a==(if b then 1 else 0)
 |_, .int a, .int b=>a==b
 |_, .str a, .str b=>a==b
 |n+1, .tup a, .tup b=>qW (eqb n) a b
 |n+1, .lst a, .lst b=>qW (eqb n) a b
 |_,_,_=>false
def xU:D->Bool
 | .tup _=>true
 | .lst _=>true
 |_=>false
def yJ:Nat->D->D->Prop
 |n+1, .tup a, .tup b=> ∀(j:Nat) (x y:D),a[j]? =some x->b[j]? =some y->yJ n x y
 |n+1, .lst a, .lst b=> ∀(j:Nat) (x y:D),a[j]? =some x->b[j]? =some y->yJ n x y
 |_,a,b=>xU a=false/\xU b=false
theorem qN{f:D->V->Prop}: ∀{ds:List D} {xs:List V},all2 f ds xs->ds.length=xs.length
 | [], [],_=>rfl
 |_::_,_::_,h=>by rw[Jp,Jp,qN h.2]
 | [],_::_,h=>h.elim
 |_::_, [],h=>h.elim
theorem vy{f:D->V->Prop}: ∀{ds:List D} {xs:List V} {j:Nat} {d:D} {x:V},all2 f ds xs->ds[j]? =some d->xs[j]? =some x->f d x
 | [], [],_,_,_,_,h,_=>by simp at h
 |a::r,b::t,0,d,x,h,h1,h2=>by
  simp at h1 h2;rw[<-h1,<-h2];exact h.1
 |a::r,b::t,j+1,d,x,h,h1,h2=>vy h.2 (by simpa using h1) (by simpa using h2)
 | [],_::_,_,_,_,h,_,_=>h.elim
 |_::_, [],_,_,_,h,_,_=>h.elim
theorem kW{f:D->D->Bool}: ∀{ds:List D},(∀d∈ds,f d d=true)->qW f ds ds=true
 | [],_=>rfl
 |d::r,h=>by
  unfold qW;rw[h d Jq,kW λx hx=>h x (Jl _ hx)];rfl
theorem uU{f:D->V->Prop}(h:all2 f ds xs){d:D}(hd:d∈ds): ∃x,f d x:=by
 obtain⟨j,hj,rfl⟩:=List.getElem_of_mem hd;have hl:=qN h;exact⟨xs[j],vy h (Jb hj) (Jb 'o')⟩
theorem ug{K:Fg}{H:Hp}: ∀{n:Nat} {d:D} {v:V},Dp K H n d v->eqb n d d=true
 |_, .non,_,_=>by unfold eqb;rfl
 |_, .bl _,_,_=>by unfold eqb;simp
 |_, .int _,_,_=>by unfold eqb;simp
 |_, .str _,_,_=>by unfold eqb;simp
 |n+1, .tup ds,v,h=>by
  unfold Dp at h;obtain⟨a,xs,e,hq,hs⟩:=h;unfold eqb;exact kW λd hd=>let ⟨x,hx⟩:=uU hs hd;ug hx
 |n+1, .lst ds,v,h=>by
  unfold Dp at h;obtain⟨a,xs,e,hq,hs⟩:=h;unfold eqb;exact kW λd hd=>let ⟨x,hx⟩:=uU hs hd;ug hx
 |0, .tup _,_,h=>by unfold Dp at h;exact h.elim
 |0, .lst _,_,h=>by unfold Dp at h;exact h.elim
theorem uV{K:Fg}{H:Hp}: ∀{n:Nat} {d:D} {v:V},Dp K H n d v->yJ n d d
 |0, .non,_,_=>⟨rfl,rfl⟩
 |0, .bl _,_,_=>⟨rfl,rfl⟩
 |0, .int _,_,_=>⟨rfl,rfl⟩
 |0, .str _,_,_=>⟨rfl,rfl⟩
 |_+1, .non,_,_=>⟨rfl,rfl⟩
 |_+1, .bl _,_,_=>⟨rfl,rfl⟩
 |_+1, .int _,_,_=>⟨rfl,rfl⟩
 |_+1, .str _,_,_=>⟨rfl,rfl⟩
 |n+1, .tup ds,v,h=>by
  unfold Dp at h;obtain⟨a,xs,e,hq,hs⟩:=h;intro j x y h1 h2;rw[h1] at h2;cases h2;obtain⟨z,hz⟩:=uU hs (Ji h1);exact uV hz
 |n+1, .lst ds,v,h=>by
  unfold Dp at h;obtain⟨a,xs,e,hq,hs⟩:=h;intro j x y h1 h2;rw[h1] at h2;cases h2;obtain⟨z,hz⟩:=uU hs (Ji h1);exact uV hz
 |0, .tup _,_,h=>by unfold Dp at h;exact h.elim
 |0, .lst _,_,h=>by unfold Dp at h;exact h.elim
def sc:D->Option V
 | .non=>some .non
 | .bl b=>some (.bl b)
 | .int i=>some (.int i)
 | .str cs=>some (.str (SL cs))
 |_=>none
theorem Dp.sc{K:Fg}{H:Hp}{n:Nat}{d:D}{v x:V}(h:sc d=some x):Dp K H n d v=(v=x):=by
 cases d with
 |non=>cases h;unfold Dp;rfl
 |bl b=>cases h;unfold Dp;rfl
 |int i=>cases h;unfold Dp;rfl
 |str cs=>cases h;unfold Dp;rfl
 |tup ds=>cases h
 |lst ds=>cases h
theorem Dp.flat{d:D}(h:Dp K H 0 d v): ∃x,L2.sc d=some x:=by
 cases d with
 |tup ds=>unfold Dp at h;exact h.elim
 |lst ds=>unfold Dp at h;exact h.elim
 |_=>exact⟨_,rfl⟩
theorem Dp.isRef{d:D}(h:L2.sc d=none)(p:Dp K H n d v): ∃a,v= .ref a:=by
 cases d with
 |tup ds=>
  cases n with
  |zero=>unfold Dp at p;exact p.elim
  |succ n=>unfold Dp at p;obtain⟨a,_,e,_⟩:=p;exact⟨a,e⟩
 |lst ds=>
  cases n with
  |zero=>unfold Dp at p;exact p.elim
  |succ n=>unfold Dp at p;obtain⟨a,_,e,_⟩:=p;exact⟨a,e⟩
 |non=>cases h
 |bl _=>cases h
 |int _=>cases h
 |str _=>cases h
theorem sc_ref{d:D}(h:sc d=some x):x≠ .ref a:=by
 cases d<;>cases h<;>(intro z;cases z)
theorem sc_flat{d:D}(h:sc d=some x):xu x=true:=by
 cases d<;>cases h<;>rfl
theorem sc_inj{d:D}(h:sc d=some x)(g:sc e=some x):d=e:=by
 cases d<;>cases h<;>cases e<;>first
  |rfl
  |(cases g;rfl)
  |cases g
  |(have z:=V.str.inj (JV g)
    rw[ww] at z;rw[z])
theorem zlu{d:D}(h:sc d=some x)(g:sc e=none): ¬yJ n d e:=by
 intro c;cases n<;>cases d<;>cases h<;>cases e<;>first
  |(unfold yJ at c;obtain⟨_,z⟩:=c;cases z;done)
  |(cases g;done)
theorem zlv{d:D}(h:sc d=none)(g:sc e=some x): ¬yJ n d e:=by
 intro c;cases n<;>cases e<;>cases g<;>cases d<;>first
  |(unfold yJ at c;obtain⟨z,_⟩:=c;cases z;done)
  |(cases h;done)
theorem zpg(a b:List Nat):(SL a==SL b)=(a==b):=by
 rw[Bool.eq_iff_iff,beq_iff_eq,beq_iff_eq,ww]
theorem zlw{d:D}(h:sc d=some x)(g:sc e=some y):eqb n d e=eqV x y:=by
 cases d<;>cases h<;>cases e<;>cases g<;>(unfold eqb eqV)<;>first
  |rfl
  |exact(zpg _ _).symm
section
variable {X:Cx} {pins:List (Addr×Obj)} {σ:St} {H:Hp} {s:Shared}
theorem zhC(I:Inv X pins σ H s){ys:List V}(h:SqT X.K H a xs)(g:SqL X.K H a ys):False:=by
 obtain⟨i1,_,⟨o1,e1,c1,_⟩,_⟩:=I.tuple h;obtain⟨i2,_,⟨o2,n2,e2,c2,_⟩,_⟩:=I.list g;rw[e1] at e2;cases e2;rw[c1] at c2;revert c2
 simp
theorem kX{f g:D->V->Prop}: ∀{ds es:List D} {xs:List V},(∀d∈ds,∀e x,f d x->g e x->d=e)->all2 f ds xs->all2 g es xs->ds=es
 | [], [], [],_,_,_=>rfl
 |d::r,e::t,x::z,h,p,q=>by rw[h d Jq e x p.1 q.1,kX (λd hd=>h d (Jl _ hd)) p.2 q.2]
 | [],_::_, [],_,_,q=>q.elim
 | [],_::_,_::_,_,p,_=>p.elim
 |_::_, [], [],_,p,_=>p.elim
 |_::_, [],_::_,_,_,q=>q.elim
 |_::_,_::_, [],_,p,_=>p.elim
 | [], [],_::_,_,p,_=>p.elim
theorem Dp.det(I:Inv X pins σ H s): ∀{n:Nat} {d e:D} {v:V},Dp X.K H n d v->Dp X.K H n e v->d=e:=by
 intro n;induction n with
 |zero=>
  intro d e v p q;obtain⟨x,hx⟩:=Dp.flat p;obtain⟨y,hy⟩:=Dp.flat q;rw[Dp.sc hx] at p;rw[Dp.sc hy] at q;exact sc_inj hx (by rw[hy,<-q,p])
 |succ n ih=>
  intro d e v p q;cases hx:L2.sc d with
  |some x=>
   rw[Dp.sc hx] at p;cases hy:L2.sc e with
   |some y=>
    rw[Dp.sc hy] at q;exact sc_inj hx (by rw[hy,<-q,p])
   |none=>
    obtain⟨a,e2⟩:=Dp.isRef hy q;exact absurd (p.symm.trans e2) (sc_ref hx)
  |none=>
   cases hy:L2.sc e with
   |some y=>
    rw[Dp.sc hy] at q;obtain⟨a,e2⟩:=Dp.isRef hx p;exact absurd (q.symm.trans e2) (sc_ref hy)
   |none=>
    cases d with
    |tup ds=>
     unfold Dp at p;obtain⟨a,xs,rfl,h1,p⟩:=p;cases e with
     |tup es=>
      unfold Dp at q;obtain⟨b,ys,eb,h2,q⟩:=q;cases eb;have exy:=I.tuple_inj h1 h2;subst exy;exact congrArg D.tup (kX (f:=Dp X.K H n) (g:=Dp X.K H n) (λd _ e x p q=>ih p q) p q)
     |lst es=>
      unfold Dp at q;obtain⟨b,ys,eb,h2,q⟩:=q;cases eb;exact(zhC I h1 h2).elim
     |non=>cases hy
     |bl _=>cases hy
     |int _=>cases hy
     |str _=>cases hy
    |lst ds=>
     unfold Dp at p;obtain⟨a,xs,rfl,h1,p⟩:=p;cases e with
     |lst es=>
      unfold Dp at q;obtain⟨b,ys,eb,h2,q⟩:=q;cases eb;have exy:=I.list_inj h1 h2;subst exy;exact congrArg D.lst (kX (f:=Dp X.K H n) (g:=Dp X.K H n) (λd _ e x p q=>ih p q) p q)
     |tup es=>
      unfold Dp at q;obtain⟨b,ys,eb,h2,q⟩:=q;cases eb;exact(zhC I h2 h1).elim
     |non=>cases hy
     |bl _=>cases hy
     |int _=>cases hy
     |str _=>cases hy
    |non=>cases hx
    |bl _=>cases hx
    |int _=>cases hx
    |str _=>cases hx
theorem uW: ∀(ds es:List D),((List.range (min ds.length es.length)).all (λj=>eqb n (ds.getD j .non) (es.getD j .non)) && ds.length==es.length)=qW (eqb n) ds es:=by
 intro ds es;rw[Bool.eq_iff_iff,Bool.and_eq_true,List.all_eq_true,beq_iff_eq];induction ds generalizing es with
 |nil=>
  cases es with
  |nil=>simp [qW]
  |cons e t=>simp [qW]
 |cons d r ih=>
  cases es with
  |nil=>simp [qW]
  |cons e t=>
   unfold qW;rw[Bool.and_eq_true,<-ih t];constructor
   ·rintro⟨h,hl⟩;refine⟨by simpa using h 0 (List.mem_range.mpr (by simp)),λj hj=> ?_,by simpa using hl⟩
    have:=h (j+1) (List.mem_range.mpr (by rw[Jp,Jp];have:=List.mem_range.mp hj;omega));simpa using this
   ·rintro⟨h0,h,hl⟩;refine⟨λj hj=> ?_,by simpa using hl⟩;cases j with
    |zero=>simpa using h0
    |succ j=>
     have hj':=List.mem_range.mp hj;rw[Jp,Jp] at hj';simpa using h j (List.mem_range.mpr 'o')
theorem wy{its:List Value}(h:all2 (Dp X.K H n) ds xs)(r:zw xs its)(j:Nat)(hj:j<its.toArray.size): ∃x,ds[j]? =some (ds.getD j .non)/\Dp X.K H n (ds.getD j .non) x/\zt x its.toArray[j]:=by
 have hl:=qN h;have hr:=r.length;have hj':j<its.length:=by simpa using hj
 have e1:ds[j]? =some (ds.getD j .non):=by
  rw[Jo,Jb 'o'];rfl
 have e2:xs[j]? =some xs[j]:=Jb 'o';obtain⟨u,eu,ru⟩:=r.get e2;refine⟨xs[j],e1,vy h e1 e2,?_⟩;rw[Jb hj'] at eu;rw[List.getElem_toArray];rw[JV eu];exact ru
theorem kY(I:Inv X pins σ H s): ∀{n:Nat} {d e:D} {v w:V} {u u':Value} {A:Around},yJ n d e->Dp X.K H n d v->Dp X.K H n e w->zt v u->zt w u'->A.units+n<cLine->SeqAt.EqAt A s u u' (eqb n d e):=by
 intro n;induction n with
 |zero=>
  intro d e v w u u' A c p q rv rw' hu;obtain⟨x,hx⟩:=Dp.flat p;obtain⟨y,hy⟩:=Dp.flat q;rw[Dp.sc hx] at p;rw[Dp.sc hy] at q;subst p q;rw[zlw hx hy];exact kL rv rw' (sc_flat hx) (sc_flat hy)
 |succ n ih=>
  intro d e v w u u' A c p q rv rw' hu;cases hx:L2.sc d with
  |some x=>
   cases hy:L2.sc e with
   |some y=>
    rw[Dp.sc hx] at p;rw[Dp.sc hy] at q;subst p q;rw[zlw hx hy];exact kL rv rw' (sc_flat hx) (sc_flat hy)
   |none=>exact absurd c (zlu hx hy)
  |none=>
   cases hy:L2.sc e with
   |some y=>exact absurd c (zlv hx hy)
   |none=>
    by_cases same:v=w
    ·subst same;have ed:=Dp.det I p q;subst ed;rw[ug p];have eu:u=u':=by
      obtain⟨a,rfl⟩:=Dp.isRef hx p;cases rv;cases rw';rfl
     subst eu;exact SeqAt.EqAt.same _
    ·cases d with
     |tup ds=>
      cases e with
      |tup es=>
       unfold Dp at p q;obtain⟨a,xs,rfl,h1,p⟩:=p;obtain⟨b,ys,rfl,h2,q⟩:=q;cases rv;cases rw';obtain⟨i1,r1,t1,_⟩:=I.tuple h1;obtain⟨i2,r2,t2,_⟩:=I.tuple h2;have l1:=qN p;have l2:=qN q;have l3:=r1.length;have l4:=r2.length;refine SeqAt.EqAt.of_refs (λz=>same (by rw[z])) ?_;have fin:=SeqAt.RcAt.tuples (A:=A) (e:=λj=>eqb n (ds.getD j .non) (es.getD j .non)) t1 t2 'o' (λj j1 j2=> ?_)
       ·rw[Jn,Jn,show i1.length=ds.length by omega,show i2.length=es.length by omega,uW] at fin;unfold eqb;exact fin
       ·obtain⟨x,g1,d1,f1⟩:=wy p r1 j j1;obtain⟨y,g2,d2,f2⟩:=wy q r2 j j2;exact ih (c j _ _ g1 g2) d1 d2 f1 f2 (by show A.units+1+n<cLine;omega)
      |lst es=>exact absurd c (by unfold yJ;simp [xU])
      |non=>cases hy
      |bl _=>cases hy
      |int _=>cases hy
      |str _=>cases hy
     |lst ds=>
      cases e with
      |lst es=>
       unfold Dp at p q;obtain⟨a,xs,rfl,h1,p⟩:=p;obtain⟨b,ys,rfl,h2,q⟩:=q;cases rv;cases rw';obtain⟨i1,r1,t1,_⟩:=I.list h1;obtain⟨i2,r2,t2,_⟩:=I.list h2;have l1:=qN p;have l2:=qN q;have l3:=r1.length;have l4:=r2.length;refine SeqAt.EqAt.of_refs (λz=>same (by rw[z])) ?_;have r0:=uW (n:=n) ds es;unfold eqb;by_cases hs:i1.length=i2.length
       ·have fin:=SeqAt.RcAt.lists (A:=A) (e:=λj=>eqb n (ds.getD j .non) (es.getD j .non)) t1.isList t2.isList (by simpa using hs) 'o' (λj j1 j2=> ?_)
        ·have e1:ds.length=es.length:=by omega
         rw[<-e1,Nat.min_self,beq_self_eq_true,Bool.and_true] at r0;rw[Jn,show i1.length=ds.length by omega,r0] at fin;exact fin
        ·obtain⟨x,g1,d1,f1⟩:=wy p r1 j j1;obtain⟨y,g2,d2,f2⟩:=wy q r2 j j2;exact ih (c j _ _ g1 g2) d1 d2 f1 f2 (by show A.units+1+n<cLine;omega)
       ·have fin:=SeqAt.RcAt.lists_lengths (A:=A) t1.isList t2.isList (by simpa using hs) 'o';have z:(ds.length==es.length)=false:=by
         rw[beq_eq_false_iff_ne];omega
        rw[z,Bool.and_false] at r0;rw[<-r0];exact fin
      |tup es=>exact absurd c (by unfold yJ;simp [xU])
      |non=>cases hy
      |bl _=>cases hy
      |int _=>cases hy
      |str _=>cases hy
     |non=>cases hx
     |bl _=>cases hx
     |int _=>cases hx
     |str _=>cases hx
theorem zga(I:Inv X pins σ H s){d:D}{w:V}{u u':Value}(c:yJ (n+1) d e)(p:Dp X.K H (n+1) d v)(q:Dp X.K H (n+1) e w)(hx:sc d=none)(hy:sc e=none)(rv:zt v u)(rw':zt w u')(hu:A.units+(n+1)<cLine):
  SeqAt.RcAt A s u u' (eqb (n+1) d e)/\SeqAt.RcNeAt A s u u' (!eqb (n+1) d e):=by
 cases d with
 |tup ds=>
  cases e with
  |tup es=>
   unfold Dp at p q;obtain⟨a,xs,rfl,h1,p⟩:=p;obtain⟨b,ys,rfl,h2,q⟩:=q;cases rv;cases rw';obtain⟨i1,r1,t1,_⟩:=I.tuple h1;obtain⟨i2,r2,t2,_⟩:=I.tuple h2;have l1:=qN p;have l2:=qN q;have l3:=r1.length;have l4:=r2.length;have el: ∀j (j1:j<i1.toArray.size) (j2:j<i2.toArray.size),SeqAt.EqAt A.in1 s i1.toArray[j] i2.toArray[j] (eqb n (ds.getD j .non) (es.getD j .non)):=λj j1 j2=>by
    obtain⟨x,g1,d1,f1⟩:=wy p r1 j j1;obtain⟨y,g2,d2,f2⟩:=wy q r2 j j2;exact kY I (c j _ _ g1 g2) d1 d2 f1 f2 (by show A.units+1+n<cLine;omega)
   have f1:=SeqAt.RcAt.tuples (A:=A) (e:=λj=>eqb n (ds.getD j .non) (es.getD j .non)) t1 t2 'o' el;have f2:=SeqAt.RcNeAt.tuples (A:=A) (e:=λj=>eqb n (ds.getD j .non) (es.getD j .non)) t1 t2 'o' el;rw[Jn,Jn,show i1.length=ds.length by omega,show i2.length=es.length by omega,uW] at f1 f2;unfold eqb;exact⟨f1,f2⟩
  |lst es=>exact absurd c (by unfold yJ;simp [xU])
  |non=>cases hy
  |bl _=>cases hy
  |int _=>cases hy
  |str _=>cases hy
 |lst ds=>
  cases e with
  |lst es=>
   unfold Dp at p q;obtain⟨a,xs,rfl,h1,p⟩:=p;obtain⟨b,ys,rfl,h2,q⟩:=q;cases rv;cases rw';obtain⟨i1,r1,t1,_⟩:=I.list h1;obtain⟨i2,r2,t2,_⟩:=I.list h2;have l1:=qN p;have l2:=qN q;have l3:=r1.length;have l4:=r2.length;have el: ∀j (j1:j<i1.toArray.size) (j2:j<i2.toArray.size),SeqAt.EqAt A.in1 s i1.toArray[j] i2.toArray[j] (eqb n (ds.getD j .non) (es.getD j .non)):=λj j1 j2=>by
    obtain⟨x,g1,d1,f1⟩:=wy p r1 j j1;obtain⟨y,g2,d2,f2⟩:=wy q r2 j j2;exact kY I (c j _ _ g1 g2) d1 d2 f1 f2 (by show A.units+1+n<cLine;omega)
   have r0:=uW (n:=n) ds es;unfold eqb;by_cases hs:i1.length=i2.length
   ·have f1:=SeqAt.RcAt.lists (A:=A) (e:=λj=>eqb n (ds.getD j .non) (es.getD j .non)) t1.isList t2.isList (by simpa using hs) 'o' el;have f2:=SeqAt.RcNeAt.lists (A:=A) (e:=λj=>eqb n (ds.getD j .non) (es.getD j .non)) t1.isList t2.isList (by simpa using hs) 'o' el;have e1:ds.length=es.length:=by omega
    rw[<-e1,Nat.min_self,beq_self_eq_true,Bool.and_true] at r0;rw[Jn,show i1.length=ds.length by omega,r0] at f1 f2;exact⟨f1,f2⟩
   ·have f1:=SeqAt.RcAt.lists_lengths (A:=A) t1.isList t2.isList (by simpa using hs) 'o';have f2:=SeqAt.RcNeAt.lists_lengths (A:=A) t1.isList t2.isList (by simpa using hs) 'o';have z:(ds.length==es.length)=false:=by
     rw[beq_eq_false_iff_ne];omega
    rw[z,Bool.and_false] at r0;rw[<-r0];exact⟨f1,f2⟩
  |tup es=>exact absurd c (by unfold yJ;simp [xU])
  |non=>cases hy
  |bl _=>cases hy
  |int _=>cases hy
  |str _=>cases hy
 |non=>cases hx
 |bl _=>cases hx
 |int _=>cases hx
 |str _=>cases hx
end
section
variable {X:Cx}
def uX(K:Fg)(neg:Bool):R2:=λx y H Q=> ∃n d e,Dp K H (n+1) d x/\Dp K H (n+1) e y/\sc d=none/\sc e=none/\n<=50/\yJ (n+1) d e/\Q (.bl (if neg then !eqb (n+1) d e else eqb (n+1) d e)) H
theorem zph{k:Nat}(hr:Room k X.A):OpR X (compareOp .Eq) (uX X.K false):=by
 intro pins s σ H x y v u Q I rx ry h;obtain⟨n,d,e,p,q,hx,hy,hn,c,hq⟩:=h;have hu:=hr.units;exact(zga I (A:=X.A) c p q hx hy rx ry 'o').1 X.prog X.w _ _ ⟨.bl _,H,I,rfl,hq⟩
theorem uY{k:Nat}(hr:Room k X.A):OpR X (compareOp .NotEq) (uX X.K true):=by
 intro pins s σ H x y v u Q I rx ry h;obtain⟨n,d,e,p,q,hx,hy,hn,c,hq⟩:=h;have hu:=hr.units;exact(zga I (A:=X.A) c p q hx hy rx ry 'o').2 X.prog X.w _ _ ⟨.bl _,H,I,rfl,hq⟩
theorem eqD{d:D}(p:Dp K H (n+1) d x)(q:Dp K H (n+1) d y)(hx:sc d=none)(hn:n<=50)(h:Q (.bl true) H):uX K false x y H Q:=
 ⟨n,d,d,p,q,hx,hx,hn,uV p,by rw[ug p];exact h⟩
theorem neD{d:D}(p:Dp K H (n+1) d x)(q:Dp K H (n+1) d y)(hx:sc d=none)(hn:n<=50)(h:Q (.bl false) H):uX K true x y H Q:=
 ⟨n,d,d,p,q,hx,hx,hn,uV p,by rw[ug p];exact h⟩
end
theorem vz(h:SqT K H a xs)(q:all2 (Dp K H n) ds xs):Dp K H (n+1) (.tup ds) (.ref a):=by
 unfold Dp;exact⟨a,xs,rfl,h,q⟩
theorem wz(h:SqL K H a xs)(q:all2 (Dp K H n) ds xs):Dp K H (n+1) (.lst ds) (.ref a):=by
 unfold Dp;exact⟨a,xs,rfl,h,q⟩
theorem qx:Dp K H n (.int i) (.int i):=by unfold Dp;rfl
theorem xx{cs:List Nat}:Dp K H n (.str cs) (.str (SL cs)):=by unfold Dp;rfl
theorem zpi:Dp K H n .non .non:=by unfold Dp;rfl
theorem zgb{K:Fg}{H:Hp}{n:Nat}: ∀is:List Int,all2 (Dp K H n) (is.map D.int) (is.map V.int)
 | []=>trivial
 |_::r=>⟨qx,zgb r⟩
def New(H:Hp)(o:HO)(Q:VK):Prop:= ∀p H',H p=none->zh H H'->H' p=some o->Q (.ref p) H'
theorem New.at(h:New H o Q){p:Addr}(hp:H p=none):Q (.ref p) (upd H p o):=h p _ hp (xL hp o) zN
section
variable {X:Cx} {es:List Expr} {t:TA} {pos:Pos}
def kZ(t:TA):TE:=λσ H Q=>t σ H λxs H1=>xs.length<=sizeLine/\New H1 (.tup xs) Q
def k7(t:TA):TE:=λσ H Q=>t σ H λxs H1=>xs.length<=sizeLine/\New H1 (.lst xs) Q
theorem znM{x1}(h:PA X es t):PE X (.Tuple es x1 pos) (kZ t):=by
 intro pins s σ H Q I hq;refine wpAny_Tuple_spliced (thn (h pos pins s σ H _ I hq) λus s1 ⟨xs,H1,I1,r,z,q⟩=>⟨by rw[<-r.length];exact z,?_⟩);have hf:H1 s1.heap.objs.size=none:=I1.hok.fresh (Je _);refine⟨.ref s1.heap.objs.size,upd H1 s1.heap.objs.size (.tup xs),I1.laid (t':=s1.toks) (λb u e=>Qa _ e) (Je _) ?_,rfl,q.at hf⟩;exact⟨z,us,r,⟨_,Qc _ rfl,rfl,_,rfl⟩⟩
theorem znN(h:PA X es t):PE X (.List es pos) (k7 t):=by
 intro pins s σ H Q I hq;refine wpAny_List_spliced (thn (h pos pins s σ H _ I hq) λus s1 ⟨xs,H1,I1,r,z,q⟩=>⟨by rw[<-r.length];exact z,?_⟩);have hf:H1 s1.heap.objs.size=none:=I1.hok.fresh (Je _);refine⟨.ref s1.heap.objs.size,upd H1 s1.heap.objs.size (.lst xs),I1.laid (t':=s1.toks) (λb u e=>Qa _ e) (Je _) ?_,rfl,q.at hf⟩;exact⟨z,us,0,r,Qc _ rfl⟩
theorem OpR.imp{f:Value->Value->Sem Value}{r r':R2}(h:OpR X f r)(i: ∀x y H Q,r' x y H Q->r x y H Q):OpR X f r':=λpins s σ H x y v u Q I rx ry q=>h pins s σ H x y v u Q I rx ry (i _ _ _ _ q)
theorem SlR.imp{r r':V->Option Int->Option Int->Hp->VK->Prop}(h:SlR X r)(i: ∀x lo hi H Q,r' x lo hi H Q->r x lo hi H Q):SlR X r':=
 λpins s σ H x v vl vu lo hi sl Q I rx hs pl pu q=>h pins s σ H x v vl vu lo hi sl Q I rx hs pl pu (i _ _ _ _ _ q)
theorem yM.imp{f:Value}{r r':List V->Hp->VK->Prop}(h:yM X f r)(i: ∀xs H Q,r' xs H Q->r xs H Q):yM X f r':=λpins s σ H xs us Q I rx q=>h pins s σ H xs us Q I rx (i _ _ _ q)
def zq0:R2:=λx y H Q=> ∃p q xs ys,x= .ref p/\y= .ref q/\H p=some (.lst xs)/\H q=some (.lst ys)/\xs.length+ys.length<=sizeLine/\New H (.lst (xs++ys)) Q
theorem zjr:OpR X (binaryOp .Add) zq0:=zo9.imp λ_ _ _ _ ⟨p,q,xs,ys,e1,e2,h1,h2,hz,hq⟩=>⟨p,q,xs,ys,e1,e2,h1,h2,hz,λ_ hp=>hq.at hp⟩
def zq1(K:Fg):V->Option Int->Option Int->Hp->VK->Prop:=λx lo hi H Q=> ∃a xs,x= .ref a/\SqL K H a xs/\New H (.lst (xi xs lo hi)) Q
theorem k8:SlR X (zq1 X.K):=zny.imp λ_ _ _ _ _ ⟨a,xs,e,h,q⟩=>⟨a,xs,e,h,λ_ hp=>q.at hp⟩
theorem zfV:yM X (.type "list") (λxs H Q=> ∃p ys,xs= [.ref p]/\(SqL X.K H p ys\/SqT X.K H p ys)/\New H (.lst ys) Q):=zgQ.imp λ_ _ _ ⟨p,ys,e,h,q⟩=>⟨p,ys,e,h,λ_ hp=>q.at hp⟩
end
theorem qy(h:n<=1000):n<sizeLine:=Nat.lt_of_le_of_lt h 'd'
theorem qX(h:n<=1000):n<=sizeLine:=Nat.le_of_lt (qy h)
def zq2(g:TG)(tb:TS)(D:Ends)(σ:St)(J:It)(H1:Hp):Prop:= ∃W:Nat->Nat->St->Hp->Prop,(∃m,W 0 m σ H1)/\ ∀i m σ H,W i m σ H->
 (J.stop i H/\D.nx σ H)\/(J.go i H/\ ∃N:St->Hp->Prop,(∀σ' H',N σ' H'-> ∃m',m'<m/\W (i+1) m' σ' H')/\ ∀x H',J.yld i H x H'->g x σ H' λσ2 H2=>tb {D with nx:=N,ct:=N,bk:=D.nx} σ2 H2)
theorem qq{g:TG}{tb:TS}{D:Ends}(k: ∀R:It->Hp->Prop,(∀J H1,zq2 g tb D σ J H1->R J H1)->wi σ H R):zqN wi g tb D σ H:=k _ λ_ _ h=>h
section
variable {X:Cx} {pins:List (Addr×Obj)} {σ:St} {H:Hp} {s:Shared} {h':Heap} {ch:List Addr} {t':Nat}
theorem Inv.turnedL(I:Inv X pins σ H s)(hf: ∀b∈ch,xg X pins H b)(k: ∀b o,b∉ch->s.heap.get? b=some o->h'.get? b=some o):Inv X pins σ H {s with heap:=h',toks:=t'}:=by
 have nit: ∀b u,H b=some u->b∉ch:=λb u e z=>by rw[(hf b z).1] at e;cases e
 refine I.step (g':=s.gens) (d':=s.drawn) (ch:=ch) (λb hb=> ?_) (λb o _ _ hc e _=>k b o hc e) (λb o _ _ hc e _=>⟨o.slots,k b o hc e⟩) (λ_ _ _ _ n=>n)
  (λb o hc e=>⟨o,k b o hc e⟩) (λ_ _ e=>e) (λ_ _ _ e=>e) (λb ps e=>⟨#[],by rw[e];simp⟩) (λm hm=> ?_) (λb u e=> ?_) I.bare
 ·obtain⟨_,f1,_,f3,f4,f5⟩:=hf b hb;exact⟨f3,f1,f4,f5⟩
 ·obtain⟨o,es,ep,ho,r⟩:=hm;exact⟨o,es,ep,k _ o (λz=>(hf _ z).2.1 rfl) ho,r⟩
 ·refine(I.hok b u e).stay (λc v hc q=>k c v ?_ q) (λ_ q=>q) λ_ _ q=>q;rcases hc with z|z
  ·rw[z];exact nit b u e
  ·exact nit c _ z
theorem Inv.laidL(I:Inv X pins σ H s)(hf: ∀b∈ch,xg X pins H b)(k: ∀b o,b∉ch->s.heap.get? b=some o->h'.get? b=some o)(hp:s.heap.objs.size<=a)(new:yy X.prog X.w (upd H a o) h' a o):
  Inv X pins σ (upd H a o) {s with heap:=h',toks:=t'}:=by
 have hn:=I.hok.fresh hp;have nit: ∀b u,H b=some u->b∉ch:=λb u e z=>by rw[(hf b z).1] at e;cases e
 refine I.step (g':=s.gens) (d':=s.drawn) (ch:=ch) (λb hb=> ?_) (λb o _ _ hc e _=>k b o hc e) (λb o _ _ hc e _=>⟨o.slots,k b o hc e⟩)
  (λb u _ e n=>by rw[zu (JK (Jy (Qb e) hp))];exact n)
  (λb o hc e=>⟨o,k b o hc e⟩) (λb xs e=>by rw[zu (qa e hn)];exact e) (λb o u e=>by rw[zu (qa e hn)];exact e) (λb ps e=>⟨#[],by rw[zu (qa e hn),e];simp⟩) (λm hm=> ?_) (λb u e=> ?_) I.bare
 ·obtain⟨_,f1,_,f3,f4,f5⟩:=hf b hb;exact⟨f3,f1,f4,f5⟩
 ·obtain⟨o,es,ep,ho,r⟩:=hm;exact⟨o,es,ep,k _ o (λz=>(hf _ z).2.1 rfl) ho,r⟩
 ·by_cases hb:b=a
  ·subst hb;rw[zN] at e;cases e;exact new
  ·rw[zu hb] at e;refine(I.hok b u e).stay (λc v hc q=>k c v ?_ q) (λc q=>by rw[zu (qa q hn)];exact q) λc xs q=>by rw[zu (qa q hn)];exact q
   rcases hc with z|z
   ·rw[z];exact nit b u e
   ·exact nit c _ z
end
theorem zhD(xs:List V){k:Int}(h0:0<=k)(h1:k<=xs.length):xi xs none (some k)=xs.take k.toNat:=by
 obtain⟨j,rfl⟩:=Int.eq_ofNat_of_zero_le h0;unfold xi;rw[HT.sIx_none,HT.sIx_nat,JF,List.drop_zero,Nat.sub_zero,Nat.min_eq_left 'o']
section
variable {X:Cx}
end
section
variable {X:Cx} {Ek:St->XK} {k:Nat} {f:Addr} {fd:FuncData} {ps ks:List Str} {sp:Sp} {x:Str} {p pos:Pos} {e:Expr} {es:List Expr} {kws:List Keyword} {t tk:TA} {g:List Value->List Value->List Value} {gV:List V->List V->List V}
end
structure FunD (K:Fg) (x qual:Str) (st:Stmt) (f:Addr) (fd:FuncData):Prop where
 ex: ∃(dV oc:Value) (od:Option Addr) (kV doc pm:Value) (an:Option Addr) (cdv ct:Value) (osl:Array (Option Value)),
  fd=PySem.W.fnOf x qual (wP st) (wv st) (zC st) dV kV doc pm an cdv ct/\K.lookup f=some ⟨oc,od, .func fd,osl⟩/\PySem.W.codeIn K cdv qual=true
 kp:PySem.W.keepIn K (.ref f)=true
end L2
namespace Parts
variable {A s:Int}
end Parts
namespace L2
open PySem
variable{c:Prop}{a b l:Addr}{o:Option V}{xs:List (List Key×Addr×Value)}{u:Value}{y:V}{P:Program}{w:World}{H H':Hp}{kvs:List (List Key×V)}{Q:Value->Shared->Prop}{s:Shared}{X:Cx}{σ:St}{ys:List V}{K:Fg}{zs:List En}{n:Nat}{nms:List (List Nat)}{e:Int}
section
variable {env:Env} {es:List Expr} {p:Pos}
theorem zE{c:Const}{j:Nat}:starEach (.Constant c j p::es) env=(false,eval (.Constant c j p) env)::starEach es env:=rfl
theorem ze{x:Str}:starEach (.Name x p::es) env=(false,eval (.Name x p) env)::starEach es env:=rfl
theorem zT{a b:Expr}{o:Operator}:starEach (.BinOp a o b p::es) env=(false,eval (.BinOp a o b p) env)::starEach es env:=rfl
theorem wT{xs:List Expr}{k}:starEach (.Tuple xs k p::es) env=(false,eval (.Tuple xs k p) env)::starEach es env:=rfl
theorem yH{a b:Expr}:starEach (.Subscript a b p::es) env=(false,eval (.Subscript a b p) env)::starEach es env:=rfl
theorem yB{f:Expr}{xs:List Expr}{ks:List Keyword}:starEach (.Call f xs ks p::es) env=(false,eval (.Call f xs ks p) env)::starEach es env:=rfl
end
open PySem PySem.Spec PyProof.Rows
def PSt(X:Cx)(st:Stmt)(t:TS):Prop:=
 ∀(pins:List (Addr×Obj)) (s:Shared) (σ:St) (H:Hp) (D:Ends),0<s.toks->Inv X pins σ H s->t D σ H->wpAny (model X.prog X.w) X.A (exec st X.env) (SP X pins D) X.xe s
def PTt(X:Cx)(e:Expr)(t:TT):Prop:=
 ∀(pins:List (Addr×Obj)) (s:Shared) (σ:St) (H:Hp) (Q:Bool->Hp->Prop),0<s.toks->Inv X pins σ H s->t σ H Q->wpAny (model X.prog X.w) X.A (isTrue e X.env (eval e X.env)) (TP X pins σ Q) X.xe s
def PWt(X:Cx)(e:Expr)(t:TT):Prop:=
 ∀(whole:Sem Value) (pins:List (Addr×Obj)) (s:Shared) (σ:St) (H:Hp) (Q:Bool->Hp->Prop),0<s.toks->Inv X pins σ H s->t σ H Q->wpAny (model X.prog X.w) X.A (isTrue e X.env whole) (TP X pins σ Q) X.xe s
section
variable {X:Cx} {st:Stmt} {sts rest:List Stmt} {e a b:Expr} {es:List Expr} {u v:TS} {te ta tb to:TE} {tc tA tB':TT} {tl:TA} {pos:Pos}
theorem PE.t(h:PE X e te):PEt X e te:=λpins s σ H Q _ I q=>h pins s σ H Q I q
theorem PA.t(h:PA X es tl):PAt X es tl:=λps pins s σ H Q _ I q=>h ps pins s σ H Q I q
theorem PS.t(h:PS X st u):PSt X st u:=λpins s σ H D _ I q=>h pins s σ H D I q
theorem PSs.t(h:PSs X sts u):zrM X sts u:=λpins s σ H D _ I q=>h pins s σ H D I q
theorem PT.t(h:PT X e tc):PTt X e tc:=λpins s σ H Q _ I q=>h pins s σ H Q I q
theorem PW.t(h:PW X e tc):PWt X e tc:=λwh pins s σ H Q _ I q=>h wh pins s σ H Q I q
end
section
variable {X:Cx} {st:Stmt} {rest:List Stmt} {e a:Expr} {t u:TS} {te ta:TE} {pos cp:Pos}
end
structure FnOkT (P:Program) (w:World) (K:Fg) (mg:Str->Option Value) (base:Heap) (CX:CXT) (k:Nat) (f:Addr) (fd:FuncData) (ps:List Str) (sp:Sp):Prop where
 len: ∀vs H Q E,sp vs H Q E->vs.length=ps.length
 run: ∀(A:Around) (outer:List Env) (s:Shared) (H:Hp) (args:Args) (us:List Value) (vs:List V) (Q:VK) (E:XK),0<s.toks->Room k A->Env0 P w K mg base A outer s H->BindsTo s fd args (ps.zip us)->zw vs us->sp vs H Q E->
  codeAny (model P w) A (.call (.ref f) args) (CR CX outer P w H s Q E) s
section
variable {P:Program} {w:World} {K:Fg} {mg:Str->Option Value} {base:Heap} {x qual:Str} {st:Stmt} {f:Addr} {fd:FuncData} {N ps:List Str} {k:Nat} {sp:Sp}
end
section
variable {X:Cx} {Ek:St->XK} {k:Nat} {f:Addr} {fd:FuncData} {ps ks:List Str} {sp:Sp} {x:Str} {p pos:Pos} {e:Expr} {es:List Expr} {kws:List Keyword} {t tk:TA} {g:List Value->List Value->List Value} {gV:List V->List V->List V} {dvs:List V} {ds:List Value}
end
section
variable {X:Cx} {body suite:List Stmt} {b₀:Stmt} {n xn:Str} {i:Nat} {C:Addr} {tb:(St->XK)->TS} {ts:TS} {np hpos pos:Pos}
end
section
variable {X:Cx}
theorem zhE: ∀(n:Nat) (a:Array Nat) (cs:List Nat),((List.replicate n cs.toArray).foldl (· ++ ·) a).toList=a.toList++(List.replicate n cs).flatten
 |0,a,cs=>by simp
 |n+1,a,cs=>by
  rw[List.replicate_succ,List.foldl_cons,zhE n,List.replicate_succ,List.flatten_cons];simp
theorem zpj(cs:List Nat){k:Nat}:Txt.mul (SL cs) (k:Int)=SL (List.replicate k cs).flatten:=by
 unfold Txt.mul;by_cases h1:(k:Int)<1
 ·obtain rfl:k=0:=by omega
  rw[Jg h1];rfl
 rw[Jf h1];by_cases h2:((k:Int)==1||(SL cs).length==0)=true
 ·rw[Jg h2];rcases Bool.or_eq_true _ _ ▸ h2 with z|z
  ·have:k=1:=by have:=eq_of_beq z;omega
   subst this;simp
  ·have z':cs.length=0:=by rw[vt] at z;exact eq_of_beq z
   have:cs= []:=List.length_eq_zero_iff.mp z';subst this;congr 1;simp
 ·rw[Jf h2];refine(zqY _).trans (congrArg SL ?_)
  have:=zhE k #[] cs;rw[show (#[]:Array Nat).toList= [] from rfl,List.nil_append] at this;exact this
theorem zhF:OpR X (binaryOp .Mult) (λx y H Q=> ∃cs k,x= .str (SL cs)/\y= .int ((k:Nat):Int)/\cs.length<=1000/\k<=1000/\Q (.str (SL (List.replicate k cs).flatten)) H):=by
 intro pins s σ H x y v u Q I rx ry h;obtain⟨cs,k,rfl,rfl,h1,h2,q⟩:=h;obtain⟨t,rfl⟩:=rx;obtain⟨t',rfl⟩:=ry;have hm:cs.length*k<=1000*1000:=Nat.mul_le_mul h1 h2;refine SB.mul ⟨?_,λa b=> ?_,λa b=> ?_⟩ λt' k'=> ?_
 ·rw[Bool.or_eq_false_iff];constructor<;>refine JP ?_<;>omega
 ·rw[vt]
  have:0<k:=by omega
  have e:((2:Int) ^ 63 - 1) / k≥1000:=by
   refine Int.le_ediv_of_mul_le 'o' ?_;omega
  omega
 ·rw[vt,JF];unfold Builtin.Str.tooLong;refine JP ?_;rw[sizeLine_eq];omega
 ·rw[zpj];exact⟨.str _,H,I.tok _,⟨_,rfl⟩,q⟩
end
open PySem PySem.NumText
theorem yC{A B:Prop}[Decidable c](h1:c->A)(h2: ¬c->B):if c then A else B:=by
 by_cases h:c
 ·rw[Jg h];exact h1 h
 ·rw[Jf h];exact h2 h
section
variable {κ:Type} [DecidableEq κ]
def yN(kvs:List (κ×V))(k:κ):Option V:=(kvs.find? λkv=>decide (kv.1=k)).map (·.2)
def yU(kvs:List (κ×V))(k:κ)(v:V):List (κ×V):=
 if (kvs.any λkv=>decide (kv.1=k))=true then kvs.map (λkv=>if kv.1=k then (kv.1,v) else kv) else kvs++ [(k,v)]
def wB(kvs:List (κ×V))(k:κ):List (κ×V):=kvs.filter λkv=>decide (kv.1≠k)
theorem uh{p:κ×V}{r:List (κ×V)}{k:κ}(e:p.1=k):yN (p::r) k=some p.2:=by simp [yN,List.find?_cons,e]
theorem ui{p:κ×V}{r:List (κ×V)}{k:κ}(e: ¬p.1=k):yN (p::r) k=yN r k:=by simp [yN,List.find?_cons,e]
theorem k9(k:κ): ∀kvs:List (κ×V),(kvs.any λkv=>decide (kv.1=k))=(yN kvs k).isSome
 | []=>rfl
 |p::r=>by
  rw[List.any_cons];by_cases e:p.1=k
  ·simp only[uh e,JO e,Bool.true_or,Option.isSome_some]
  ·rw[ui e,JP e,Bool.false_or];exact k9 k r
theorem zeI(kvs:List (κ×V))(k:κ)(v:V):(yU kvs k v).length<=kvs.length+1:=by
 unfold yU;split
 ·rw[Ja];omega
 ·rw[Jj,Jp,List.length_nil];omega
theorem zlz{kvs:List (κ×V)}{k:κ}(v:V)(h:yN kvs k=none):yU kvs k v=kvs++ [(k,v)]:=by
 unfold yU;rw[k9,h];exact Jf 'd'
theorem qd.isSome_eq{u:Option Value}(r:qd o u):o.isSome=u.isSome:=by
 cases o with
 |none=>cases u with
  |none=>rfl
  |some _=>exact(show False from r).elim
 |some _=>cases u with
  |none=>exact(show False from r).elim
  |some _=>rfl
theorem qd.getD{o:Option V}{u:Option Value}{d:V}{d':Value}(r:qd o u)(rd:zt d d'):zt (o.getD d) (u.getD d'):=by
 cases o with
 |none=>cases u with
  |none=>exact rd
  |some _=>exact(show False from r).elim
 |some _=>cases u with
  |none=>exact(show False from r).elim
  |some _=>exact r
theorem KV.val{kvs:List (κ×V)}{vs:List (κ×Value)}(r:KV kvs vs)(k:κ):qd (yN kvs k) (valueAt vs k):=by
 unfold KV at r;induction r with
 |nil=>exact True.intro
 | @cons p q ps qs h t ih=>
  obtain⟨h1,h2⟩:=h;by_cases e:p.1=k
  ·have e':q.1=k:=h1.symm.trans e;have b:valueAt (q::qs) k=some q.2:=by simp [valueAt,List.find?_cons,e']
   rw[uh e,b];exact h2
  ·have e': ¬q.1=k:=λz=>e (h1.trans z);have b:valueAt (q::qs) k=valueAt qs k:=by simp [valueAt,List.find?_cons,e']
   rw[ui e,b];exact ih
theorem KV.any{kvs:List (κ×V)}{vs:List (κ×Value)}(r:KV kvs vs)(k:κ):(kvs.any λkv=>decide (kv.1=k))=vs.any λkv=>decide (kv.1=k):=by
 unfold KV at r;induction r with
 |nil=>rfl
 |cons h t ih=>rw[List.any_cons,List.any_cons,ih,h.1]
theorem KV.repl{kvs:List (κ×V)}{vs:List (κ×Value)}(r:KV kvs vs)(k:κ)(ry:zt y u):
  KV (kvs.map λkv=>if kv.1=k then (kv.1,y) else kv) (vs.map λkv=>if kv.1=k then (kv.1,u) else kv):=by
 unfold KV at r ⊢;induction r with
 |nil=>exact .nil
 | @cons p q ps qs h t ih=>
  rw[JA,JA];refine .cons ?_ ih;obtain⟨h1,h2⟩:=h;by_cases e:p.1=k
  ·rw[Jg e,Jg (h1.symm.trans e)];exact⟨h1,ry⟩
  ·rw[Jf e,Jf (λz=>e (h1.trans z))];exact⟨h1,h2⟩
theorem KV.put{kvs:List (κ×V)}{vs:List (κ×Value)}(r:KV kvs vs)(k:κ)(ry:zt y u):KV (yU kvs k y) (stored vs k u):=by
 unfold yU stored;rw[r.any k];by_cases e:(vs.any λkv=>decide (kv.1=k))=true
 ·rw[Jg e,Jg e];exact r.repl k ry
 ·rw[Jf e,Jf e];exact Paired.snoc r ⟨rfl,ry⟩
theorem KV.drop{kvs:List (κ×V)}{vs:List (κ×Value)}(r:KV kvs vs)(k:κ):KV (wB kvs k) (without vs k):=by
 unfold KV at r ⊢;unfold wB without;induction r with
 |nil=>exact .nil
 | @cons p q ps qs h t ih=>
  obtain⟨h1,h2⟩:=h;rw[JU,JU];by_cases e:p.1=k
  ·have a: ¬decide (p.1≠k)=true:=by simp [e]
   have b: ¬decide (q.1≠k)=true:=by simp [h1.symm.trans e]
   rw[Jf a,Jf b];exact ih
  ·have e': ¬q.1=k:=λz=>e (h1.trans z);have a:decide (p.1≠k)=true:=by simp [e]
   have b:decide (q.1≠k)=true:=by simp [e']
   rw[Jg a,Jg b];exact .cons ⟨h1,h2⟩ ih
theorem KV.length{kvs:List (κ×V)}{vs:List (κ×Value)}(r:KV kvs vs):kvs.length=vs.length:=Paired.length r
theorem zlA(kvs:List (κ×V))(k:κ):(wB kvs k).length<=kvs.length:=List.length_filter_le _ _
end
theorem wU{k:Key}(r:zt (kV k) u):(yK P w).is k u=true:=by
 cases k with
 |inl i=>obtain⟨t,e⟩:=(show∃t,u=Value.int i t from r);subst e;exact zhq P w i t
 |inr x=>obtain⟨t,e⟩:=(show∃t,u=Value.str x t from r);subst e;exact zhr P w x t
theorem zgc{P:Program}{w:World}: ∀{ks:List Key} {us:List Value},zw (ks.map kV) us->ItemsAre (yK P w) ks us
 | [],_,r=>by rw[JR] at r;cases r;exact .nil
 |k::ks,_,r=>by
  rw[JA] at r;cases r with
  |cons h t=>exact .cons (wU h) (zgc t)
abbrev KT(H:Hp):List (List Key×V)->List (List Key×Addr×Value)->Prop:=Paired λp q=>p.1=q.1/\H q.2.1=some (.tup (p.1.map kV))/\zt p.2 q.2.2
theorem KT.val(r:KT H kvs xs)(k:List Key):qd (yN kvs k) ((atKey xs k).map (·.2)):=by
 induction r with
 |nil=>exact True.intro
 | @cons p q ps qs h t ih=>
  obtain⟨h1,_,h2⟩:=h;by_cases e:p.1=k
  ·have e':q.1=k:=h1.symm.trans e;have b:atKey (q::qs) k=some q.2:=by simp [atKey,List.find?_cons,e']
   rw[uh e,b];exact h2
  ·have e': ¬q.1=k:=λz=>e (h1.trans z);have b:atKey (q::qs) k=atKey qs k:=by simp [atKey,List.find?_cons,e']
   rw[ui e,b];exact ih
theorem KT.repl(r:KT H kvs xs)(k:List Key)(ry:zt y u):
  KT H (kvs.map λkv=>if kv.1=k then (kv.1,y) else kv) (xs.map (putAt k u)):=by
 induction r with
 |nil=>exact .nil
 | @cons p q ps qs h t ih=>
  rw[JA,JA];refine .cons ?_ ih;obtain⟨h1,h2,h3⟩:=h;unfold putAt;by_cases e:p.1=k
  ·rw[Jg e,Jg (h1.symm.trans e)];exact⟨h1,h2,ry⟩
  ·rw[Jf e,Jf (λz=>e (h1.trans z))];exact⟨h1,h2,h3⟩
theorem KT.put(r:KT H kvs xs)(k:List Key)(hb:H b=some (.tup (k.map kV)))(ry:zt y u):
  KT H (yU kvs k y) (storedH xs k b u):=by
 have e:(kvs.any λkv=>decide (kv.1=k))=(atKey xs k).isSome:=by
  rw[k9,(r.val k).isSome_eq,Option.isSome_map]
 unfold yU storedH;rw[e];by_cases q:(atKey xs k).isSome=true
 ·rw[Jg q,Jg q];exact r.repl k ry
 ·rw[Jf q,Jf q];exact Paired.snoc r ⟨rfl,hb,ry⟩
theorem KT.keeps(r:KT H kvs xs)(ht: ∀b ys,H b=some (.tup ys)->H' b=some (.tup ys)):KT H' kvs xs:=
 Paired.mapP r λ_ _ z=>⟨z.1,ht _ _ z.2.1,z.2.2⟩
section
variable {P:Program} {w:World} {H:Hp} {h:Heap} {a:Addr}
theorem zov{u:HO}(ok:HOk P w H h)(e:Rd H a u):yy P w H h a u:=e.ok ok
theorem vA{kvs:List (Key×V)}(ok:HOk P w H h)(e:Rd H a (.dK kvs)):kvs.length<=sizeLine/\(a==sysModules)=false/\ ∃vs,KV kvs vs/\h.DictOf (yK P w) a vs:=
 show yy P w H h a (.dK kvs) from zov ok e
theorem uZ{kvs:List (Key×V)}(ok:HOk P w H h)(e:H a=some (.dK kvs)):kvs.length<=sizeLine/\(a==sysModules)=false/\ ∃vs,KV kvs vs/\h.DictOf (yK P w) a vs:=vA ok (.inl e)
theorem u5{ks:List Key}(ok:HOk P w H h)(e:H a=some (.tup (ks.map kV))):(tupleKind (yK P w)).is h ks a:=by
 obtain⟨_,its,r,o,h1,h2,n,h3⟩:=(show yy P w H h a (.tup (ks.map kV)) from ok a _ e)
 exact⟨o,its.toArray,n,h1,h2,h3,by simpa using zgc r⟩
theorem uj(ok:HOk P w H h)(e:Rd H a (.dT kvs)):kvs.length<=sizeLine/\(a==sysModules)=false/\
  ∃xs,KT H kvs xs/\h.DictOfH (tupleKind (yK P w)) a xs:=by
 obtain⟨z,y,xs,r,o,es,ep,h1,h2,h3,h4,h5⟩:=(show yy P w H h a (.dT kvs) from zov ok e)
 refine⟨z,y,xs,r,o,es,ep,h1,h2,h3,h4,λx hx=> ?_,h5⟩;have all: ∀{l:List (List Key×V)} {m:List (List Key×Addr×Value)},KT H l m-> ∀x∈m,(tupleKind (yK P w)).is h x.1 x.2.1:=by
  intro l m q;induction q with
  |nil=>intro x hx;exact nomatch hx
  | @cons p q ps qs hq t ih=>
   intro x hx;rcases JD.mp hx with e|hx
   ·subst e;exact u5 ok (by rw[<-hq.1];exact hq.2.1)
   ·exact ih x hx
 exact all r x hx
theorem zq3(ok:HOk P w H h)(e:H a=some (.dT kvs)):kvs.length<=sizeLine/\(a==sysModules)=false/\
  ∃xs,KT H kvs xs/\h.DictOfH (tupleKind (yK P w)) a xs:=uj ok (.inl e)
end
def qY(H:Hp)(a:Addr)(y:V)(r:Option V):Prop:=
 (∃kvs k,Rd H a (.dK kvs)/\y=kV k/\r=yN kvs k)\/ ∃kvs k b,Rd H a (.dT kvs)/\y= .ref b/\H b=some (.tup (k.map kV))/\r=yN kvs k
def xV(H:Hp)(a:Addr)(y v:V)(H':Hp):Prop:=
 (∃kvs k,H a=some (.dK kvs)/\y=kV k/\kvs.length<sizeLine/\H'=upd H a (.dK (yU kvs k v)))\/
 ∃kvs k b,H a=some (.dT kvs)/\y= .ref b/\H b=some (.tup (k.map kV))/\kvs.length<sizeLine/\H'=upd H a (.dT (yU kvs k v))
theorem qY.k{H:Hp}{a:Addr}{kvs:List (Key×V)}{k:Key}(e:H a=some (.dK kvs)):qY H a (kV k) (yN kvs k):= .inl ⟨kvs,k, .inl e,rfl,rfl⟩
theorem xV.k{H:Hp}{a:Addr}{kvs:List (Key×V)}{k:Key}{v:V}(e:H a=some (.dK kvs))(hl:kvs.length<sizeLine):xV H a (kV k) v (upd H a (.dK (yU kvs k v))):= .inl ⟨kvs,k,e,rfl,hl,rfl⟩
section
variable {X:Cx} {pins:List (Addr×Obj)} {σ:St} {H:Hp} {s:Shared} {a:Addr} {y v:V} {u r:Value} {o:Option V} {A:Around} {E:Value->Shared->Prop}
theorem Inv.big(I:Inv X pins σ H s):sysModules<s.heap.objs.size:=by
 have h:mainGlobals<s.heap.objs.size:=(I.mod.glob.keeps I.bk).lt;exact Nat.lt_trans 'd' h
theorem zkn(hu:A.units+1<cLine)(I:Inv X pins σ H s)(g:qY H a y (some v))(ry:zt y u)(h: ∀w' s',Inv X pins σ H s'->zt v w'->Q w' s'):
  wpAny (model X.prog X.w) A (getItem (.ref a) u) Q E s:=by
 rcases g with⟨kvs,k,e,ey,l⟩|⟨kvs,k,b,e,ey,eb,l⟩
 ·subst ey;obtain⟨z,hd,vs,rel,dd⟩:=vA I.hok e;obtain⟨w',hw,rw'⟩:=qd.some_of (v:=v) (o:=valueAt vs k) (by rw[l];exact rel.val k);exact wpAny_getItem_of (wU ry) dd.mapOf hw (h w' _ (I.tok _) rw')
 ·subst ey;cases (show u=Value.ref b from ry);obtain⟨z,hd,xs,rel,dd⟩:=uj I.hok e;obtain⟨w',hw,rw'⟩:=qd.some_of (v:=v) (o:=(atKey xs k).map (·.2)) (by rw[l];exact rel.val k);obtain⟨p,hp,hp2⟩:=Jk.mp hw;refine wpAny_getItem_heap (tupleKind_room_in1 hu) (u5 I.hok eb) dd hp ?_;rw[hp2];exact h w' _ (I.tok _) rw'
theorem zgV{h':Heap}{t':Nat}{ob:HO}(I:Inv X pins σ H s)(mu:Mut (H a))(hs:Heap.SameBut a s.heap h')(he: ∃q,h'.get? a=some q)(new:yy X.prog X.w (upd H a ob) h' a ob):
  Inv X pins σ (upd H a ob) {s with heap:=h',toks:=t'}:=
 I.write (x:=a) (e:=a) mu (.inl rfl) (λb q hb z=>(hs.2 b hb).trans z) he new
theorem zlB{H':Hp}{h':Heap}{kvs:List (Key×V)}{vs:List (Key×Value)}(z:kvs.length<=sizeLine)(hd:(a==sysModules)=false)(rel:KV kvs vs)(dd:h'.DictOf (yK P w) a vs):
  yy P w H' h' a (.dK kvs):=⟨z,hd,vs,rel,dd⟩
theorem zko{Q:Unit->Shared->Prop}(hu:A.units+1<cLine)(I:Inv X pins σ H s)(g:xV H a y v H')(ry:zt y u)(rv:zt v r)(h: ∀s',Inv X pins σ H' s'->Q () s'):
  wpAny (model X.prog X.w) A (setItem (.ref a) u r) Q E s:=by
 rcases g with⟨kvs,k,e,ey,l,eH⟩|⟨kvs,k,b,e,ey,eb,l,eH⟩
 ·subst ey eH;obtain⟨z,hd,vs,rel,dd⟩:=uZ I.hok e;have hz:vs.length<=sizeLine:=by rw[<-rel.length];exact z
  have hl:(yU kvs k v).length<=sizeLine:=by have:=zeI kvs k v;omega
  refine wpAny_setItem_pairs (hsz:=hz) (wU ry) dd λh' dd' hs=>h _ ?_;have he: ∃q,h'.get? a=some q:=let ⟨q,_,_,hq,_⟩:=dd';⟨q,hq⟩;exact zgV I (by rw[e];exact True.intro) hs he (zlB hl hd (rel.put k rv) dd')
 ·subst ey eH;cases (show u=Value.ref b from ry);obtain⟨z,hd,xs,rel,dd⟩:=zq3 I.hok e;have hz:xs.length<=sizeLine:=by rw[<-Paired.length rel];exact z
  have hl:(yU kvs k v).length<=sizeLine:=by have:=zeI kvs k v;omega
  refine wpAny_setItem_heap (hsz:=hz) (tupleKind_room_in1 hu) (u5 I.hok eb) dd λh' dd' hs=>h _ ?_;obtain⟨q,es,ep,hq,h2,h3,h4,_,h5⟩:=dd';refine zgV I (by rw[e];exact True.intro) hs ⟨q,hq⟩ ⟨hl,hd,_,(rel.put k eb rv).keeps λc ys ec=> ?_,q,es,ep,hq,h2,h3,h4,h5⟩;rw[zu (zqF ec e (λz=>nomatch z))];exact ec
end
section
variable {X:Cx} {pins:List (Addr×Obj)} {σ:St} {H:Hp} {s:Shared} {a:Addr} {kvs:List (Key×V)} {k:Key} {u:Value} {A:Around} {E:Value->Shared->Prop}
theorem zq4{v:V}{more:List Value}{Q:Value->Shared->Prop}(I:Inv X pins σ H s)(e:H a=some (.dK kvs))(ry:zt (kV k) u)(l:yN kvs k=some v)(hm:more= []\/ ∃x,more= [x])
  (h: ∀w' s',Inv X pins σ (upd H a (.dK (wB kvs k))) s'->zt v w'->Q w' s'):wpAny (model X.prog X.w) A (call (.builtin "dict.pop") (.ref a::u::more)) Q E s:=by
 obtain⟨z,hd,vs,rel,dd⟩:=uZ I.hok e;obtain⟨w',hw,rw'⟩:=qd.some_of (v:=v) (o:=valueAt vs k) (by rw[<-l];exact rel.val k);have hp:(keyPart u).isSome=true:=by
  cases k with
  |inl i=>obtain⟨t,q⟩:=(show∃t,u=Value.int i t from ry);subst q;rfl
  |inr x=>obtain⟨t,q⟩:=(show∃t,u=Value.str x t from ry);subst q;rfl
 have ha:argsOk "dict.pop" ⟨.ref a::u::more, []⟩:=by
  rcases hm with q|⟨x,q⟩
  ·subst q;exact PySem.F.args_dict_pop_2 _ _
  ·subst q;exact PySem.F.args_dict_pop_3 _ _ _
 refine call_meetsIn PySem.F.slot_dict_pop dd.typeIs PySem.F.entry_dict_pop ha (meets_dict_pop_there (yK X.prog X.w) a (wU ry) more hm hp)
  ⟨vs,w',dd,by rw[<-rel.length];exact z,hw,λh' dd' hs=>h w' _ ?_ rw'⟩
 have he: ∃q,h'.get? a=some q:=let ⟨q,_,_,hq,_⟩:=dd';⟨q,hq⟩;exact zgV I (by rw[e];exact True.intro) hs he (zlB (JE (zlA kvs k) z) hd (rel.drop k) dd')
theorem zq5(I:Inv X pins σ H s)(e:Rd H a (.dK kvs))(h: ∀t s',Inv X pins σ H s'->Q (.int kvs.length t) s'):wpAny (model X.prog X.w) A (call (.builtin "len") [.ref a]) Q E s:=by
 obtain⟨z,hd,vs,rel,dd⟩:=vA I.hok e;refine call_len_dict hd dd (by rw[<-rel.length];rw[sizeLine_eq] at z;omega) ?_;rw[<-rel.length];exact h _ _ (I.tok _)
end
def zpk(i:Expr):Prop:= ∀ov iv,subscripted i false ov iv=operate [ov,iv] (getItem ov iv)
theorem zjt{prog:Program}{w:World}{A:Around}{E:Value->Shared->Prop}{s:Shared}{env:Env}{value slice:Expr}{pos:Pos}{T id:String}{Q:Value->Shared->Prop}
  (hl:typeLookup (.type T) "__getitem__"=pure (some (.builtin id))) (hs:zpk slice)
  (h:wpAny (model prog w) A (eval value env) (λo s₁=>wpAny (model prog w) A (eval slice env) (λi s₂=>s₂.TypeIs o T/\wpAny (model prog w) A (getItem o i) Q E s₂) E s₁) E s):
  wpAny (model prog w) A (eval (.Subscript value slice pos) env) Q E s:=by
 refine Subscript_ (wpAny_mono h (λo s₁ h₁=>wpAny_mono h₁ (λi s₂ h₂=> ?_) λ_ _ x=>x) λ_ _ x=>x);obtain⟨hT,h₂⟩:=h₂;unfold subscriptTail;refine JW ?_;rw[getitemInPython_of_ne hT.not_modules];refine JW (wpAny_specialOf hT hl ?_);have fin:wpAny (model prog w) A (subscripted slice false o i) (λr s₃=>wpAny (model prog w) A (letTemporaryGo value o r>>=λ_=>pure r) Q E s₃) E s₂:=by
  rw[hs o i];exact wpAny_operating (wpAny_mono h₂ (λr s₃ h₃=>JW (wpAny_letTemporaryGo (JX h₃))) λ_ _ x=>x)
 first
  |exact JX (JW fin)
  |exact JW (JX (JW fin))
  |exact JW fin
theorem zhH{pins:List (Addr×Obj)}(I:Inv X pins σ H s)(g:qY H a y o):s.TypeIs (.ref a) "dict":=by
 rcases g with⟨kvs,k,e,_,_⟩|⟨kvs,k,b,e,_,_,_⟩
 ·obtain⟨_,_,vs,_,dd⟩:=vA I.hok e;exact dd.typeIs
 ·obtain⟨_,_,xs,_,dd⟩:=uj I.hok e;exact dd.typeIs
def zlC(td ty:TE):TE:=λσ H Q=>td σ H λx H1=>ty σ H1 λy H2=> ∃a v,x= .ref a/\qY H2 a y (some v)/\Q v H2
def zow(td ty tv:TE):TS:=λD σ H=>tv σ H λv H1=>td σ H1 λx H2=>ty σ H2 λy H3=> ∃a H4,x= .ref a/\xV H3 a y v H4/\D.nx σ H4
section
variable {X:Cx} {o i e value:Expr} {pos pos' tpos:Pos} {td ty tv:TE}
theorem zju(hu:X.A.units+1<cLine)(ho:PE X o td)(hi:PE X i ty)(hs:zpk i):PE X (.Subscript o i pos) (zlC td ty):=by
 intro pins s σ H Q I h;refine zjt PySem.F.slot_dict_getitem.lookup hs (thn (ho pins s σ H _ I h) λu s1 ⟨x,H1,I1,rx,q1⟩=>thn (hi pins s1 σ H1 _ I1 q1) λiv s2 ⟨y,H2,I2,ry,a,v,ex,g,q2⟩=> ?_);subst ex;obtain rfl:u=Value.ref a:=rx;exact⟨zhH I2 g,zkn hu I2 g ry λw' s3 I3 rw'=>⟨v,H2,I3,rw',q2⟩⟩
theorem uk(hu:X.A.units+1<cLine)(ho:PE X o td)(hi:PE X i ty)(hv:PE X value tv)(hs:swapsWith value (some (.Subscript o i pos')) pos.line X.env=pure false):
  PS X (.Assign [.Subscript o i pos'] value pos) (zow td ty tv):=by
 intro pins s σ H D I h;refine wpAny_Assign_Subscript (thn (hv pins s σ H _ I h) λr s1 ⟨v,H1,I1,rv,q1⟩=>thn (ho pins s1 σ H1 _ I1 q1) λu s2 ⟨x,H2,I2,rx,q2⟩=>thn (hi pins s2 σ H2 _ I2 q2) λiv s3 ⟨y,H3,I3,ry,a,H4,ex,g,q3⟩=> ?_) hs;subst ex;obtain rfl:u=Value.ref a:=rx;exact zko hu I3 g ry rv λs4 I4=>⟨σ,H4,I4,q3⟩
end
theorem zlD(h:Heap)(hb:sysModules<h.objs.size):yy P w H (h.push {cls:= .type "dict",data:= .dict #[]}) h.objs.size (.dK []):=
 ⟨Jv _,beq_eq_false_iff_ne.mpr (Ne.symm (JK hb)), [], .nil,Heap.DictOf.new h⟩
def zpl:TE:=λ_ H Q=> ∀p,H p=none->Q (.ref p) (upd H p (.dK []))
section
variable {X:Cx} {pos:Pos}
theorem zlE:PE X (.Dict [] [] pos) zpl:=λpins s σ H Q I h=>
 wpAny_Dict_empty ⟨.ref s.heap.objs.size,_,I.laid (a:=s.heap.objs.size) (o:= .dK []) (t':=s.toks) (λ_ _ q=>Qa _ q) (Je _) (zlD s.heap I.big),rfl,h _ (I.hok.fresh (Je _))⟩
end
structure M1 (X:Cx) (o:Expr) (m:Str) (apos:Pos) (e:Expr) (cpos:Pos):Prop where
 base:attributeBase o m X.env (eval o X.env)=eval o X.env
 few:((backTo cpos (starEach [e] X.env)).all (λx=> !x.1) && (backToKw cpos (keywordEach [] X.env)).all (λx=>x.1.isSome)
  && decide (([e]:List Expr).length+([]:List Keyword).length+(if ([]:List Keyword).isEmpty then 0 else 1)<30))=true
 line:(apos.endLine==cpos.line)=true
 trees:backTo cpos (starEach [e] X.env)= [(false,eval e X.env)]
structure M2 (X:Cx) (o:Expr) (m:Str) (apos:Pos) (e f:Expr) (cpos:Pos):Prop where
 base:attributeBase o m X.env (eval o X.env)=eval o X.env
 few:((backTo cpos (starEach [e,f] X.env)).all (λx=> !x.1) && (backToKw cpos (keywordEach [] X.env)).all (λx=>x.1.isSome)
  && decide (([e,f]:List Expr).length+([]:List Keyword).length+(if ([]:List Keyword).isEmpty then 0 else 1)<30))=true
 line:(apos.endLine==cpos.line)=true
 trees:backTo cpos (starEach [e,f] X.env)= [(false,eval e X.env),(false,eval f X.env)]
def IsD(H:Hp)(a:Addr):Prop:=(∃kvs,Rd H a (.dK kvs))\/ ∃kvs,Rd H a (.dT kvs)
theorem zlF{pins:List (Addr×Obj)}(I:Inv X pins σ H s)(d:IsD H a):
  s.TypeIs (.ref a) "dict"/\(∀b,Value.ref a= .ref b-> ∃ob,s.heap.get? b=some ob/\ob.dict=none)/\(a==sysModules)=false:=by
 rcases d with⟨kvs,e⟩|⟨kvs,e⟩
 ·obtain⟨_,hd,vs,_,dd⟩:=vA I.hok e;refine⟨dd.typeIs,λb q=> ?_,hd⟩;cases q;obtain⟨ob,_,_,h1,h2,_⟩:=dd;exact⟨ob,h1,h2.2.1⟩
 ·obtain⟨_,hd,xs,_,dd⟩:=uj I.hok e;refine⟨dd.typeIs,λb q=> ?_,hd⟩;cases q;obtain⟨ob,_,_,h1,h2,_⟩:=dd;exact⟨ob,h1,h2.2.1⟩
section
variable {X:Cx} {pins:List (Addr×Obj)} {σ:St} {H:Hp} {s:Shared} {a:Addr} {y d:V} {u r:Value} {o:Option V} {A:Around} {E:Value->Shared->Prop}
theorem zpm(hu:A.units+1<cLine)(I:Inv X pins σ H s)(g:qY H a y o)(ry:zt y u)(rd:zt d r)(h: ∀w' s',Inv X pins σ H s'->zt (o.getD d) w'->Q w' s'):
  wpAny (model X.prog X.w) A (call (.builtin "dict.get") [.ref a,u,r]) Q E s:=by
 rcases g with⟨kvs,k,e,ey,l⟩|⟨kvs,k,b,e,ey,eb,l⟩
 ·subst ey;obtain⟨z,hd,vs,rel,dd⟩:=vA I.hok e;refine call_meetsIn PySem.F.slot_dict_get dd.typeIs PySem.F.entry_dict_get (PySem.F.args_dict_get_3 _ _ _) (meets_dict_get_default (yK X.prog X.w) a (wU ry) hd r) ⟨_,dd.mapOf,h _ _ (I.tok _) ?_⟩;rw[l];exact(rel.val k).getD rd
 ·subst ey;cases (show u=Value.ref b from ry);obtain⟨z,hd,xs,rel,dd⟩:=uj I.hok e;refine call_meetsIn PySem.F.slot_dict_get dd.typeIs PySem.F.entry_dict_get (PySem.F.args_dict_get_3 _ _ _) (meetsH_dict_get_default (tupleKind (yK X.prog X.w)) a b hd r) ⟨tupleKind_room_in1 hu,k,xs,u5 I.hok eb,dd,h _ _ (I.tok _) ?_⟩;rw[l];exact(rel.val k).getD rd
end
def zlG(td ty tx:TE):TE:=λσ H Q=>td σ H λx H1=> ∃a,x= .ref a/\IsD H1 a/\ty σ H1 λy H2=>tx σ H2 λz H3=> ∃o,qY H3 a y o/\Q (o.getD z) H3
def zlH(td ty:TE):TE:=λσ H Q=>td σ H λx H1=> ∃a,x= .ref a/\IsD H1 a/\ty σ H1 λy H2=> ∃kvs k v,H2 a=some (.dK kvs)/\y=kV k/\yN kvs k=some v/\Q v (upd H2 a (.dK (wB kvs k)))
section
variable {X:Cx} {o e f:Expr} {apos cpos:Pos} {td ty tx:TE}
theorem um(hu:X.A.units+1<cLine)(ho:PE X o td)(he:PE X e ty)(hf:PE X f tx)(m:M2 X o "get" apos e f cpos):PE X (.Call (.Attribute o "get" apos) [e,f] [] cpos) (zlG td ty tx):=by
 intro pins s σ H Q I h;refine wpAny_Call_method m.base m.few m.line PySem.F.plainAttrs_dict PySem.F.slot_dict_get PySem.F.type_dict_get (thn (ho pins s σ H _ I h) λu s1 ⟨x,H1,I1,rx,a,ex,d,q1⟩=> ?_);subst ex;obtain rfl:u=Value.ref a:=rx;obtain⟨t1,t2,_⟩:=zlF I1 d;refine⟨t1,t2,?_⟩;rw[m.trees];refine Calls.callWith_builtin rfl (Calls.evalArgs_plain (Calls.spliced_cons (thn (he pins s1 σ H1 _ I1 q1) λiv s2 ⟨y,H2,I2,ry,q2⟩=>
  Calls.spliced_cons (thn (hf pins s2 σ H2 _ I2 q2) λfv s3 ⟨z,H3,I3,rz,ov,g,q3⟩=>Calls.spliced_nil ?_))))
 exact zpm hu I3 g ry rz λw' s4 I4 rw'=>⟨_,H3,I4,rw',q3⟩
theorem zlI(ho:PE X o td)(he:PE X e ty)(m:M1 X o "pop" apos e cpos):PE X (.Call (.Attribute o "pop" apos) [e] [] cpos) (zlH td ty):=by
 intro pins s σ H Q I h;refine wpAny_Call_method m.base m.few m.line PySem.F.plainAttrs_dict PySem.F.slot_dict_pop PySem.F.type_dict_pop (thn (ho pins s σ H _ I h) λu s1 ⟨x,H1,I1,rx,a,ex,d,q1⟩=> ?_);subst ex;obtain rfl:u=Value.ref a:=rx;obtain⟨t1,t2,_⟩:=zlF I1 d;refine⟨t1,t2,?_⟩;rw[m.trees];refine Calls.callWith_builtin rfl (Calls.evalArgs_plain (Calls.spliced_cons (thn (he pins s1 σ H1 _ I1 q1) λiv s2 ⟨y,H2,I2,ry,kvs,k,v,ea,ey,l,q2⟩=>Calls.spliced_nil ?_)));subst ey;exact zq4 I2 ea ry l (.inl rfl) λw' s3 I3 rw'=>⟨v,_,I3,rw',q2⟩
end
def zlJ:TE:=λ_ H Q=>New H (.dK []) Q
theorem u7{pos:Pos}:PE X (.Dict [] [] pos) zlJ:=λpins s σ H Q I h=>zlE pins s σ H Q I λp hp=>h.at hp
def sv:D->V
 | .int i=> .int i
 | .str cs=> .str (SL cs)
 |_=> .non
theorem qr{J:It}{H1:Hp}{σ0:St}{g:TG}{tc:TT}{te:TE}{Q:VK}(Pv:Nat->List V->Hp->Prop)(L:Lists J H1 ys)(hl:H1 l=none)(hz:ys.length<sizeLine)
  (h0: ∀H,zh H1 H->Pv 0 [] H)
  (hs: ∀i x xs H (K1:VK) (K0:Hp->Prop),ys[i]? =some x->zh H1 H->Pv i xs H->H l=some (.lst xs)->
   (∀v H4,zh H H4->(∀H5,(∀b o,b≠l->H4 b=some o->H5 b=some o)->Pv (i+1) (xs++ [v]) H5)->K1 v H4)->(∀H3,zh H H3->Pv (i+1) xs H3->K0 H3)->
   g x σ0 H λσ2 H2=>Sub σ0 σ2/\tc σ2 H2 λb H3=>if b=true then te σ2 H3 K1 else K0 H3)
  (hd: ∀xs H,zh H1 H->Pv ys.length xs H->xs.length<=ys.length->H l=some (.lst xs)->Q (.ref l) H):vx J σ0 g tc te l Q H1:=by
 refine⟨λi m xs H=>i<=ys.length/\m=ys.length - i/\zh H1 H/\Pv i xs H/\xs.length<=i/\H l=some (.lst xs),⟨ys.length,Jv _,'o',xL hl _,h0 _ (xL hl _),Je _,zN⟩,?_⟩;rintro i m xs H ⟨hi,rfl,sm,pv,hx,e⟩;refine⟨e,Nat.lt_of_le_of_lt hx 'o',?_⟩;by_cases hlt:i<ys.length
 ·refine .inr ⟨L.go i H sm hlt,λx H' y=> ?_⟩;obtain⟨rfl,hx'⟩:=L.yld i H x H' sm y hlt;refine hs i x xs H' _ _ hx' sm pv e (λv H4 s4 p4=> ?_) (λH3 s3 p3=> ?_)
  ·exact⟨s4 _ _ e,ys.length - (i+1),'o',hlt,rfl,uc (sm.trans s4) hl,p4 _ λb o hb q=>by rw[zu hb];exact q,by rw[Jj];simp only[Jp,List.length_nil];omega,zN⟩
  ·exact⟨ys.length - (i+1),'o',hlt,rfl,sm.trans s3,p3,'o',s3 _ _ e⟩
 ·have ei:i=ys.length:=by omega
  subst ei;exact .inl ⟨L.stop H sm,hd xs H sm pv hx e⟩
abbrev azL:List Nat:= [97,98,99,100,101,102,103,104,105,106,107,108,109,110,111,112,113,114,115,116,117,118,119,120,121,122]
theorem zq6{r:Int}(h0:0<=r)(h1:r<26):atI azL r=some (97+r.toNat):=by
 obtain⟨n,rfl⟩:=Int.eq_ofNat_of_zero_le h0
 have: ∀n:Nat,n<26->atI azL (n:Int)=some (97+n):=by decide
 exact this n 'o'
abbrev Pl:=List Nat×Int×Int
def vB(K:Fg)(H:Hp)(z:V×Pl):Prop:= ∃p,z.1= .ref p/\SqT K H p [.str (SL z.2.1), .int z.2.2.1, .int z.2.2.2]
def wV(K:Fg)(H:Hp)(zs:List (V×Pl)):Prop:= ∀z∈zs,vB K H z
theorem vB.same{z:V×Pl}(h:vB K H z)(s:zh H H'):vB K H' z:=let ⟨p,e,q⟩:=h;⟨p,e,s.sqT q⟩
theorem wV.same{K:Fg}{H H':Hp}{zs:List (V×Pl)}(h:wV K H zs)(s:zh H H'):wV K H' zs:=λz hz=>(h z hz).same s
theorem zfg(w:List Nat): ∀ws:List (List Nat),inV (.str (SL w)) (ws.map λx=>V.str (SL x))=decide (w∈ws)
 | []=>rfl
 |x::r=>by
  have ih:=zfg w r;unfold inV at ih ⊢;rw[JA,List.any_cons,ih];show ((SL x==SL w)||decide (w∈r))=decide (w∈x::r);have e:(SL x==SL w)=decide (x=w):=by
   rw[Bool.eq_iff_iff,beq_iff_eq,decide_eq_true_eq,ww]
  rw[e,Bool.eq_iff_iff,Bool.or_eq_true,decide_eq_true_eq,decide_eq_true_eq,decide_eq_true_eq,JD];constructor
  ·rintro(h|h)
   ·exact .inl h.symm
   ·exact .inr h
  ·rintro(h|h)
   ·exact .inl h.symm
   ·exact .inr h
theorem znO{p:Addr}{xs:List V}(h:SqT K H p xs)(e:H l=some (.lst ys))(k: ∀b o,b≠l->H b=some o->H' b=some o):SqT K H' p xs:=by
 rcases h with(h|⟨ob,h⟩)|h
 ·have np:p≠l:=λz=>by rw[z,e] at h;cases h
  exact .inl (.inl (k _ _ np h))
 ·have np:p≠l:=λz=>by rw[z,e] at h;cases h
  exact .inl (.inr ⟨ob,k _ _ np h⟩)
 ·exact .inr h
def Ite(K:Fg)(a:Addr):It:=
 ⟨λi H=> ∃xs x,SqL K H a xs/\xs[i]? =some x,
  λi H v H'=> ∃p,v= .ref p/\H p=none/\zh H H'/\ ∃x,H' p=some (.tup [.int i,x])/\ ∀xs,SqL K H a xs->xs[i]? =some x,
  λi H=> ∃xs,SqL K H a xs/\xs.length<=i⟩
theorem zkq{P:Program}{w:World}{K:Fg}{es:List Expr}{n:Nat}{ps:Pos}(e it l:Addr)(hne:e≠it):
  Turn P w K (.Tuple es n ps) (Ite K l) [e,it] e (λi h=>(∃old,IsEnum h e it i old)/\h.IsListIter it l i) where
 mem:=by simp
 obj:=λi h st b hb=>by
  obtain⟨⟨old,he⟩,⟨o1,e1,_,d1⟩⟩:=st;have hb':b=e\/b=it:=by simpa using hb
  rcases hb' with rfl|rfl
  ·exact⟨_,he,λv q=>by
    have q':Data.fields _=Data.cell v:=q;cases q'⟩
  ·exact⟨_,e1,λv q=>by rw[d1] at q;cases q⟩
 keep:=λi h h' st k=>by
  obtain⟨⟨old,he⟩,h1⟩:=st;exact⟨⟨old,k e (by simp) _ he⟩,h1.at λo e=>k it (by simp) o e⟩
 item:=by
  intro X hP hw hK hc i pins s σ H E I hf st hg;subst hP hw hK;obtain⟨xs,x,hx,ex⟩:=hg;obtain⟨⟨old,he⟩,h1⟩:=st;obtain⟨us,rv,p,_⟩:=I.list hx;obtain⟨u,hu,ru⟩:=rv.get ex;refine wpAny_pyNext_enum_item he h1 p.isList (x:=u) (by simpa using hu) hne λh' a1 a2 a3 a4 hk=> ?_;refine⟨_,rfl,wpAny_letOwnedTupleGo_enum (s:={s with heap:=h',toks:=s.toks+1}) a1 λh2' hz' sb=> ?_⟩;have lt: ∀{c o},s.heap.get? c=some o->s.heap.objs.size≠c:=λe=>Nat.ne_of_gt (Qb e);have hp:=I.hok.fresh (Je s.heap.objs.size);have pr:=sb.extBut _ _ (lt he) a3;have I1:Inv X pins σ (upd H s.heap.objs.size (.tup [.int i,x])) {s with heap:=h2',toks:=s.toks+1}:=by
   refine I.laidL (ch:= [e,it]) (t':=s.toks+1) (λb hb=>hf b hb) (λb o hb e'=> ?_) (Je _) ⟨qX (by simp), [.int i s.toks,u], .cons ⟨_,rfl⟩ (.cons ru .nil),⟨_,pr,rfl,_,rfl⟩⟩;have hb': ¬(b=e\/b=it):=λq=>hb (by simpa using q);exact sb.extBut _ _ (λq=>hb' (.inl q)) (hk b o (λq=>hb' (.inl q)) (λq=>hb' (.inr q)) e')
  refine⟨.ref s.heap.objs.size,_,I1,rfl,⟨_,rfl,hp,xL hp _,x,zN,λws hw=> ?_⟩,⟨⟨_,hz'⟩,a2.extBut sb.extBut hne.symm⟩,λb hb=> ?_⟩
  ·rw[I.list_inj hw hx];exact ex
  ·have hb':b=e\/b=it:=by simpa using hb
   have hs: ∃o,s.heap.get? b=some o:=by
    rcases hb' with rfl|rfl
    ·exact⟨_,he⟩
    ·exact⟨_,h1.choose_spec.1⟩
   obtain⟨o,e⟩:=hs;rw[zu (lt e).symm];exact(hf b hb).1
 done:=by
  intro X hP hw hK hc i pins s σ H E I hf st hg;subst hP hw hK;obtain⟨xs,hx,hl⟩:=hg;obtain⟨⟨old,he⟩,h1⟩:=st;obtain⟨us,rv,p,_⟩:=I.list hx;have e1:=rv.length;refine wpAny_pyNext_enum_end (I.ok.hd hc) he h1 p.isList (by simp;omega) λh' hk=>⟨rfl,?_⟩
  refine I.turnedL (ch:= [it]) (t':=s.toks) (λb hb=>hf b ?_) (λb o hb e=> ?_)
  ·have hb':b=it:=by simpa using hb
   simp [hb']
  ·exact hk b o (λq=>hb (by simpa using q)) e
 self:=λ_ _ _ _ _ st h=>wpAny_pyIter_enum st.1.choose_spec h
def qt(K:Fg)(ta:TA):TI:=λσ H R=>ta σ H λvs H1=> ∃a,vs= [.ref a]/\(∃xs,SqL K H1 a xs)/\R (Ite K a) H1
theorem uq{es:List Expr}{n:Nat}{ps:Pos}{a:Expr}{ta:TA}{p pos:Pos}(hg:Gl X "enumerate")(hm:X.mg "enumerate"=none)(ha:PA X [a] ta)(hs:starEach [a] X.env= [(false,eval a X.env)]:=by rfl):
  PI X (.Tuple es n ps) (.Call (.Name "enumerate" p) [a] [] pos) (qt X.K ta):=by
 intro pins s σ H R I h;refine Call_ (wM I hg hm boot_enumerate (PyProof.Rows.callWith_type1 (thn (ha pos pins s σ H _ I h) λus s1 ⟨vs,H1,I1,r1,q1⟩=> ?_) (by rw[hs];rfl) (by rfl)));obtain⟨i,e,⟨xs,hx⟩,q⟩:=q1;subst e;cases r1 with
 |cons r rr=>
  cases rr;cases r;obtain⟨us,rv,pl,_⟩:=I1.list hx;refine call_enumerate_list pl.isList λh' hz hi1 hsz hk=>wpAny_pyIter_enum hz ?_;refine⟨_, [s1.heap.objs.size+1,s1.heap.objs.size],_,_,H1,rfl,I1.kept (t':=s1.toks) hk,zkq _ _ _ (Nat.succ_ne_self _),⟨⟨_,hz⟩,hi1⟩,λb hb=> ?_,q⟩;have hb':b=s1.heap.objs.size+1\/b=s1.heap.objs.size:=by simpa using hb
  have le:s1.heap.objs.size<=b:=by
   rcases hb' with rfl|rfl
   ·exact Nat.le_add_right _ _
   ·exact Je _
  exact I1.fpOk le (I1.hok.fresh le)
theorem u8{xs:List V}{j k:Nat}{tb:TS}{D:Ends}(Pv:Nat->St->Hp->Prop)(h0:Pv 0 σ H)(hl: ∀i σ H,i<=xs.length->Pv i σ H->SqL K H a xs)
  (hp: ∀i σ H H',Pv i σ H->zh H H'->Pv i σ H')
  (hs: ∀i x σ H,xs[i]? =some x->Pv i σ H->tb {D with nx:=Pv (i+1),ct:=Pv (i+1),bk:=D.nx} ((σ.set j (some (.int i))).set k (some x)) H) (hd: ∀σ H,Pv xs.length σ H->D.nx σ H):
  zq2 (j8 K 2 (wN (xE j) (wN (xE k) vX))) tb D σ (Ite K a) H:=by
 refine⟨λi m σ H=>m=xs.length - i/\i<=xs.length/\Pv i σ H,⟨xs.length,by simp,Jv _,h0⟩,?_⟩;rintro i m σ H ⟨rfl,hi,p⟩;have q1:=hl i σ H hi p;by_cases hlt:i<xs.length
 ·refine .inr ⟨⟨xs,xs[i],q1,by simp [hlt]⟩,Pv (i+1),λσ' H' p'=>⟨xs.length - (i+1),'o',rfl,hlt,p'⟩,λv H' yl=> ?_⟩;obtain⟨pp,rfl,_,sm,x,e,ex⟩:=yl;exact⟨pp, [.int i,x],rfl,SqT.of e,rfl, .int i, [x],rfl,x, [],rfl,rfl,hs i x σ H' (ex xs q1) (hp i σ H H' p sm)⟩
 ·have e:i=xs.length:=by omega
  subst e;exact .inl ⟨⟨xs,q1,Je _⟩,hd σ H p⟩
theorem zge: ∀(ns:List Int) (j:Nat),(ns.eraseIdx j).map V.int=(ns.map V.int).eraseIdx j
 | [],_=>rfl
 |_::_,0=>rfl
 |x::r,j+1=>congrArg (V.int x:: ·) (zge r j)
inductive Ch where
 |plan (d:Int) (nm:List Nat)
 |seats (d n:Int)
 |word (w:Nat) (d:Int)
 |undo (k:Int)
 |grant (a:Int)
 |back
def xm:Nat->List Nat
 |0=> [104,111,108,100]
 |1=> [103,111]
 |2=> [115,116,111,112]
 |_=> [108,97,115,116]
def chD:Ch->List D
 | .plan d nm=> [.str [112,108,97,110], .int d, .str nm]
 | .seats d n=> [.str [115,101,97,116,115], .int d, .int n]
 | .word w d=> [.str (xm w), .int d]
 | .undo k=> [.str [117,110,100,111], .int k]
 | .grant a=> [.str [103,114,97,110,116], .int a]
 | .back=> [.str [98,97,99,107]]
theorem xW[Decidable c]{a b:Prop}(h:c)(x:a):if c then a else b:=by rw[Jg h];exact x
theorem yg[Decidable c]{a b:Prop}(h: ¬c)(x:b):if c then a else b:=by rw[Jf h];exact x
theorem qc{a b:List Nat}(h:a≠b): ¬V.str (SL a)=V.str (SL b):=λz=>h (by rw[V.str.injEq,ww] at z;exact z)
theorem zh.put(s:zh H H')(n:H a=none)(o:HO):zh H (upd H' a o):=λb u e=>by
 rw[zu (qa e n)];exact s b u e
abbrev En:=V×Addr×Int×Ch
def yP:Ch->Bool
 | .plan _ _=>true
 | .seats _ _=>true
 | .word _ _=>true
 |_=>false
def qO(n:Nat)(L:List Int):Ch->List Int
 | .undo k=>L.erase k
 | .grant _=>L
 | .back=>L
 |_=>L++ [(n:Int)]
def wX(cs:List Ch)(s:Nat×List Int):Nat×List Int:=cs.foldl (λs c=>(s.1+1,qO s.1 s.2 c)) s
def yt(cs:List Ch):List Int:=(wX cs (0, [])).2
theorem zfi(P:Nat->List Int->Prop)(hs: ∀n L c,P n L->P (n+1) (qO n L c)): ∀(cs:List Ch) (s:Nat×List Int),P s.1 s.2->P (wX cs s).1 (wX cs s).2
 | [],_,h=>h
 |c::r,s,h=>zfi P hs r (s.1+1,qO s.1 s.2 c) (hs _ _ _ h)
theorem u9: ∀(cs:List Ch) (s:Nat×List Int),(wX cs s).1=s.1+cs.length
 | [],_=>rfl
 |c::r,s=>by
  show (wX r (s.1+1,_)).1=_;rw[u9 r,Jp];omega
theorem zdL(cs:List Ch)(c:Ch):yt (cs++ [c])=qO cs.length (yt cs) c:=by
 unfold yt wX;rw[List.foldl_append];show qO (wX cs (0, [])).1 _ c=_;rw[u9];show qO (0+cs.length) _ c=_;rw[Nat.zero_add]
theorem wY(cs:List Ch):(yt cs).Nodup/\ ∀k∈yt cs,0<=k/\k<cs.length:=by
 have h:=zfi (λn L=>L.Nodup/\ ∀k∈L,0<=k/\k<(n:Int)) (λn L c ⟨h1,h2⟩=>by
  have old: ∀k∈L,0<=k/\k<((n+1:Nat):Int):=λk hk=>⟨(h2 k hk).1,by have:=(h2 k hk).2;omega⟩
  have new:(L++ [(n:Int)]).Nodup/\ ∀k∈L++ [(n:Int)],0<=k/\k<((n+1:Nat):Int):=by
   refine⟨List.nodup_append.mpr ⟨h1,List.nodup_cons.mpr ⟨λz=>(nomatch z),List.nodup_nil⟩,λa ha b hb e=> ?_⟩,λk hk=> ?_⟩
   ·rw[Jm.mp hb] at e
    have:=(h2 a ha).2;omega
   ·rcases Jr.mp hk with z|z
    ·exact old k z
    ·rw[Jm.mp z];omega
  cases c with
  |plan=>exact new
  |seats=>exact new
  |word=>exact new
  |undo k=>exact⟨h1.erase k,λk' hk=>old k' (List.mem_of_mem_erase hk)⟩
  |grant=>exact⟨h1,old⟩
  |back=>exact⟨h1,old⟩) cs (0, []) ⟨List.nodup_nil,λk hk=>(nomatch hk)⟩
 refine⟨h.1,λk hk=> ?_⟩
 have:=h.2 k hk;rw[u9] at this;have e:(0,([]:List Int)).1+cs.length=cs.length:=Nat.zero_add _;rw[e] at this;exact this
theorem zet(cs:List Ch):(yt cs).length<=cs.length:=by
 have h:=zfi (λn L=>L.length<=n) (λn L c h=>by
  cases c with
  |plan=>show (L++ [(n:Int)]).length<=n+1;rw[Jj,List.length_singleton];omega
  |seats=>show (L++ [(n:Int)]).length<=n+1;rw[Jj,List.length_singleton];omega
  |word=>show (L++ [(n:Int)]).length<=n+1;rw[Jj,List.length_singleton];omega
  |undo k=>exact JE (JE (List.length_erase_le ..) h) (Nat.le_succ n)
  |grant=>exact Nat.le_succ_of_le h
  |back=>exact Nat.le_succ_of_le h) cs (0, []) (Je 0)
 rw[u9] at h;have e:(0,([]:List Int)).1+cs.length=cs.length:=Nat.zero_add _;rw[e] at h;exact h
def kvG(g:Int->V)(L:List Int):List (Key×V):=L.map λk=>((Sum.inl k:Key),g k)
theorem ziH(g:Int->V)(x:Int): ∀L:List Int,yN (kvG g L) (Sum.inl x)=if x∈L then some (g x) else none
 | []=>rfl
 |k::r=>by
  unfold kvG;rw[JA];by_cases e:k=x
  ·subst e;rw[uh rfl,Jg Jq]
  ·rw[ui (by intro z;exact e (Sum.inl.inj z))];have ih:=ziH g x r;unfold kvG at ih;rw[ih];by_cases h:x∈r
   ·rw[Jg h,Jg (Jl _ h)]
   ·rw[Jf h,Jf (λz=>(JD.mp z).elim (λq=>e q.symm) h)]
theorem zpn(g:Int->V){x:Int}{L:List Int}(h:x∉L):yU (kvG g L) (Sum.inl x) (g x)=kvG g (L++ [x]):=by
 rw[zlz _ (by rw[ziH,Jf h])];unfold kvG;rw[Jd];rfl
theorem zjv(g:Int->V)(x:Int): ∀{L:List Int},L.Nodup->wB (kvG g L) (Sum.inl x)=kvG g (L.erase x)
 | [],_=>rfl
 |k::r,h=>by
  obtain⟨h1,h2⟩:=List.nodup_cons.mp h;have ih:=zjv g x h2;unfold kvG wB at ih ⊢;rw[JA,JU];by_cases e:k=x
  ·subst e;rw[Jf (by simp),List.erase_cons_head,ih,List.erase_of_not_mem h1]
  ·rw[Jg (by simpa using e),List.erase_cons_tail (by simpa using e),JA,ih]
def zrN(K:Fg)(H:Hp)(z:En):Prop:= ∃p,z.1= .ref p/\SqT K H p [.int z.2.2.1, .ref z.2.1]/\SqT K H z.2.1 ((chD z.2.2.2).map sv)
def yI(K:Fg)(H:Hp)(zs:List En):Prop:= ∀z∈zs,zrN K H z
theorem yI.same(h:yI K H zs)(s:zh H H'):yI K H' zs:=λz hz=>
 let ⟨p,e,q1,q2⟩:=h z hz;⟨p,e,s.sqT q1,s.sqT q2⟩
theorem yI.take{K:Fg}{H:Hp}{zs:List En}(h:yI K H zs)(n:Nat):yI K H (zs.take n):=λz hz=>h z (List.mem_of_mem_take hz)
def enD(z:En):D:= .tup [.int z.2.2.1, .tup (chD z.2.2.2)]
def jc(nms:List (List Nat))(f e:Int)(L:List Int):Ch->Prop
 | .plan d nm=>f<=d/\d<e/\nm∈nms
 | .seats d n=>f<=d/\d<e/\0<=n/\n<=1000000
 | .word w d=>w<4/\f<=d/\d<e
 | .undo k=>k∈L
 | .grant a=>1<=a/\a<10 ^ 30
 | .back=>True
def chs(zs:List En):List Ch:=zs.map λz=>z.2.2.2
theorem wZ(zs:List En)(n:Nat):chs (zs.take n)=(chs zs).take n:=List.map_take
theorem wC(zs:List En):(chs zs).length=zs.length:=Ja ..
def qz(nms:List (List Nat))(f e:Int)(zs:List En):Prop:= ∀i z,zs[i]? =some z->f<=z.2.2.1/\z.2.2.1<e/\(∀y∈zs.take i,y.2.2.1<=z.2.2.1)/\jc nms f e (yt (chs (zs.take i))) z.2.2.2
theorem ziI{i:Nat}{z:En}(h:zs[i]? =some z):yt (chs (zs.take (i+1)))=qO i (yt (chs (zs.take i))) z.2.2.2:=by
 have hi:=(Jc.mp h).1;have e:chs (zs.take (i+1))=chs (zs.take i)++ [z.2.2.2]:=by
  unfold chs;rw[JH,h,Jd];rfl
 rw[e,zdL,wC,JB,Nat.min_eq_left 'o']
theorem qz.nil{f:Int}:qz nms f e []:=λi z h=>by rw[List.getElem?_nil] at h;cases h
theorem qz.snoc{f:Int}{z:En}(h:qz nms f e zs)(h1:f<=z.2.2.1)(h2:z.2.2.1<e)(h3: ∀y∈zs,y.2.2.1<=z.2.2.1)(h4:jc nms f e (yt (chs zs)) z.2.2.2):qz nms f e (zs++ [z]):=λi y hy=>by
 by_cases hi:i<zs.length
 ·rw[List.getElem?_append_left hi] at hy;rw[List.take_append_of_le_length 'o'];exact h i y hy
 ·rw[List.getElem?_append_right 'o'] at hy;have e0:i=zs.length:=by
   have:=(Jc.mp hy).1;rw[List.length_singleton] at this;omega
  subst e0;rw[Nat.sub_self] at hy;cases hy;rw[List.take_append_of_le_length (Je _),JC];exact⟨h1,h2,h3,h4⟩
theorem zhI{p m:Addr}{xs ws:List V}(h:SqT K H p xs)(e:H l=some (.lst ys))(e2:H m=some (.lst ws))(k: ∀b o,b≠l->b≠m->H b=some o->H' b=some o):SqT K H' p xs:=by
 rcases h with(h|⟨ob,h⟩)|h
 ·exact .inl (.inl (k _ _ (λz=>by rw[z,e] at h;cases h) (λz=>by rw[z,e2] at h;cases h) h))
 ·exact .inl (.inr ⟨ob,k _ _ (λz=>by rw[z,e] at h;cases h) (λz=>by rw[z,e2] at h;cases h) h⟩)
 ·exact .inr h
structure EnInv (K:Fg) (H0 H:Hp) (le ll:Addr) (nms:List (List Nat)) (f e:Int) (zs:List En):Prop where
 same:zh H0 H
 n1:H0 le=none
 n2:H0 ll=none
 ne:le≠ll
 e1:H le=some (.lst (zs.map (·.1)))
 e2:H ll=some (.lst ((yt (chs zs)).map V.int))
 at':yI K H zs
 ok:qz nms f e zs
def chW:Ch->List Nat
 | .plan _ _=> [112,108,97,110]
 | .seats _ _=> [115,101,97,116,115]
 | .word w _=>xm w
 | .undo _=> [117,110,100,111]
 | .grant _=> [103,114,97,110,116]
 | .back=> [98,97,99,107]
theorem zhJ(c:Ch): ∃r,(chD c).map sv= .str (SL (chW c))::r:=by
 cases c<;>exact⟨_,rfl⟩
theorem zlK(c:Ch):all2 (Dp K H n) (chD c) ((chD c).map sv):=by
 cases c with
 |plan d nm=>exact⟨xx,qx,xx,trivial⟩
 |seats d m=>exact⟨xx,qx,qx,trivial⟩
 |word w d=>exact⟨xx,qx,trivial⟩
 |undo k=>exact⟨xx,qx,trivial⟩
 |grant a=>exact⟨xx,qx,trivial⟩
 |back=>exact⟨xx,trivial⟩
theorem yI.all2{K:Fg}{H:Hp}: ∀{zs:List En},yI K H zs->all2 (Dp K H 2) (zs.map enD) (zs.map (·.1))
 | [],_=>trivial
 |z::r,h=>by
  obtain⟨p,e,q1,q2⟩:=h z Jq;refine⟨?_,yI.all2 λy hy=>h y (Jl _ hy)⟩;show Dp K H 2 (enD z) z.1;rw[e];exact vz q1 ⟨qx,vz q2 (zlK _),trivial⟩
section
variable {X:Cx} {pins:List (Addr×Obj)} {σ:St} {H H':Hp} {s:Shared} {h':Heap} {t':Nat}
theorem Inv.laidAll(I:Inv X pins σ H s)(k: ∀b o,s.heap.get? b=some o->h'.get? b=some o)(ext: ∀b u,H b=some u->H' b=some u)(new: ∀b u,H' b=some u->H b=none->s.heap.objs.size<=b/\yy X.prog X.w H' h' b u):
  Inv X pins σ H' {s with heap:=h',toks:=t'}:=by
 refine I.step (g':=s.gens) (d':=s.drawn) (ch:= []) (λb hb=>(nomatch hb)) (λb o _ _ hc e _=>k b o e) (λb o _ _ hc e _=>⟨o.slots,k b o e⟩)
  (λb u _ e n=> ?_)
  (λb o hc e=>⟨o,k b o e⟩) (λb xs e=>ext _ _ e) (λb o u e=>ext _ _ e) (λb ps e=>⟨#[],by rw[ext _ _ e];simp⟩) (λm hm=> ?_) (λb u e=> ?_) I.bare
 ·rcases q:H' b with _|v
  ·rfl
  ·exact absurd (Qb e) (Nat.not_lt.mpr (new b v q n).1)
 ·obtain⟨o,es,ep,ho,r⟩:=hm;exact⟨o,es,ep,k _ o ho,r⟩
 ·rcases q:H b with _|v
  ·exact(new b u e q).2
  ·have e2:=ext b v q;rw[e] at e2;cases e2;exact(I.hok b u q).stay (λc v hc q=>k c v q) (λc q=>ext _ _ q) λc xs q=>ext _ _ q
end
def qI:List Addr->List (Key×V)->Hp->Hp
 |a::as,kv::kvs,H=>upd (qI as kvs H) a (.tup [kV kv.1,kv.2])
 |_,_,H=>H
theorem zfj{H:Hp}{b:Addr}: ∀{as:List Addr} {kvs:List (Key×V)},b∉as->qI as kvs H b=H b
 | [],_,_=>by unfold qI;rfl
 |_::_, [],_=>by unfold qI;rfl
 |a::as,kv::kvs,h=>by
  unfold qI;rw[zu (λz=>h (by rw[z];exact Jq)),zfj λz=>h (Jl _ z)]
theorem zgf{H:Hp}: ∀{as:List Addr} {kvs:List (Key×V)} {i:Nat} {p:Addr} {kv:Key×V},as.Pairwise (· < ·)->as[i]? =some p->kvs[i]? =some kv->qI as kvs H p=some (.tup [kV kv.1,kv.2])
 |a::as,kv::kvs,0,_,_,_,h1,h2=>by
  cases h1;cases h2;unfold qI;exact zN
 |a::as,kv::kvs,i+1,p,kv',hp,h1,h2=>by
  obtain⟨q1,q2⟩:=List.pairwise_cons.mp hp;have h1':as[i]? =some p:=by simpa using h1
  unfold qI;rw[zu (Nat.ne_of_gt (q1 p (Ji h1')))];exact zgf q2 h1' (by simpa using h2)
theorem zgg{H:Hp}{b:Addr}{u:HO}: ∀{as:List Addr} {kvs:List (Key×V)},as.Pairwise (· < ·)->qI as kvs H b=some u->H b=some u\/ ∃(i:Nat) (kv:Key×V),as[i]? =some b/\kvs[i]? =some kv/\u= .tup [kV kv.1,kv.2]
 | [],_,_,h=>by unfold qI at h;exact .inl h
 |_::_, [],_,h=>by unfold qI at h;exact .inl h
 |a::as,kv::kvs,hp,h=>by
  unfold qI at h;by_cases e:b=a
  ·subst e;rw[zN] at h;exact .inr ⟨0,kv,rfl,rfl,(JV h).symm⟩
  ·rw[zu e] at h;rcases zgg (List.pairwise_cons.mp hp).2 h with q|⟨i,kv',q1,q2,q3⟩
   ·exact .inl q
   ·exact .inr ⟨i+1,kv',by simpa using q1,by simpa using q2,q3⟩
theorem znQ{kvs:List (Key×V)}{vs:List (Key×Value)}(h:KV kvs vs): ∀{i:Nat} {kv:Key×V} {k:Key} {y:Value},kvs[i]? =some kv->vs[i]? =some (k,y)->kv.1=k/\zt kv.2 y:=by
 unfold KV at h;induction h with
 |nil=>intro i kv k y h1;rw[List.getElem?_nil] at h1;cases h1
 |cons r t ih=>
  intro i kv k y h1 h2;cases i with
  |zero=>cases h1;cases h2;exact r
  |succ i=>exact ih (i:=i) (by simpa using h1) (by simpa using h2)
theorem zfk: ∀as:List Addr,zw (as.map V.ref) (as.map Value.ref)
 | []=> .nil
 |_::r=> .cons rfl (zfk r)
def zlL(td:TE):TE:=λσ H Q=>td σ H λx H1=> ∃a kvs,x= .ref a/\H1 a=some (.dK kvs)/\ ∀l H2 (as:List Addr),H1 l=none->zh H1 H2->as.length=kvs.length->(∀(i:Nat) (kv:Key×V) (p:Addr),kvs[i]? =some kv->as[i]? =some p->H2 p=some (.tup [kV kv.1,kv.2]))->H2 l=some (.lst (as.map V.ref))->Q (.ref l) H2
theorem zgW{o:Expr}{td:TE}{p pos ap cp:Pos}(hc:X.calm=true)(hg:Gl X "list")(hm:X.mg "list"=none)(ho:PE X o td)(hb:attributeBase o "items" X.env (eval o X.env)=eval o X.env)(hline:(ap.endLine==cp.line)=true):
  PE X (.Call (.Name "list" p) [.Call (.Attribute o "items" ap) [] [] cp] [] pos) (zlL td):=by
 intro pins s σ H Q I h;refine wpAny_Call_Name_kw (wM I hg hm uQ ?_ 'd' 'd');refine PyProof.Rows.callWith_type1 ?_ yB rfl;show wpAny _ _ (spliced ((false,eval (.Call (.Attribute o "items" ap) [] [] cp) X.env)::backTo pos (starEach [] X.env))) _ _ s;refine Calls.spliced_cons ?_;refine wpAny_Call_method (T:="dict") (id:="dict.items") hb rfl hline PySem.F.plainAttrs_dict PySem.F.slot_dict_items PySem.F.type_dict_items (thn (ho pins s σ H _ I h) λu s1 ⟨x,H1,I1,rx,a,kvs,ex,ea,q⟩=> ?_);subst ex;obtain rfl:u=Value.ref a:=rx;obtain⟨z,hd,vs,rel,dd⟩:=uZ I1.hok ea;refine⟨dd.typeIs,dd.mapOf.noDict,?_⟩;show wpAny _ _ (callWith cp (.builtin "dict.items") [.ref a] [] []) _ _ s1;refine method_meetsIn PySem.F.slot_dict_items PySem.F.entry_dict_items rfl (PySem.evalArgs_none ⟨rfl,dd.typeIs,PySem.F.args_dict_items_1 _,_,meets_dict_items _ a hd,⟨vs,dd⟩,?_⟩);refine Calls.spliced_nil ?_;obtain⟨ep,hat⟩:=dd.dictAt;have kp0: ∀b o,s1.heap.get? b=some o->(s1.heap.push {cls:= .type "dict_items",data:= .fields #[.ref a]}).get? b=some o:=λb o e=>Qa _ e;refine PySem.W.kdx_call (knd:=yK X.prog X.w) (kvs:=vs) (ep:=ep) (I.ok.hd hc) ⟨_,Qc _ rfl,rfl,rfl⟩ (hat.at' λo e=>Qa _ e) (by rw[<-rel.length];exact z) λh' tk acc c as hk hS hl hG hacc=> ?_;obtain⟨l,hl0⟩: ∃l,l=s1.heap.objs.size+1:=⟨_,rfl⟩
 have el:(s1.heap.push {cls:= .type "dict_items",data:= .fields #[.ref a]}).objs.size=l:=by rw[Heap.size_push,hl0]
 replace hS:h'.get? l=some {cls:= .type "list",dict:=none,data:= .seq acc c,slots:= #[]}:=by rw[<-el];exact hS
 replace hG:PySem.W.KdxG (yK X.prog X.w) vs l h' as:=by rw[<-el];exact hG
 have kp: ∀b o,s1.heap.get? b=some o->h'.get? b=some o:=λb o e=>hk b o (kp0 b o e);have lkv:as.length=kvs.length:=hl.trans (show kvs.length=vs.length from rel.length).symm;have la:l∉as:=λm=>Nat.lt_irrefl _ (hG.above l m);have fresh: ∀b,s1.heap.objs.size<=b->H1 b=none:=λb hb=>I1.hok.fresh hb;have ext: ∀b u,H1 b=some u->upd (qI as kvs H1) l (.lst (as.map V.ref)) b=some u:=λb u e=>by
  have b1:b≠l:=λz=>by rw[z,fresh l 'o'] at e;cases e
  have b2:b∉as:=λm=>by rw[fresh b (Nat.le_of_lt (Nat.lt_trans (hl0 ▸ Nat.lt_succ_self _) (hG.above b m)))] at e;cases e
  rw[zu b1,zfj b2];exact e
 have new: ∀b u,upd (qI as kvs H1) l (.lst (as.map V.ref)) b=some u->H1 b=none->s1.heap.objs.size<=b/\yy X.prog X.w (upd (qI as kvs H1) l (.lst (as.map V.ref))) h' b u:=λb u e n=>by
  by_cases b1:b=l
  ·subst b1;rw[zN] at e;cases e;refine⟨'o',show yy X.prog X.w _ h' _ (.lst (as.map V.ref)) from⟨by rw[Ja,lkv];exact z,as.map Value.ref,c,zfk as,?_⟩⟩;rw[<-hacc,Array.toArray_toList];exact hS
  ·rw[zu b1] at e;rcases zgg hG.rise e with e1|⟨i,kv,q1,q2,rfl⟩
   ·rw[n] at e1;cases e1
   ·obtain⟨key,k,x,v1,v2,v3⟩:=hG.pairs i b q1;obtain⟨r1,r2⟩:=znQ rel q2 v1;have rk:zt (kV kv.1) key:=by
     rw[r1];rcases xq v2 with⟨j,t,rfl,ej⟩|⟨y,t,rfl,ej⟩
     ·rw[ej];exact⟨t,rfl⟩
     ·rw[ej];exact⟨t,rfl⟩
    refine⟨Nat.le_of_lt (Nat.lt_trans (hl0 ▸ Nat.lt_succ_self _) (hG.above b (Ji q1))),show yy X.prog X.w _ h' _ (.tup [kV kv.1,kv.2]) from⟨qX (by simp), [key,x], .cons rk (.cons r2 .nil),⟨_,v3,rfl,_,rfl⟩⟩⟩
 have ev:(s1.heap.push {cls:= .type "dict_items",data:= .fields #[.ref a]}).objs.size=l:=el;show EP X pins σ Q (Value.ref (s1.heap.push {cls:= .type "dict_items",data:= .fields #[.ref a]}).objs.size) {s1 with heap:=h',toks:=tk};rw[ev];exact⟨.ref l,_,I1.laidAll (t':=tk) kp ext new,rfl,q l _ as (fresh l 'o') ext lkv (λi kv p' h1 h2=>by rw[zu (λz=>la (by rw[<-z];exact Ji h2))];exact zgf hG.rise h2 h1) zN⟩
def enL(mo:Int)(z:En):Bool:=decide (z.2.2.1<=mo)
def mOf(zs:List En)(mo:Int):Nat:=(zs.filter (enL mo)).length
theorem vC(mo:Int): ∀{zs:List En},zs.Pairwise (λa b=>a.2.2.1<=b.2.2.1)->zs.filter (enL mo)=zs.take (mOf zs mo)/\ ∀(j:Nat) (z:En),zs[j]? =some z->(z.2.2.1<=mo↔j<mOf zs mo)
 | [],_=>⟨rfl,λj z h=>by rw[List.getElem?_nil] at h;cases h⟩
 |z::r,h=>by
  obtain⟨h1,h2⟩:=List.pairwise_cons.mp h;obtain⟨e,ih⟩:=vC mo h2;unfold mOf at e ih ⊢;by_cases q:z.2.2.1<=mo
  ·rw[List.filter_cons_of_pos (show enL mo z=true from JO q),Jp];refine⟨by rw[List.take_succ_cons,<-e],λj y hy=> ?_⟩;cases j with
   |zero=>cases hy;exact⟨λ_=>Nat.succ_pos _,λ_=>q⟩
   |succ j=>
    have:=ih j y (by simpa using hy);rw[this];omega
  ·rw[List.filter_cons_of_neg (show¬enL mo z=true from by unfold enL;simpa using q)];have nil:r.filter (enL mo)= []:=by
    rw[List.filter_eq_nil_iff];intro y hy
    have:=h1 y hy;unfold enL;simp only[decide_eq_true_eq];omega
   rw[nil];refine⟨rfl,λj y hy=>⟨λle=> ?_,λz0=>absurd z0 (Nat.not_lt_zero _)⟩⟩;cases j with
   |zero=>cases hy;exact absurd le q
   |succ j=>
    have:=h1 y (Ji (show r[j]? =some y by simpa using hy));omega
theorem qz.pair{f:Int}(h:qz nms f e zs):zs.Pairwise (λa b=>a.2.2.1<=b.2.2.1):=by
 rw[List.pairwise_iff_getElem];intro i j hi hj lt;refine(h j zs[j] (Jb hj)).2.2.1 zs[i] ?_;rw[List.mem_take_iff_getElem];exact⟨i,'o',rfl⟩
def yh:List Ch->List Int
 | []=> []
 | .undo k::r=>k::yh r
 |_::r=>yh r
theorem zeJ: ∀a b:List Ch,yh (a++b)=yh a++yh b
 | [],_=>rfl
 |c::r,b=>by
  have ih:=zeJ r b;cases c with
  |undo k=>show k::yh (r++b)=k::yh r++yh b;rw[ih];rfl
  |plan=>exact ih
  |seats=>exact ih
  |word=>exact ih
  |grant=>exact ih
  |back=>exact ih
def xX(o:Option Ch):Bool:=(o.map yP).getD false
def wD(cs:List Ch)(gs:List Int)(n:Nat):List Int:=((List.range n).filter (λj:Nat=>xX cs[j]? && !decide ((j:Int)∈gs))).map λj:Nat=>(j:Int)
theorem zlM(cs:List Ch)(gs:List Int)(n:Nat):wD cs gs (n+1)=wD cs gs n++(if (xX cs[n]? && !decide ((n:Int)∈gs))=true then [(n:Int)] else []):=by
 unfold wD;rw[JQ,JT,Jd];congr 1;by_cases h:(xX cs[n]? && !decide ((n:Int)∈gs))=true
 ·rw[Jg h,JU];exact congrArg (List.map _) (Jg h)
 ·rw[Jf h,JU];exact congrArg (List.map _) (Jf h)
def qJ(cs:List Ch):Prop:= ∀(i:Nat) (k:Int),cs[i]? =some (.undo k)->k∈yt (cs.take i)
theorem qJ.take{cs:List Ch}(h:qJ cs)(n:Nat):qJ (cs.take n):=λi k hi=>by
 rw[List.getElem?_take] at hi;split at hi
 ·rw[List.take_take,Nat.min_eq_left 'o'];exact h i k hi
 ·cases hi
theorem zgh(cs:List Ch)(ok:qJ cs): ∀n,n<=cs.length->yt (cs.take n)=wD cs (yh (cs.take n)) n/\ ∀k∈yh (cs.take n),k<n
 |0,_=>by
  rw[List.take_zero];exact⟨rfl,λk h=>(nomatch h)⟩
 |n+1,h=>by
  obtain⟨ih,lt⟩:=zgh cs ok n 'o';obtain⟨c,hc⟩: ∃c,cs[n]? =some c:=⟨cs[n],Jb 'o'⟩
  have et:cs.take (n+1)=cs.take n++ [c]:=by rw[JH,hc];rfl
  have ln:(cs.take n).length=n:=by rw[JB];omega
  have sn:yt (cs.take (n+1))=qO n (yt (cs.take n)) c:=by rw[et,zdL,ln]
  have gn:yh (cs.take (n+1))=yh (cs.take n)++yh [c]:=by rw[et,zeJ]
  rw[sn,gn,zlM,hc];have nin:(n:Int)∉yh (cs.take n):=λz=>by have:=lt _ z;omega
  have up: ∀k∈yh (cs.take n),k<((n+1:Nat):Int):=λk hk=>by have:=lt k hk;omega
  have term:yP c=true->yh [c]= []->qO n (yt (cs.take n)) c=yt (cs.take n)++ [(n:Int)]->qO n (yt (cs.take n)) c=wD cs (yh (cs.take n)++yh [c]) n++(if (xX (some c) && !decide ((n:Int)∈yh (cs.take n)++yh [c]))=true then [(n:Int)] else [])/\ ∀k∈yh (cs.take n)++yh [c],k<((n+1:Nat):Int):=λh1 h2 h3=>by
   rw[h2,Jt,h3,ih];refine⟨?_,up⟩;rw[Jg (by show (yP c && !decide _)=true;rw[h1,JP nin];rfl)]
  have other:yP c=false->yh [c]= []->qO n (yt (cs.take n)) c=yt (cs.take n)->qO n (yt (cs.take n)) c=wD cs (yh (cs.take n)++yh [c]) n++(if (xX (some c) && !decide ((n:Int)∈yh (cs.take n)++yh [c]))=true then [(n:Int)] else [])/\ ∀k∈yh (cs.take n)++yh [c],k<((n+1:Nat):Int):=λh1 h2 h3=>by
   rw[h2,Jt,h3,ih];refine⟨?_,up⟩;rw[Jf (by show¬(yP c && _)=true;rw[h1,Bool.false_and];exact Ju),Jt]
  cases c with
  |plan=>exact term rfl rfl rfl
  |seats=>exact term rfl rfl rfl
  |word=>exact term rfl rfl rfl
  |grant=>exact other rfl rfl rfl
  |back=>exact other rfl rfl rfl
  |undo k=>
   have hk:=ok n k hc;have nd:=(wY (cs.take n)).1;have kb:=(wY (cs.take n)).2 k hk;rw[ln] at kb;refine⟨?_,λk' hk'=> ?_⟩
   ·rw[Jf (by show¬(false && _)=true;rw[Bool.false_and];exact Ju),Jt];show (yt (cs.take n)).erase k=_;rw[nd.erase_eq_filter,ih];unfold wD;rw[List.filter_map,List.filter_filter];congr 1;refine List.filter_congr λj _=> ?_;show ((j:Int) !=k && (xX cs[j]? && !decide ((j:Int)∈yh (cs.take n))))=(xX cs[j]? && !decide ((j:Int)∈yh (cs.take n)++ [k]));have e1:decide ((j:Int)∈yh (cs.take n)++ [k])=(decide ((j:Int)∈yh (cs.take n))||decide ((j:Int)=k)):=by
     rw[Bool.eq_iff_iff,decide_eq_true_eq,Bool.or_eq_true,decide_eq_true_eq,decide_eq_true_eq,Jr,Jm]
    rw[e1];have e2:((j:Int) !=k)= !decide ((j:Int)=k):=by
     rw[bne,Bool.beq_eq_decide_eq]
    rw[e2];cases xX cs[j]? <;>cases decide ((j:Int)∈yh (cs.take n))<;>cases decide ((j:Int)=k)<;>rfl
   ·rcases Jr.mp hk' with q|q
    ·exact up _ q
    ·have:k'=k:=Jm.mp q;omega
end L2
namespace L2.So
open PySem PySem.W PyProof.Rows
variable{α:Type}{n i m:Nat}{r:Nat->Int}
def Ev(n:Nat)(r:Nat->Int){α:Type}:KasT α->(α->Prop)->Prop
 | .ret a,Q=>Q a
 | .ask i j k,Q=>(i<n/\j<n/\i≠j)/\Ev n r (k (decide (r i<r j))) Q
theorem Ev.bind{n:Nat}{r:Nat->Int}{α β:Type}{f:α->KasT β}{Q:β->Prop}: ∀{t:KasT α},Ev n r t (λa=>Ev n r (f a) Q)->Ev n r (t.bind f) Q
 | .ret _,h=>h
 | .ask _ _ k,h=>⟨h.1,Ev.bind (t:=k _) h.2⟩
theorem Ev.mono{n:Nat}{r:Nat->Int}{α:Type}{Q Q':α->Prop}(hq: ∀a,Q a->Q' a): ∀{t:KasT α},Ev n r t Q->Ev n r t Q'
 | .ret a,h=>hq a h
 | .ask _ _ k,h=>⟨h.1,Ev.mono hq (t:=k _) h.2⟩
theorem Ev.wp{n:Nat}{r:Nat->Int}{α:Type}{cmp:Nat->Nat->(Bool->Shared->Prop)->Shared->Prop}{s:Shared}(hc: ∀i j C,i<n->j<n->i≠j->C (decide (r i<r j)) s->cmp i j C s){Q:α->Prop}{G:α->Shared->Prop}(hq: ∀a,Q a->G a s): ∀{t:KasT α},Ev n r t Q->t.kasWp cmp G s
 | .ret a,h=>hq a h
 | .ask i j k,h=>hc i j _ h.1.1 h.1.2.1 h.1.2.2 (Ev.wp hc hq (t:=k _) h.2)
theorem Ev.yes{j:Nat}{k:Bool->KasT α}{Q:α->Prop}(hi:i<n)(hj:j<n)(h:r i<r j)(e:Ev n r (k true) Q):Ev n r (.ask i j k) Q:=⟨⟨hi,hj,λz=>by rw[z] at h;omega⟩,by rw[JO h];exact e⟩
theorem Ev.no{j:Nat}{k:Bool->KasT α}{Q:α->Prop}(hi:i<n)(hj:j<n)(hn:i≠j)(h: ¬r i<r j)(e:Ev n r (k false) Q):Ev n r (.ask i j k) Q:=⟨⟨hi,hj,hn⟩,by rw[JP h];exact e⟩
def fv(r:Nat->Int)(p:Array Nat)(k:Nat):Int:=r (p.getD k 0)
def Ok(n:Nat)(p:Array Nat):Prop:=p.Perm (List.range n).toArray
def Up(r:Nat->Int)(p:Array Nat)(m:Nat):Prop:= ∀i j,i<j->j<m->fv r p i<fv r p j
def Dn(r:Nat->Int)(p:Array Nat)(m:Nat):Prop:= ∀i j,i<j->j<m->fv r p j<fv r p i
theorem Ok.size{n:Nat}{p:Array Nat}(h:Ok n p):p.size=n:=by
 have:=h.size_eq;simpa using this
theorem Ok.lt{p:Array Nat}(h:Ok n p){k:Nat}(hk:k<n):p.getD k 0<n:=by
 have hs:=h.size;have e:p.getD k 0=p[k]:=by simp [Array.getD,hs,hk]
 have m:p[k]∈p:=Array.getElem_mem _;rw[e]
 have:=(h.mem_iff).mp m;simpa using this
theorem Ok.ne{p:Array Nat}(h:Ok n p){j:Nat}(hij:i<j)(hj:j<n):p.getD i 0≠p.getD j 0:=by
 have hs:=h.size;have e1:p.getD i 0=p.toList[i]'(by simp;omega):=by simp [Array.getD,hs,show i<n by omega]
 have e2:p.getD j 0=p.toList[j]'(by simp;omega):=by simp [Array.getD,hs,hj]
 have nd:p.toList.Nodup:=(h.toList.nodup_iff).mpr (by simpa using List.nodup_range);rw[e1,e2];exact List.pairwise_iff_getElem.mp nd i j _ _ hij
def Inj(n:Nat)(r:Nat->Int):Prop:= ∀i j,i<n->j<n->i≠j->r i≠r j
theorem Ok.fne(hr:Inj n r){p:Array Nat}(h:Ok n p){j:Nat}(hij:i<j)(hj:j<n):fv r p i≠fv r p j:=hr _ _ (h.lt 'o') (h.lt hj) (h.ne hij hj)
theorem Up.one{p:Array Nat}(h:Up r p m)(h1:1<=m)(hl:fv r p (m - 1)<fv r p m):Up r p (m+1):=λi j hij hj=>by
 by_cases e:j=m
 ·subst e;by_cases e2:i=j - 1
  ·rw[e2];exact hl
  ·exact Int.lt_trans (h i (j - 1) 'o' 'o') hl
 ·exact h i j hij 'o'
theorem Dn.one{p:Array Nat}(h:Dn r p m)(h1:1<=m)(hl:fv r p m<fv r p (m - 1)):Dn r p (m+1):=λi j hij hj=>by
 by_cases e:j=m
 ·subst e;by_cases e2:i=j - 1
  ·rw[e2];exact hl
  ·exact Int.lt_trans hl (h i (j - 1) 'o' 'o')
 ·exact h i j hij 'o'
section
variable {n:Nat} {r:Nat->Int} (hr:Inj n r)
include hr
theorem zpo{p:Array Nat}(ho:Ok n p): ∀(f m:Nat),m+f=n->1<=m->Up r p m->Ev n r (kas_asc p f m) (λx=>1<=x/\m<=x/\x<=n/\Up r p x/\(x=n\/fv r p x<fv r p (x - 1)))
 |0,m,hm,h1,hu=>⟨h1,Je _,'o',hu, .inl 'o'⟩
 |f+1,m,hm,h1,hu=>by
  unfold kas_asc;by_cases c:fv r p m<fv r p (m - 1)
  ·refine Ev.yes (ho.lt 'o') (ho.lt 'o') c ?_;rw[Jg rfl];exact⟨h1,Je _,'o',hu, .inr c⟩
  ·refine Ev.no (ho.lt 'o') (ho.lt 'o') (ho.ne 'o' 'o').symm c ?_;rw[Jf 'd']
   have:=ho.fne hr (i:=m - 1) (j:=m) 'o' 'o';exact(zpo ho f (m+1) 'o' 'o' (hu.one h1 'o')).mono λx h=>⟨h.1,'o',h.2.2⟩
theorem zox{p:Array Nat}(ho:Ok n p): ∀(f m:Nat),m+f=n->1<=m->Dn r p m->Ev n r (kas_desc f p m 0) (λx=>x.1=p/\x.2.2=0/\m<=x.2.1/\x.2.1<=n/\Dn r p x.2.1)
 |0,m,hm,h1,hu=>⟨rfl,rfl,Je _,by show m<=n;omega,hu⟩
 |f+1,m,hm,h1,hu=>by
  unfold kas_desc;by_cases c:fv r p m<fv r p (m - 1)
  ·refine Ev.yes (ho.lt 'o') (ho.lt 'o') c ?_;rw[Jg rfl,Jf 'd'];exact(zox ho f (m+1) 'o' 'o' (hu.one h1 c)).mono λx h=>⟨h.1,h.2.1,'o',h.2.2.2⟩
  ·have:=ho.fne hr (i:=m - 1) (j:=m) 'o' 'o';refine Ev.no (ho.lt 'o') (ho.lt 'o') (ho.ne 'o' 'o').symm c ?_;rw[Jf 'd'];refine Ev.yes (ho.lt 'o') (ho.lt 'o') (show fv r p (m - 1)<fv r p m by omega) ?_;rw[Jg rfl];exact⟨rfl,rfl,Je _,by show m<=n;omega,hu⟩
theorem zlN{p:Array Nat}(ho:Ok n p)(i j:Nat):Ok n (kas_rev p i j):=(mirror_perm p i j _).trans ho
theorem zlO{p:Array Nat}(ho:Ok n p)(hm:m<=n){k:Nat}(hk:k<m):fv r (kas_rev p 0 m) k=fv r p (m - 1 - k):=by
 have e:=getElem?_mirror_all (xs:=p) (i:=0) (j:=m) (by rw[ho.size];exact hm) k;rw[Jg ⟨'o',hk⟩] at e;unfold fv kas_rev;rw[Array.getD_eq_getD_getElem?,Array.getD_eq_getD_getElem?,e,Nat.zero_add]
theorem zq7{p:Array Nat}(ho:Ok n p)(h1:1<=m)(hm:m<=n)(hd:Dn r p m):Ev n r (kas_tail3 m n p) (λx=>1<=x.1/\x.1<=n/\Ok n x.2/\Up r x.2 x.1):=by
 unfold kas_tail3;refine Ev.bind ((zpo hr (zlN hr ho 0 m) (n - m) m 'o' h1 λi j hij hj=> ?_).mono λx h=>⟨h.1,h.2.2.1,zlN hr ho 0 m,h.2.2.2.1⟩);rw[zlO hr ho hm 'o',zlO hr ho hm hj];exact hd _ _ 'o' 'o'
theorem zpp{p:Array Nat}(ho:Ok n p)(h1:1<=n):Ev n r (kas_count n p) (λx=>1<=x.1/\x.1<=n/\Ok n x.2/\Up r x.2 x.1):=by
 unfold kas_count;refine Ev.bind ((zpo hr ho (n - 1) 1 'o' (Je _) λi j hij hj=>by omega).mono λx h=> ?_);obtain⟨a1,_,a2,hu,hx⟩:=h;by_cases e:x=n
 ·rw[Jg (by simp [e])];exact⟨a1,a2,ho,hu⟩
 rw[Jf (by simp [e])];by_cases e1:x>1
 ·rw[Jg e1];refine Ev.yes (ho.lt 'o') (ho.lt 'o') (hu 0 (x - 1) 'o' 'o') ?_;rw[Jg rfl];exact⟨a1,a2,ho,hu⟩
 rw[Jf e1];obtain rfl:x=1:=by omega
 have c:fv r p 1<fv r p 0:=hx.resolve_left e;unfold kas_descPart;refine Ev.bind ((zox hr ho (n - 2) 2 'o' 'o' λi j hij hj=> ?_).mono λy h=> ?_)
 ·obtain rfl:i=0:=by omega
  obtain rfl:j=1:=by omega
  exact c
 ·obtain⟨y1,y2,y3⟩:=y;obtain⟨b1,b2,b3,b4,b5⟩:=h;dsimp only at b1 b2 b3 b4 b5 ⊢;subst b1 b2;rw[Jf 'd'];exact zq7 hr ho 'o' b4 b5
theorem ziJ{p:Array Nat}(ho:Ok n p){k:Nat}(hk:k<n)(hu:Up r p k): ∀(f a b:Nat),b - a<=f->a<=b->b<=k->(∀i,i<a->fv r p i<fv r p k)->(∀i,b<=i->i<k->fv r p k<fv r p i)->Ev n r (kas_place p k f a b) (λl=>l<=k/\(∀i,i<l->fv r p i<fv r p k)/\ ∀i,l<=i->i<k->fv r p k<fv r p i)
 |0,a,b,hf,ab,bk,h1,h2=>by
  obtain rfl:a=b:=by omega
  exact⟨bk,h1,h2⟩
 |f+1,a,b,hf,ab,bk,h1,h2=>by
  unfold kas_place;by_cases e:a≥b
  ·rw[Jg e];obtain rfl:a=b:=by omega
   exact⟨bk,h1,h2⟩
  rw[Jf e];by_cases c:fv r p k<fv r p ((a+b) / 2)
  ·refine Ev.yes (ho.lt hk) (ho.lt 'o') c ?_;rw[Jg rfl];refine ziJ ho hk hu f a ((a+b) / 2) 'o' 'o' 'o' h1 λi hi ik=> ?_;by_cases z:i=(a+b) / 2
   ·rw[z];exact c
   ·exact Int.lt_trans c (hu _ _ 'o' ik)
  ·refine Ev.no (ho.lt hk) (ho.lt 'o') (ho.ne 'o' hk).symm c ?_;rw[Jf 'd']
   have:=ho.fne hr (i:=(a+b) / 2) (j:=k) 'o' hk;refine ziJ ho hk hu f ((a+b) / 2+1) b 'o' 'o' bk (λi hi=> ?_) h2;by_cases z:i=(a+b) / 2
   ·rw[z];omega
   ·exact Int.lt_trans (hu i ((a+b) / 2) 'o' 'o') 'o'
theorem zq8: ∀(f k:Nat) {p:Array Nat},Ok n p->k+f=n->Up r p k->Ev n r (kas_bin f p k) (λq=>Ok n q/\Up r q n)
 |0,k,p,ho,hk,hu=>⟨ho,by
  obtain rfl:k=n:=by omega
  exact hu⟩
 |f+1,k,p,ho,hk,hu=>by
  unfold kas_bin;refine Ev.bind ((ziJ hr ho 'o' hu k 0 k 'o' 'o' (Je _) (λi hi=>by omega) λi h1 h2=>by omega).mono λl h=> ?_);obtain⟨lk,h1,h2⟩:=h;have ho':Ok n (bubble p k (k - l)):=(bubble_perm p k _).trans ho;refine zq8 f (k+1) ho' 'o' λi j hij hj=> ?_;have at_: ∀x,fv r (bubble p k (k - l)) x=if x=l then fv r p k else if l<x/\x<=k then fv r p (x - 1) else fv r p x:=λx=>by
   have e:=getElem?_bubble (xs:=p) (src:=k) (by rw[ho.size];omega) (k - l) 'o' x;rw[show k - (k - l)=l by omega] at e;unfold fv;rw[Array.getD_eq_getD_getElem?,e];by_cases z1:x=l
   ·rw[Jg z1,Jg z1,Array.getD_eq_getD_getElem?]
   ·rw[Jf z1,Jf z1];by_cases z2:l<x/\x<=k
    ·rw[Jg z2,Jg z2,Array.getD_eq_getD_getElem?]
    ·rw[Jf z2,Jf z2,Array.getD_eq_getD_getElem?]
  rw[at_,at_];by_cases z1:i=l
  ·rw[Jg z1,Jf 'o',Jg 'o'];exact h2 _ 'o' 'o'
  ·rw[Jf z1];by_cases z2:l<i
   ·rw[Jg 'o',Jf 'o',Jg 'o'];exact hu _ _ 'o' 'o'
   ·rw[Jf 'o'];by_cases z3:j=l
    ·rw[Jg z3];exact h1 i 'o'
    ·rw[Jf z3];by_cases z4:l<j
     ·rw[Jg 'o'];exact hu _ _ 'o' 'o'
     ·rw[Jf 'o'];exact hu _ _ hij 'o'
theorem zq9(h1:1<=n):Ev n r (kas_sort n) (λp=>Ok n p/\Up r p n):=by
 unfold kas_sort;refine Ev.bind ((zpp hr (Array.Perm.refl _) h1).mono λx h=> ?_);obtain⟨a1,a2,ho,hu⟩:=h;by_cases e:x.1<n
 ·rw[Jg e,Nat.max_eq_left a1];exact zq8 hr (n - x.1) x.1 ho 'o' hu
 ·rw[Jf e];obtain e2:x.1=n:=by omega
  rw[e2] at hu;exact⟨ho,hu⟩
end
end L2.So
namespace L2.So
open PySem PySem.W PySem.Calls PyProof.Rows
def Tr(h:Heap)(v:Value)(a b c:Int):Prop:= ∃ad o xs k t1 t2 t3 rest,v= .ref ad/\h.get? ad=some o/\o.cls= .type "tuple"/\o.data= .seq xs k/\xs.toList= .int a t1:: .int b t2:: .int c t3::rest
theorem Tr.keep{h h':Heap}{v:Value}{a b c:Int}(k: ∀b o,h.get? b=some o->h'.get? b=some o):Tr h v a b c->Tr h' v a b c
 |⟨ad,o,xs,n,t1,t2,t3,rest,e1,e2,r⟩=>⟨ad,o,xs,n,t1,t2,t3,rest,e1,k _ _ e2,r⟩
section
variable {prog:Program} {w:World} {A:Around} {E:Value->Shared->Prop} {s:Shared}
theorem ziK{b fin:Bool}{Q:Bool->Shared->Prop}{x y:Int}{t u:Tok}{r:List (Value×Value)}{i:Nat}(h1:x=y->KatLex prog w A b fin Q r (i+1) s)(h2:x≠y->wpAny (model prog w) A (oneLt' (b && i==0) (.int x t) (.int y u)) Q (λ_ _=>False) s):KatLex prog w A b fin Q ((.int x t, .int y u)::r) i s:=by
 refine kat_cons (wpAny_eqBool_int (kat_go (λe=>kat_yes (h1 (by simpa using e))) λe=>kat_no (h2 (by simpa using e))))
theorem zra{v v':Value}{a b c a' b' c':Int}{Q:Bool->Shared->Prop}{R R':Int}(h:Tr s.heap v a b c)(h':Tr s.heap v' a' b' c')(hc:c≠c')(hR:R<R'↔a<a'\/a=a'/\(b<b'\/b=b'/\c<c'))(q:Q (decide (R<R')) s):wpAny (model prog w) A (keyLt' (tuples' true) v v') Q E s:=by
 obtain⟨ad,o,xs,n,t1,t2,t3,rest,rfl,e2,_,e4,e5⟩:=h;obtain⟨ad',o',xs',n',u1,u2,u3,rest',rfl,f2,_,f4,f5⟩:=h';refine kat_lt e2 e4 f2 f4 ?_;rw[e5,f5];refine ziK (λz1=>ziK (λz2=>ziK (λz3=>absurd z3 hc) λz3=> ?_) λz2=> ?_) λz1=> ?_
 ·refine kat_one _ _ (PyProof.Rows.lt_int (show Q (decide (c<c')) s from ?_));rw[show (decide (c<c'))=decide (R<R') from decide_eq_decide.mpr (by rw[hR];omega)];exact q
 ·refine kat_one _ _ (PyProof.Rows.lt_int (show Q (decide (b<b')) s from ?_));rw[show (decide (b<b'))=decide (R<R') from decide_eq_decide.mpr (by rw[hR];omega)];exact q
 ·refine oneLt_int ?_;rw[show (decide (a<a'))=decide (R<R') from decide_eq_decide.mpr (by rw[hR];omega)];exact q
end
end L2.So
namespace L2.So
open PySem PySem.W PySem.Calls PyProof.Rows
variable{h:Heap}
section
variable {prog:Program} {w:World} {A:Around} {E:Value->Shared->Prop} {s:Shared} {vs:List Value} {r:Nat->Int} {ka kb kc:Nat->Int}
structure Keys (h:Heap) (vs:List Value) (r ka kb kc:Nat->Int):Prop where
 tup: ∀i,i<vs.length->Tr h (vs.getD i Value.none) (ka i) (kb i) (kc i)
 num: ∀i j,i<vs.length->j<vs.length->i≠j->kc i≠kc j
 rank: ∀i j,i<vs.length->j<vs.length->(r i<r j↔ka i<ka j\/ka i=ka j/\(kb i<kb j\/kb i=kb j/\kc i<kc j))
theorem Keys.keep{h h':Heap}(k: ∀b o,h.get? b=some o->h'.get? b=some o)(H:Keys h vs r ka kb kc):Keys h' vs r ka kb kc:=⟨λi hi=>(H.tup i hi).keep k,H.num,H.rank⟩
theorem Keys.inj(H:Keys h vs r ka kb kc):Inj vs.length r:=λi j hi hj hn e=>by
 have:=H.num i j hi hj hn;have h1:=H.rank i j hi hj;have h2:=H.rank j i hj hi;rcases Int.lt_trichotomy (kc i) (kc j) with z|z|z
 ·omega
 ·exact this z
 ·omega
theorem zjw{h:Heap}{ka kb kc:Nat->Int}: ∀(vs:List Value) (o:Nat),(∀i,i<vs.length->Tr h (vs.getD i Value.none) (ka (o+i)) (kb (o+i)) (kc (o+i)))-> ∃fs,KatTups h vs fs/\fs.length=vs.length/\ ∀v∈fs,∃x t,v=Value.int x t
 | [],_,_=>⟨[],trivial,rfl,λ_ hv=>nomatch hv⟩
 |v::vs,o,H=>by
  obtain⟨fs,h1,h2,h3⟩:=zjw (ka:=ka) (kb:=kb) (kc:=kc) vs (o+1) λi hi=>by
   have:=H (i+1) (by rw[Jp];omega);rwa[List.getD_cons_succ,show o+(i+1)=o+1+i by omega] at this
  obtain⟨ad,ob,xs,k,t1,t2,t3,rest,e1,e2,e3,e4,e5⟩:=H 0 (by rw[Jp];omega);rw[List.getD_cons_zero] at e1;subst e1;refine⟨.int (ka (o+0)) t1::fs,KatTups.cons e2 e3 e4 ?_ h1,by rw[Jp,Jp,h2],λv hv=> ?_⟩
  ·rw[<-JG,e5];rfl
  ·rcases JD.mp hv with rfl|hv
   ·exact⟨_,_,rfl⟩
   ·exact h3 v hv
theorem ziL{a:Addr}{n:Nat}{P:PySem.Fin->Shared->Prop}(ho:s.heap.get? a=some (seqObj "list" vs.toArray n))(hK:Keys s.heap vs r ka kb kc)(hna: ∀i,i<vs.length->vs.getD i Value.none≠ .ref a)(h2:2<=vs.length)(h64:vs.length<64)
  (h: ∀p:Array Nat,Ok vs.length p->Up r p vs.length->P (.done (.ret .none)) {s with heap:=sortedHeap s.heap a vs (List.toArray (p.toList.map λi=>vs.getD i Value.none))}):wpAny (model prog w) A (Builtin.«list.sort» ⟨[.ref a], []⟩) P E s:=by
 have ha:a<s.heap.objs.size:=Qb ho;obtain⟨e1,g1⟩: ∃e1,(s.heap.update a (Obj.mapSeq λ_=>(#[]:Array Value))).get? a=some (seqObj "list" #[] e1):=⟨_,get?_update_seq ho λ_=> #[]⟩
 obtain⟨h3,hh3⟩: ∃h3,h3=((s.heap.update a (Obj.mapSeq λ_=>(#[]:Array Value))).push (seqObj "tuple" vs.toArray 0)).push (seqObj "list" #[] 0):=⟨_,rfl⟩
 have g3:h3.get? a=some (seqObj "list" #[] e1):=by rw[hh3];exact Qa _ (Qa _ g1)
 have K3:Keys h3 vs r ka kb kc:=⟨λi hi=>by
  obtain⟨ad,o,xs,k,t1,t2,t3,rest,q1,q2,q3⟩:=hK.tup i hi;refine⟨ad,o,xs,k,t1,t2,t3,rest,q1,?_,q3⟩;rw[hh3];refine Qa _ (Qa _ ?_);rw[Heap.get?_update_ne _ _ _ _ λz=>hna i hi (by rw[q1,z])];exact q2,hK.num,hK.rank⟩
 rw[list_sort_plain];refine JW (listItems_at ho rfl (JW (listUpdate_at ho rfl ?_ (by rw[Jn,sizeLine_eq];omega) (Jv _))));refine JW (seqEpoch_at g1 rfl (JW (wpAny_newTuple ?_ (by show vs.length<=_;rw[sizeLine_eq];omega))));refine JW (wpAny_newList (wpAny_holding ?_) (Jv _));show wpAny (model prog w) A _ P E {s with heap:=((s.heap.update a (Obj.mapSeq λ_=> #[])).push (seqObj "tuple" vs.toArray 0)).push (seqObj "list" #[] 0)};rw[<-hh3];dsimp only;have n2: ¬vs.toArray.size<2:=by rw[Jn];omega
 rw[Jf n2,Jf n2];obtain⟨fs,f1,f2,f3⟩:=zjw (ka:=ka) (kb:=kb) (kc:=kc) vs 0 (λi hi=>by rw[Nat.zero_add];exact K3.tup i hi);refine JW (kat_kind (s:={s with heap:=h3}) (T:= .type "int") f1 'o' (λv hv=> ?_) 'd' ?_)
 ·obtain⟨x,t,rfl⟩:=f3 v hv;exact .now
 refine JW (wpAny_mono (kat_run (Q:=λst' s'=> ∃p:Array Nat,Ok vs.length p/\Up r p vs.length/\arrOf st'=p.map (kas_item (vs.toArray.zip vs.toArray))/\failedOf st'=none/\s'={s with heap:=h3})
  (G:=λp s'=>Ok vs.length p/\Up r p vs.length/\s'={s with heap:=h3}) rfl h2 h64 (λp st' s' a1 a2 a3 a4=>⟨p,a4.1,a4.2.1,a2,a3,a4.2.2⟩) (Ev.wp (λi j C hi hj hn q=> ?_) (λp q=>⟨q.1,q.2,rfl⟩) (zq9 K3.inj 'o'))) ?_ λ_ _ e=>e)
 ·exact zra (K3.tup i hi) (K3.tup j hj) (K3.num i j hi hj hn) (K3.rank i j hi hj) q
 rintro⟨⟨⟩,st'⟩ s' ⟨p,a1,a2,a3,a4,rfl⟩;dsimp only;have hout:=kat_snds rfl a3;have hsz:(List.toArray (p.toList.map λi=>vs.getD i Value.none)).size=vs.length:=by rw[Jn,Ja,Jx,a1.size]
 rw[hout];refine JW (seqEpoch_at g3 rfl (JW (listUpdate_at g3 rfl ?_ (Jv _) (JE (Nat.le_of_eq hsz) (by rw[sizeLine_eq];omega)))));rw[a4];simp only[bne_self_eq_false,Js,if_false];refine JX ?_
 have:=h p a1 a2;unfold sortedHeap at this;rw[<-hh3] at this;exact this
theorem sorted_tups{l:Addr}{Q:Value->Shared->Prop}(hl:s.heap.IsList l vs.toArray)(hK:Keys s.heap vs r ka kb kc)(h2:2<=vs.length)(h64:vs.length<64)
  (h: ∀p:Array Nat,Ok vs.length p->Up r p vs.length->Q (.ref (s.heap.objs.size+1)) {s with heap:=sortedAll s.heap vs (List.toArray (p.toList.map λi=>vs.getD i Value.none))}):wpAny (model prog w) A (call (.builtin "sorted") [.ref l]) Q E s:=by
 obtain⟨h2',hh2⟩: ∃h2',h2'=((s.heap.push (seqObj "list" #[] 0)).update s.heap.objs.size (Obj.mapSeq (· ++vs.toArray))).push (seqObj "list" vs.toArray 0):=⟨_,rfl⟩
 have hsz:((s.heap.push (seqObj "list" #[] 0)).update s.heap.objs.size (Obj.mapSeq (· ++vs.toArray))).objs.size=s.heap.objs.size+1:=by rw[Heap.size_update];exact size_push' ..
 have g2:h2'.get? (s.heap.objs.size+1)=some (seqObj "list" vs.toArray 0):=by rw[hh2,<-hsz];exact Qc _ rfl
 have keep: ∀b o,s.heap.get? b=some o->h2'.get? b=some o:=λb o q=>by
  have hlt:b<s.heap.objs.size:=Qb q;rw[hh2];refine Qa _ ?_;rw[Heap.get?_update_ne _ _ _ _ (JK hlt)];exact Qa _ q
 refine Calls.call_function_entry kind_sorted plain_sorted entry_sorted (args_sorted1 _) ?_;unfold Builtin.«sorted»;refine JW (m:=checkCount "sorted" 1 1 _) (JX (JW (collect_list hl (JW (wpAny_newList ?_ (by rw[sizeLine_eq];omega))) (by rw[sizeLine_eq];omega))));show wpAny _ _ _ _ _ {s with heap:=((s.heap.push (seqObj "list" #[] 0)).update s.heap.objs.size (Obj.mapSeq (· ++vs.toArray))).push _};rw[hsz,<-hh2];refine JW (wpAny_holding (wpAny_call_entry slot_list_sort ⟨_,g2,rfl⟩ entry_list_sort (ziL (s:={s with heap:=h2'}) g2 (hK.keep keep) (λi hi z=> ?_) h2 h64 λp a1 a2=>⟨_,rfl,JX ⟨_,rfl,?_⟩⟩) (args_list_sort _)))
 ·obtain⟨ad,o,xs,k,t1,t2,t3,rest,q1,q2,q3⟩:=hK.tup i hi;rw[z] at q1;cases q1;exact absurd (Qb q2) (Nat.not_lt.mpr (Nat.le_succ _))
 ·have:=h p a1 a2;unfold sortedAll at this;rw[<-hh2] at this;exact this
end
end L2.So
namespace L2
open PySem PySem.Spec PyProof.Rows
abbrev Tz:=Addr×Int×Int×Int
def rkT(z:Tz):Int:=(z.2.1*4000000+z.2.2.1)*64+z.2.2.2
def ur(z:Tz):Prop:=(0<=z.2.1/\z.2.1<4000000)/\(0<=z.2.2.1/\z.2.2.1<4000000)/\0<=z.2.2.2/\z.2.2.2<64
theorem zgi: ∀as:List Addr,zw (as.map V.ref) (as.map Value.ref)
 | []=> .nil
 |_::r=> .cons rfl (zgi r)
theorem zdM: ∀{zs:List Tz} {its:List Value},zw (zs.map λz=>V.ref z.1) its->its=zs.map λz=>Value.ref z.1
 | [],_,h=>by cases h;rfl
 |z::zs,_,h=>by
  cases h with
  |cons r t=>
   rw[zdM t];rw[show _=Value.ref z.1 from r];rfl
theorem zdN{x:V}{xs:List V}{its:List Value}(h:zw (x::xs) its): ∃u us,its=u::us/\zt x u/\zw xs us:=by
 cases h with
 |cons r t=>exact⟨_,_,rfl,r,t⟩
theorem zgj{α:Type}{l:List α}{i:Nat}{d:α}(h:i<l.length):l.getD i d∈l:=by
 rw[Jo,Jb h];exact List.getElem_mem h
theorem ziM{α:Type}(d:α)(l:List α):(List.range l.length).map (λi=>l.getD i d)=l:=by
 refine List.ext_getElem (by simp) λi h1 h2=> ?_;simp [Jo,Jb h2]
theorem zgX{X:Cx}:yM X (.builtin "sorted") (λxs H Q=> ∃(p:Addr) (zs:List Tz),xs= [.ref p]/\H p=some (.lst (zs.map λz=>V.ref z.1))/\2<=zs.length/\zs.length<64/\(∀z∈zs,ur z/\ ∃r,H z.1=some (.tup (.int z.2.1:: .int z.2.2.1:: .int z.2.2.2::r)))/\zs.Pairwise (λx y=>x.2.2.2≠y.2.2.2)/\ ∀ws:List Tz,ws.Perm zs->ws.Pairwise (λx y=>x.2.1<=y.2.1/\rkT x<rkT y)->New H (.lst (ws.map λz=>V.ref z.1)) Q):=by
 intro pins s σ H xs us Q I r h;obtain⟨p,zs,rfl,hp,h2,h64,hz,hn,q⟩:=h;obtain⟨u,rfl,ru⟩:=qS r;obtain rfl:u=Value.ref p:=ru;obtain⟨hln,its,n,rv,pl⟩:=I.hok _ _ hp;have ei:its=zs.map λz=>Value.ref z.1:=by
  have:=zdM rv;exact this
 subst ei;have hl:(zs.map λz=>Value.ref z.1).length=zs.length:=Ja ..;have gz: ∀i,i<zs.length->(zs.map λz=>Value.ref z.1).getD i Value.none=Value.ref (zs.getD i (0,0,0,0)).1:=λi hi=>by
  rw[Jo,Jh,Jo,Jb hi];rfl
 have inb: ∀i,i<zs.length->ur (zs.getD i (0,0,0,0)):=λi hi=>(hz _ (zgj hi)).1;have hK:So.Keys s.heap (zs.map λz=>Value.ref z.1) (λi=>((zs.getD i (0,0,0,0)).2.1*4000000+(zs.getD i (0,0,0,0)).2.2.1)*64+(zs.getD i (0,0,0,0)).2.2.2) (λi=>(zs.getD i (0,0,0,0)).2.1) (λi=>(zs.getD i (0,0,0,0)).2.2.1) (λi=>(zs.getD i (0,0,0,0)).2.2.2):=by
  refine⟨λi hi=> ?_,λi j hi hj hij=> ?_,λi j hi hj=> ?_⟩
  ·rw[hl] at hi;rw[gz i hi];obtain⟨_,rest,e⟩:=hz _ (zgj (d:=(0,0,0,0)) hi);obtain⟨_,ts,tv,o,e1,e2,k,e3⟩:=I.hok _ _ e;obtain⟨x1,ts1,rfl,⟨t1,rfl⟩,tv1⟩:=zdN tv;obtain⟨x2,ts2,rfl,⟨t2,rfl⟩,tv2⟩:=zdN tv1;obtain⟨x3,ts3,rfl,⟨t3,rfl⟩,tv3⟩:=zdN tv2;exact⟨_,o,_,k,t1,t2,t3,ts3,rfl,e1,e2,e3,rfl⟩
  ·rw[hl] at hi hj;show (zs.getD i (0,0,0,0)).2.2.2≠(zs.getD j (0,0,0,0)).2.2.2;rw[Jo,Jo,Jb hi,Jb hj];rcases Nat.lt_or_gt_of_ne hij with z|z
   ·exact List.pairwise_iff_getElem.mp hn i j hi hj z
   ·exact(List.pairwise_iff_getElem.mp hn j i hj hi z).symm
  ·rw[hl] at hi hj;have b1:=inb i hi;have b2:=inb j hj;unfold ur at b1 b2;generalize zs.getD i (0,0,0,0)=u at b1 ⊢;generalize zs.getD j (0,0,0,0)=v at b2 ⊢;omega
 refine So.sorted_tups ⟨_,pl,rfl,_,rfl⟩ hK (by rw[hl];exact h2) (by rw[hl];exact h64) λpm a1 a2=> ?_;rw[hl] at a1 a2;obtain⟨ws,hw⟩: ∃ws,ws=pm.toList.map λi=>zs.getD i (0,0,0,0):=⟨_,rfl⟩
 have pz:pm.toList.length=zs.length:=by rw[Jx,a1.size]
 have inp: ∀i∈pm.toList,i<zs.length:=λi hi=>by
  have:=a1.toList.mem_iff.mp hi;simpa using this
 have ew:(pm.toList.map λi=>(zs.map λz=>Value.ref z.1).getD i Value.none)=ws.map λz=>Value.ref z.1:=by
  rw[hw,List.map_map];exact List.map_congr_left λi hi=>gz i (inp i hi)
 rw[ew];have wp:ws.Perm zs:=by
  have:=(a1.toList.map λi=>zs.getD i (0,0,0,0))
  rw[<-hw] at this;rw[show (List.range zs.length).toArray.toList=List.range zs.length from rfl,ziM] at this;exact this
 have wl:ws.length=zs.length:=wp.length_eq;have wo:ws.Pairwise (λx y=>x.2.1<=y.2.1/\rkT x<rkT y):=by
  rw[hw,List.pairwise_map,List.pairwise_iff_getElem];intro i j hi hj hij;have e:=a2 i j hij 'o';unfold So.fv at e;have g: ∀(k:Nat) (hk:k<pm.toList.length),pm.getD k 0=pm.toList[k]:=λk hk=>by
   have:k<pm.size:=by simpa using hk
   simp [Array.getD,this]
  rw[g i hi,g j hj] at e;dsimp only at e;have b1:=inb _ (inp _ (List.getElem_mem hi));have b2:=inb _ (inp _ (List.getElem_mem hj));unfold ur at b1 b2;unfold rkT;generalize zs.getD pm.toList[i] (0,0,0,0)=u at e b1 ⊢;generalize zs.getD pm.toList[j] (0,0,0,0)=v at e b2 ⊢;omega
 obtain⟨ep,at_⟩:=sortedAll_at s.heap (zs.map λz=>Value.ref z.1) (List.toArray (ws.map λz=>Value.ref z.1));have hf:H (s.heap.objs.size+1)=none:=I.hok.fresh (Nat.le_succ _);refine⟨.ref (s.heap.objs.size+1),upd H (s.heap.objs.size+1) (.lst (ws.map λz=>V.ref z.1)),I.laid (t':=s.toks) (λb u e=>sortedAll_old e) (Nat.le_succ _) ?_,rfl,(q ws wp wo).at hf⟩;refine⟨by rw[Ja,wl];rw[Ja] at hln;exact hln,ws.map λz=>Value.ref z.1,ep,?_,at_⟩
 have:=zgi (ws.map (·.1));rw[List.map_map,List.map_map] at this;exact this
def jd(w:World):List DictEntry->List (Str×V)->Prop
 | [], []=>True
 |e::es,kv::r=>(∃t,e.key= .str kv.1 t)/\e.hash=PyData.keyHash w.params kv.1/\zt kv.2 e.val/\jd w es r
 |_,_=>False
theorem zoy(P:Program){w:World}: ∀{es:List DictEntry} {kvs:List (Str×V)},jd w es kvs-> ∃vs:List (Key×Value),vs.map (·.1)=kvs.map (λkv=>Sum.inr kv.1)/\(∀e∈es,∃k,(yK P w).is k e.key=true/\e.hash=(yK P w).hash k)/\Pairs (yK P w) es vs/\ ∀k v,kvs.lookup k=some v-> ∃u,valueAt vs (Sum.inr k)=some u/\zt v u
 | [], [],_=>⟨[],rfl,(λ_ h=>nomatch h), .nil,(λ_ _ h=>nomatch h)⟩
 |e::es,kv::r,h=>by
  obtain⟨⟨t,h1⟩,h2,h3,h4⟩:=h;obtain⟨vs,a1,a2,a3,a4⟩:=zoy P h4;have ki:(yK P w).is (Sum.inr kv.1) e.key=true:=by rw[h1];exact wU (k:=Sum.inr kv.1) ⟨t,rfl⟩
  refine⟨(Sum.inr kv.1,e.val)::vs,by rw[JA,JA,a1],λx hx=> ?_, .cons ki rfl a3,λk v hk=> ?_⟩
  ·rcases JD.mp hx with rfl|hx
   ·exact⟨Sum.inr kv.1,ki,h2⟩
   ·exact a2 x hx
  ·obtain⟨kn,kd⟩:=kv;rw[List.lookup_cons] at hk;by_cases z:k=kn
   ·subst z;rw[beq_self_eq_true] at hk;cases hk;exact⟨e.val,by unfold valueAt;rw[List.find?_cons_of_pos (by simp)];rfl,h3⟩
   ·rw[beq_false_of_ne z] at hk;obtain⟨u,b1,b2⟩:=a4 k v hk;refine⟨u,?_,b2⟩;unfold valueAt at b1 ⊢;rw[List.find?_cons_of_neg (by simp only[decide_eq_true_eq];exact λq=>z (Sum.inr.inj q).symm)];exact b1
 | [],_::_,h=>h.elim
 |_::_, [],h=>h.elim
def tDc(kvs:List (Str×V))(ty:TE):TE:=λσ H Q=>ty σ H λy H1=> ∃k v,y= .str k/\kvs.lookup k=some v/\Q v H1
def zrb(w:World)(K:Fg)(mg:Str->Option Value)(x:Str)(kvs:List (Str×V)):Prop:= ∃(a:Addr) (es:Array DictEntry) (ep:Nat),mg x=some (.ref a)/\K.lookup a=some ⟨.type "dict",none, .dict es ep, #[]⟩/\jd w es.toList kvs/\(kvs.map (·.1)).Nodup
theorem zlQ{X:Cx}{x:Str}{i:Expr}{ty:TE}{kvs:List (Str×V)}{p pos:Pos}(hg:Gl X x)(hc:zrb X.w X.K X.mg x kvs)(hi:PE X i ty)(hs:zpk i)(hd:(x==("__debug__":Str))=false:=by decide):PE X (.Subscript (.Name x p) i pos) (tDc kvs ty):=by
 obtain⟨a,es,ep,hm,hl,he,hn⟩:=hc;intro pins s σ H Q I h;refine zjt PySem.F.slot_dict_getitem.lookup hs (vV I hg hm (thn (hi pins s σ H _ I h) λiv s2 ⟨y,H2,I2,ry,k,v,ey,hk,q2⟩=> ?_) hd);subst ey;have ha:=I2.kIn a _ hl;obtain⟨vs,a1,a2,a3,a4⟩:=zoy X.prog he;obtain⟨u,b1,b2⟩:=a4 k v hk;have nd:(vs.map (·.1)).Nodup:=by
  rw[a1,show (kvs.map λkv=>(Sum.inr kv.1:Key))=(kvs.map (·.1)).map Sum.inr by rw[List.map_map];rfl];exact hn.map _ λ_ _ h q=>h (Sum.inr.inj q)
 have dd:s2.heap.DictOf (yK X.prog X.w) a vs:=⟨_,es,ep,ha,⟨rfl,rfl,rfl⟩,rfl,λe he=>a2 e (Array.mem_toList_iff.mpr he),a3,nd⟩
 exact⟨dd.typeIs,wpAny_getItem_of (wU (k:=Sum.inr k) ry) dd.mapOf b1 ⟨v,H2,I2.tok _,b2,q2⟩⟩
end L2
namespace L2.So
open PySem PySem.W PySem.Calls PyProof.Rows
section
variable {prog:Program} {w:World} {A:Around} {E:Value->Shared->Prop} {s:Shared} {vs:List Value}
theorem zhL{a:Addr}{n:Nat}{P:PySem.Fin->Shared->Prop}(ho:s.heap.get? a=some (seqObj "list" vs.toArray n))(h2:vs.length<2)(h:P (.done (.ret .none)) {s with heap:=sortedHeap s.heap a vs vs.toArray}):wpAny (model prog w) A (Builtin.«list.sort» ⟨[.ref a], []⟩) P E s:=by
 obtain⟨e1,g1⟩: ∃e1,(s.heap.update a (Obj.mapSeq λ_=>(#[]:Array Value))).get? a=some (seqObj "list" #[] e1):=⟨_,get?_update_seq ho λ_=> #[]⟩
 obtain⟨h3,hh3⟩: ∃h3,h3=((s.heap.update a (Obj.mapSeq λ_=>(#[]:Array Value))).push (seqObj "tuple" vs.toArray 0)).push (seqObj "list" #[] 0):=⟨_,rfl⟩
 have g3:h3.get? a=some (seqObj "list" #[] e1):=by rw[hh3];exact Qa _ (Qa _ g1)
 rw[list_sort_plain];refine JW (listItems_at ho rfl (JW (listUpdate_at ho rfl ?_ (by rw[Jn,sizeLine_eq];omega) (Jv _))));refine JW (seqEpoch_at g1 rfl (JW (wpAny_newTuple ?_ (by show vs.length<=_;rw[sizeLine_eq];omega))));refine JW (wpAny_newList (wpAny_holding ?_) (Jv _));show wpAny (model prog w) A _ P E {s with heap:=((s.heap.update a (Obj.mapSeq λ_=> #[])).push (seqObj "tuple" vs.toArray 0)).push (seqObj "list" #[] 0)};rw[<-hh3];dsimp only;have n2:vs.toArray.size<2:=by rw[Jn];omega
 rw[Jg n2,Jg n2];refine JW (JX ?_);rw[StateT.run_pure];refine JW (JX ?_);dsimp only;have eo:(arrOf (SortSt.mk' general' (vs.toArray.zip vs.toArray) #[] 7 none)).map (·.2)=vs.toArray:=by
  show (vs.toArray.zip vs.toArray).map (·.2)=vs.toArray;rw[Array.map_snd_zip (Je _)]
 rw[eo];refine JW (seqEpoch_at g3 rfl (JW (listUpdate_at g3 rfl ?_ (Jv _) (by rw[Jn,sizeLine_eq];omega))));simp only[bne_self_eq_false,Js,if_false];refine JX ?_;unfold sortedHeap at h;rw[<-hh3] at h;exact h
theorem sorted_short{l:Addr}{Q:Value->Shared->Prop}(hl:s.heap.IsList l vs.toArray)(h2:vs.length<2)(h:Q (.ref (s.heap.objs.size+1)) {s with heap:=sortedAll s.heap vs vs.toArray}):wpAny (model prog w) A (call (.builtin "sorted") [.ref l]) Q E s:=by
 obtain⟨h2',hh2⟩: ∃h2',h2'=((s.heap.push (seqObj "list" #[] 0)).update s.heap.objs.size (Obj.mapSeq (· ++vs.toArray))).push (seqObj "list" vs.toArray 0):=⟨_,rfl⟩
 have hsz:((s.heap.push (seqObj "list" #[] 0)).update s.heap.objs.size (Obj.mapSeq (· ++vs.toArray))).objs.size=s.heap.objs.size+1:=by rw[Heap.size_update];exact size_push' ..
 have g2:h2'.get? (s.heap.objs.size+1)=some (seqObj "list" vs.toArray 0):=by rw[hh2,<-hsz];exact Qc _ rfl
 refine Calls.call_function_entry kind_sorted plain_sorted entry_sorted (args_sorted1 _) ?_;unfold Builtin.«sorted»;refine JW (m:=checkCount "sorted" 1 1 _) (JX (JW (collect_list hl (JW (wpAny_newList ?_ (by rw[sizeLine_eq];omega))) (by rw[sizeLine_eq];omega))));show wpAny _ _ _ _ _ {s with heap:=((s.heap.push (seqObj "list" #[] 0)).update s.heap.objs.size (Obj.mapSeq (· ++vs.toArray))).push _};rw[hsz,<-hh2];refine JW (wpAny_holding (wpAny_call_entry slot_list_sort ⟨_,g2,rfl⟩ entry_list_sort (zhL (s:={s with heap:=h2'}) g2 h2 ⟨_,rfl,JX ⟨_,rfl,?_⟩⟩) (args_list_sort _)));unfold sortedAll at h;rw[<-hh2] at h;exact h
end
end L2.So
namespace L2
open PySem PySem.Spec PyProof.Rows
theorem zgY{X:Cx}:yM X (.builtin "sorted") (λxs H Q=> ∃(p:Addr) (zs:List Tz),xs= [.ref p]/\H p=some (.lst (zs.map λz=>V.ref z.1))/\zs.length<64/\(∀z∈zs,ur z/\ ∃r,H z.1=some (.tup (.int z.2.1:: .int z.2.2.1:: .int z.2.2.2::r)))/\zs.Pairwise (λx y=>x.2.2.2≠y.2.2.2)/\ ∀ws:List Tz,ws.Perm zs->ws.Pairwise (λx y=>x.2.1<=y.2.1/\rkT x<rkT y)->New H (.lst (ws.map λz=>V.ref z.1)) Q):=by
 intro pins s σ H xs us Q I r h;obtain⟨p,zs,rfl,hp,h64,hz,hn,q⟩:=h;by_cases h2:2<=zs.length
 ·exact zgX pins s σ H _ us Q I r ⟨p,zs,rfl,hp,h2,h64,hz,hn,q⟩
 obtain⟨u,rfl,ru⟩:=qS r;obtain rfl:u=Value.ref p:=ru;obtain⟨hln,its,n,rv,pl⟩:=I.hok _ _ hp;have ei:its=zs.map λz=>Value.ref z.1:=zdM rv;subst ei;refine So.sorted_short ⟨_,pl,rfl,_,rfl⟩ (by rw[Ja];omega) ?_;obtain⟨ep,at_⟩:=sortedAll_at s.heap (zs.map λz=>Value.ref z.1) (List.toArray (zs.map λz=>Value.ref z.1));have hf:H (s.heap.objs.size+1)=none:=I.hok.fresh (Nat.le_succ _);have so:zs.Pairwise (λx y=>x.2.1<=y.2.1/\rkT x<rkT y):=by
  match zs,h2 with
  | [],_=>exact .nil
  | [z],_=>exact List.pairwise_singleton ..
  |_::_::r,h=>exact absurd (by rw[Jp,Jp];omega) h
 exact⟨.ref (s.heap.objs.size+1),upd H (s.heap.objs.size+1) (.lst (zs.map λz=>V.ref z.1)),I.laid (t':=s.toks) (λb u e=>sortedAll_old e) (Nat.le_succ _) ⟨hln,zs.map λz=>Value.ref z.1,ep,rv,at_⟩,rfl,(q zs (.refl _) so).at hf⟩
section
variable {prog:Program} {w:World} {A:Around} {E:Value->Shared->Prop} {s:Shared}
end
theorem zc2: ∀{zs:List Int} {us:List Value},zw (zs.map V.int) us->IntsAre us zs
 | [], [],_=> .nil
 |_::_,_::_, .cons ⟨_,e⟩ t=>by subst e;exact .cons _ _ (zc2 t)
theorem zc3: ∀{us:List Value} {zs:List Int},IntsAre us zs->zw (zs.map V.int) us
 | [], [],_=> .nil
 |_::_,_::_,h=>by
  cases h with
  |cons a b c=>exact .cons ⟨_,rfl⟩ (zc3 (by assumption))
theorem zgZ{X:Cx}:yM X (.builtin "sorted") (λxs H Q=> ∃(p:Addr) (zs:List Int),xs= [.ref p]/\H p=some (.lst (zs.map V.int))/\zs.length<64/\ ∀ws:List Int,ws.Perm zs->ws.Pairwise (· <= ·)->New H (.lst (ws.map V.int)) Q):=by
 intro pins s σ H xs us Q I r h;obtain⟨p,zs,rfl,hp,h64,q⟩:=h;obtain⟨u,rfl,ru⟩:=qS r;obtain rfl:u=Value.ref p:=ru;obtain⟨hln,its,n,rv,pl⟩:=I.hok _ _ hp;have il:its.length=zs.length:=by rw[<-rv.length,Ja]
 refine sorted_ints ⟨_,pl,rfl,_,rfl⟩ (zc2 rv) (by rw[il];exact h64) λout ns' a1 a2 a3=> ?_;obtain⟨ep,at_⟩:=sortedAll_at s.heap its out;have hf:H (s.heap.objs.size+1)=none:=I.hok.fresh (Nat.le_succ _);refine⟨.ref (s.heap.objs.size+1),upd H (s.heap.objs.size+1) (.lst (ns'.map V.int)),I.laid (t':=s.toks) (λb u e=>sortedAll_old e) (Nat.le_succ _) ?_,rfl,(q ns' a2 a3).at hf⟩;exact⟨by rw[Ja,a2.length_eq];rw[Ja] at hln;exact hln,out.toList,ep,zc3 a1,by rw[Array.toArray_toList];exact at_⟩
end L2
namespace L2.Tm
open PySem PyProof.Rows
variable{lo hi i:Nat}{xs ys:AK}{st:SortSt}
abbrev AK:=Array Keyed
structure TB (a₀:AK) (st:SortSt):Prop where
 pm:(arrOf st).Perm a₀
 kd:kindOf st=oneType'
 fl:failedOf st=none
def Sg(xs:AK)(lo hi:Nat):Prop:= ∀i j,lo<=i->i<=j->j<hi->K xs i<=K xs j
def Dg(xs:AK)(lo hi:Nat):Prop:= ∀i j,lo<=i->i<=j->j<hi->K xs j<=K xs i
def Off(lo hi:Nat)(xs ys:AK):Prop:= ∀k,k<lo\/hi<=k->K xs k=K ys k
theorem Off.refl:Off lo hi xs xs:=λ_ _=>rfl
theorem Off.wide{lo' hi':Nat}(h:Off lo hi xs ys)(a:lo'<=lo)(b:hi<=hi'):Off lo' hi' xs ys:=λk q=>h k 'o'
theorem Sg.one(h:hi<=lo+1):Sg xs lo hi:=λi j a b c=>by
 obtain rfl:i=j:=by omega
 exact Jz _
theorem Sg.next{x:Nat}(h:Sg xs lo x)(q:K xs (x - 1)<=K xs x):Sg xs lo (x+1):=λi j a b c=>by
 by_cases e:j<x
 ·exact h i j a b e
 obtain rfl:j=x:=by omega
 by_cases e2:i=j
 ·rw[e2];exact Jz _
 exact Int.le_trans (h i (j - 1) a 'o' 'o') q
theorem Dg.next{x:Nat}(h:Dg xs lo x)(q:K xs x<=K xs (x - 1)):Dg xs lo (x+1):=λi j a b c=>by
 by_cases e:j<x
 ·exact h i j a b e
 obtain rfl:j=x:=by omega
 by_cases e2:i=j
 ·rw[e2];exact Jz _
 exact Int.le_trans q (h i (j - 1) a 'o' 'o')
theorem Sg.off{a b:Nat}(h:Sg ys a b)(o:Off lo hi xs ys)(d:b<=lo\/hi<=a):Sg xs a b:=λi j p q r=>by
 rw[o i 'o',o j 'o'];exact h i j p q r
theorem TB.size{a₀:AK}{st:SortSt}(h:TB a₀ st):(arrOf st).size=a₀.size:=h.pm.size_eq
theorem TB.set{a₀:AK}(h:TB a₀ st)(hp:xs.Perm (arrOf st)):TB a₀ (setArr st xs):=⟨hp.trans h.pm,h.kd,h.fl⟩
theorem int_at(h0:IntKeys xs)(hi:i<xs.size): ∃p t,xs[i]? =some p/\p.1= .int (K xs i) t:=by
 have e:xs[i]? =some xs[i]:=getElem?_pos _ i hi;obtain⟨n,t,hn⟩:=h0 xs[i] (by simp);refine⟨_,t,e,?_⟩;unfold K;rw[e];show xs[i].1= .int (numOf xs[i].1) t;rw[hn];rfl
theorem zg0(h:IntKeys ys)(p:xs.Perm ys):IntKeys xs:=λq hq=>h q ((Array.perm_iff_toList_perm.mp p).mem_iff.mp hq)
section
variable {prog:Program} {w:World} {A:Around} {E:Value->Shared->Prop} {s:Shared} {a₀:AK}
theorem ltP{x y:Keyed}{a b:Int}{t u:Tok}{Q:Option Bool->SortSt->Prop}(hk:kindOf st=oneType')(hx:x.1= .int a t)(hy:y.1= .int b u)(h:Q (some (decide (a<b))) st):wpS (model prog w) A E s (lt' x y) Q st:=by
 rw[lt'_eq];refine JY (wpS_get ?_);rw[hk,keyLt'_oneType,hx,hy];exact JY (wpS_lift (wpAny_attempt (oneLt_int ⟨rfl,JZ h⟩)))
theorem yQ{p:Keyed}{Q:Keyed->SortSt->Prop}(e:xs[i]? =some p)(h:Q p st):wpS (model prog w) A E s (elem' xs i) Q st:=by
 rw[elem'_eq,e];exact JZ h
theorem ltT{j:Nat}{Q:Option Bool->SortSt->Prop}(hB:TB a₀ st)(h0:IntKeys a₀)(hi:i<a₀.size)(hj:j<a₀.size)(h:Q (some (decide (K (arrOf st) i<K (arrOf st) j))) st):wpS (model prog w) A E s (ltAt' i j) Q st:=by
 obtain⟨p,t,e1,e2⟩:=int_at (zg0 h0 hB.pm) (by rw[hB.size];exact hi);obtain⟨q,u,e3,e4⟩:=int_at (zg0 h0 hB.pm) (by rw[hB.size];exact hj);rw[ltAt'_eq];exact JY (wpS_get (JY (yQ e1 (JY (yQ e3 (ltP hB.kd e2 e4 h))))))
theorem je{j:Nat}{Q:Unit->SortSt->Prop}(h:Q () (setArr st (mirror (arrOf st) i j ((j - i) / 2)))):wpS (model prog w) A E s (reverseSlice' i j) Q st:=by
 rw[reverseSlice'_eq];exact wpS_modify h
theorem zpq{n ok:Nat}{Q:Bool->SortSt->Prop}(h0:IntKeys a₀)(hn:lo+n<=a₀.size)(hok:ok<=n)(hB:TB a₀ st)(hs:Sg (arrOf st) lo (lo+ok))
  (h: ∀st',TB a₀ st'->pendingOf st'=pendingOf st->Sg (arrOf st') lo (lo+n)->Off lo (lo+n) (arrOf st') (arrOf st)->Q true st'):wpS (model prog w) A E s (binarySort' lo n ok) Q st:=by
 rw[binarySort'_eq];refine JY (wpS_mono (wpS_forRange (I:=λk c st'=>c=(none,())/\TB a₀ st'/\pendingOf st'=pendingOf st/\Sg (arrOf st') lo (lo+min k n)/\Off lo (lo+n) (arrOf st') (arrOf st)) (Q:=λc st'=>c=(none,())/\TB a₀ st'/\pendingOf st'=pendingOf st/\Sg (arrOf st') lo (lo+n)/\Off lo (lo+n) (arrOf st') (arrOf st)) ?step ?fin ?init) ?post)
 case post=>exact λc st' ⟨e,hB',hp,hs',ho⟩=>by subst e;exact JZ (h st' hB' hp hs' ho)
 case init=>
  refine⟨rfl,hB,rfl,?_,Off.refl⟩;by_cases z:ok=0
  ·exact Sg.one 'o'
  ·rw[show min (max ok 1) n=ok by omega];exact hs
 case fin=>exact λc st' ⟨e,hB',hp,hs',ho⟩=>⟨e,hB',hp,by rwa[show min (max (max ok 1) n) n=n by omega] at hs',ho⟩
 case step=>
  intro k c st' hak hkn ⟨e,hB',hp,hs',ho⟩;subst e;rw[show min k n=k by omega] at hs';refine JY (wpS_mono (wpS_forRange (I:=λx c st''=>st''=st'/\ ∃l r,c=(none,l,r)/\l<=r/\r<=k/\r - l<=k - x/\(∀i,i<l->K (arrOf st') (lo+i)<=K (arrOf st') (lo+k))/\(∀i,r<=i->i<k->K (arrOf st') (lo+k)<=K (arrOf st') (lo+i)))
   (Q:=λc st''=>st''=st'/\ ∃l r,c=(none,l,r)/\l<=k/\(∀i,i<l->K (arrOf st') (lo+i)<=K (arrOf st') (lo+k))/\(∀i,l<=i->i<k->K (arrOf st') (lo+k)<=K (arrOf st') (lo+i))) ?istep ?ifin ?iinit) ?ipost)
  case iinit=>exact⟨rfl,0,k,rfl,'o','o','o',λi hi=>by omega,λi h1 h2=>by omega⟩
  case ifin=>
   intro c st'' ⟨e1,l,r,e2,hlr,hrk,hm,hlo,hhi⟩;obtain rfl:l=r:=by omega
   exact⟨e1,l,l,e2,hrk,hlo,hhi⟩
  case istep=>
   intro x c st'' _ hxk ⟨e1,l,r,e2,hlr,hrk,hm,hlo,hhi⟩;subst e1 e2;dsimp only;by_cases hge:l≥r
   ·rw[Jg hge];obtain rfl:l=r:=by omega
    exact JZ ⟨rfl,l,l,rfl,hrk,hlo,hhi⟩
   ·rw[Jf hge];refine JY (ltT hB' h0 'o' 'o' ?_);by_cases hless:K (arrOf st'') (lo+k)<K (arrOf st'') (lo+(l+r) / 2)
    ·simp only[hless,decide_true,if_true];exact JZ ⟨rfl,l,(l+r) / 2,rfl,'o','o','o',hlo,λi h1 h2=>Int.le_trans (Int.le_of_lt hless) (hs' _ _ 'o' 'o' 'o')⟩
    ·simp only[hless,decide_false,Js,if_false];exact JZ ⟨rfl,(l+r) / 2+1,r,rfl,'o','o','o',λi h1=>Int.le_trans (hs' (lo+i) (lo+(l+r) / 2) 'o' 'o' 'o') (Int.not_lt.mp hless),hhi⟩
  case ipost=>
   intro c st'' ⟨e1,l,r,e2,hlk,hlo,hhi⟩;subst e1 e2;show wpS _ _ _ _ (do moveDown' (lo+k) (lo+l);pure (ForInStep.yield (none,()))) _ _;rw[moveDown'_eq];have hks:lo+k<(arrOf st'').size:=by rw[hB'.size];omega
   have kb: ∀q,K (bubble (arrOf st'') (lo+k) (lo+k - (lo+l))) q=if q=lo+l then K (arrOf st'') (lo+k) else if lo+l<q/\q<=lo+k then K (arrOf st'') (q - 1) else K (arrOf st'') q:=λq=>by
    rw[K_bubble hks 'o',show lo+k - (lo+k - (lo+l))=lo+l by omega]
   refine JY (wpS_modify (JZ ⟨rfl,hB'.set (bubble_perm _ _ _),hp,?_,λq hq=> ?_⟩))
   ·rw[show min (k+1) n=k+1 by omega];intro i j hi hij hj;show K (bubble (arrOf st'') _ _) i<=K (bubble (arrOf st'') _ _) j;rw[kb,kb];have lo': ∀z,lo<=z->z<lo+l->K (arrOf st'') z<=K (arrOf st'') (lo+k):=λz a b=>by have:=hlo (z - lo) 'o';rwa[show lo+(z - lo)=z by omega] at this
    have hi': ∀z,lo+l<=z->z<lo+k->K (arrOf st'') (lo+k)<=K (arrOf st'') z:=λz a b=>by have:=hhi (z - lo) 'o' 'o';rwa[show lo+(z - lo)=z by omega] at this
    repeat' split
    all_goals first
     |(exfalso;omega)
     |exact Jz _
     |exact lo' _ 'o' 'o'
     |exact hi' _ 'o' 'o'
     |exact hs' _ _ 'o' 'o' 'o'
   ·show K (bubble (arrOf st'') _ _) q=_;rw[kb,Jf 'o',Jf 'o'];exact ho q hq
end
end L2.Tm
namespace L2.Tm
open PySem PyProof.Rows
variable{st:SortSt}{lo nrem:Nat}{Q:Option Nat->SortSt->Prop}
def rise(lo n nrem:Nat):StateT SortSt Sem (Option Nat):=do
 let mut m:=n
 for _ in [n:nrem] do
  let some smaller<-ltAt' (lo+m) (lo+m - 1)|return none
  if smaller then break
  m:=m+1
 return some m
def zrc(lo n nrem:Nat):StateT SortSt Sem (Option Nat):=do
 rule "list.sort.descending-run"
 let mut m:=n+1
 let mut neq:=0
 for _ in [m:nrem] do
  let some smaller<-ltAt' (lo+m) (lo+m - 1)|return none
  if smaller then
   if neq>0 then reverseSlice' (lo+m - (neq+1)) (lo+m)
   neq:=0
  else
   let some larger<-ltAt' (lo+m - 1) (lo+m)|return none
   if larger then break
   neq:=neq+1
  m:=m+1
 if neq>0 then reverseSlice' (lo+m - (neq+1)) (lo+m)
 reverseSlice' lo (lo+m)
 rise lo m nrem
section
variable {prog:Program} {w:World} {A:Around} {E:Value->Shared->Prop} {s:Shared} {a₀:AK}
theorem znT{n:Nat}{Q:Option Nat->SortSt->Prop}(h0:IntKeys a₀)(hn:lo+nrem<=a₀.size)(h1:1<=n)(hnn:n<=nrem)(hB:TB a₀ st)(hs:Sg (arrOf st) lo (lo+n))
  (h: ∀m,n<=m->m<=nrem->Sg (arrOf st) lo (lo+m)->Q (some m) st):wpS (model prog w) A E s (rise lo n nrem) Q st:=by
 unfold rise;refine JY (wpS_mono (wpS_forRange (I:=λx c st'=>st'=st/\c=(none,x)/\Sg (arrOf st) lo (lo+x)) (Q:=λc st'=>st'=st/\ ∃m,c=(none,m)/\n<=m/\m<=nrem/\Sg (arrOf st) lo (lo+m)) ?step ?fin ⟨rfl,rfl,hs⟩) ?post)
 case post=>
  intro c st' ⟨e1,m,e2,a,b,g⟩;subst e1 e2;exact JZ (h m a b g)
 case fin=>
  intro c st' ⟨e1,e2,g⟩;rw[show max n nrem=nrem by omega] at e2 g;exact⟨e1,nrem,e2,hnn,Je _,g⟩
 case step=>
  intro x c st' a b ⟨e1,e2,g⟩;subst e1 e2;dsimp only;refine JY (ltT hB h0 'o' 'o' ?_);by_cases q:K (arrOf st') (lo+x)<K (arrOf st') (lo+x - 1)
  ·simp only[q,decide_true,if_true];exact JZ ⟨rfl,x,rfl,a,'o',g⟩
  ·simp only[q,decide_false,Js,if_false];exact JZ ⟨rfl,rfl,g.next (Int.not_lt.mp q)⟩
theorem zeu{xs:AK}{hi:Nat}(hj:hi<=xs.size)(he: ∀k,lo<=k->k<hi->K xs k=K xs (hi - 1))(k:Nat):K (mirror xs lo hi ((hi - lo) / 2)) k=K xs k:=K_mirror_equal hj he k
theorem zjx{n:Nat}{Q:Option Nat->SortSt->Prop}(h0:IntKeys a₀)(hn:lo+nrem<=a₀.size)(h1:1<=n)(hnn:n+1<=nrem)(hB:TB a₀ st)(hs:Dg (arrOf st) lo (lo+(n+1)))
  (h: ∀m st',1<=m->m<=nrem->TB a₀ st'->pendingOf st'=pendingOf st->Sg (arrOf st') lo (lo+m)->Off lo (lo+nrem) (arrOf st') (arrOf st)->Q (some m) st'):wpS (model prog w) A E s (zrc lo n nrem) Q st:=by
 unfold zrc;refine JY (wpS_lift (wpAny_rule ⟨rfl,?_⟩));refine JY (wpS_mono (wpS_forRange
  (I:=λx c st'=> ∃neq,c=(none,x,neq)/\TB a₀ st'/\pendingOf st'=pendingOf st/\Off lo (lo+nrem) (arrOf st') (arrOf st)/\Dg (arrOf st') lo (lo+x)/\neq+1<=x/\ ∀i,lo+x - (neq+1)<=i->i<lo+x->K (arrOf st') i=K (arrOf st') (lo+x - 1))
  (Q:=λc st'=> ∃m neq,c=(none,m,neq)/\n+1<=m/\m<=nrem/\TB a₀ st'/\pendingOf st'=pendingOf st/\Off lo (lo+nrem) (arrOf st') (arrOf st)/\Dg (arrOf st') lo (lo+m)/\neq+1<=m/\ ∀i,lo+m - (neq+1)<=i->i<lo+m->K (arrOf st') i=K (arrOf st') (lo+m - 1)) ?step ?fin ?init) ?post)
 case init=>exact⟨0,rfl,hB,rfl,Off.refl,hs,'o',λi a b=>by congr 1;omega⟩
 case fin=>
  intro c st' ⟨neq,e,r⟩;rw[show max (n+1) nrem=nrem by omega] at e r;exact⟨nrem,neq,e,hnn,Je _,r⟩
 case step=>
  intro x c st' a b ⟨neq,e,hB',hp,ho,hd,hq,he⟩;subst e;dsimp only;have hsz:lo+x<=(arrOf st').size:=by rw[hB'.size];omega
  refine JY (ltT hB' h0 'o' 'o' ?_);by_cases q:K (arrOf st') (lo+x)<K (arrOf st') (lo+x - 1)
  ·simp only[q,decide_true,if_true];have d1:=hd.next (Int.le_of_lt q);by_cases z:neq>0
   ·rw[Jg z];have km:=zeu hsz he;refine JY (je (JZ ⟨0,rfl,hB'.set (mirror_perm _ _ _ _),hp,λk g=> ?_,λi j u v y=> ?_,'o',λi u v=>by congr 1;omega⟩))
    ·exact(km k).trans (ho k g)
    ·show K (mirror _ _ _ _) j<=K (mirror _ _ _ _) i;rw[km,km];exact d1 i j u v y
   ·rw[Jf z];exact JZ ⟨0,rfl,hB',hp,ho,d1,'o',λi u v=>by congr 1;omega⟩
  ·simp only[q,decide_false,Js,if_false];refine JY (ltT hB' h0 'o' 'o' ?_);by_cases q2:K (arrOf st') (lo+x - 1)<K (arrOf st') (lo+x)
   ·simp only[q2,decide_true,if_true];exact JZ ⟨x,neq,rfl,a,'o',hB',hp,ho,hd,hq,he⟩
   ·simp only[q2,decide_false,Js,if_false];have ex:K (arrOf st') (lo+x)=K (arrOf st') (lo+x - 1):=by omega
    refine JZ ⟨neq+1,rfl,hB',hp,ho,hd.next (Int.le_of_eq ex),'o',λi u v=> ?_⟩;rw[show lo+(x+1) - 1=lo+x by omega,ex];by_cases iq:i=lo+x
    ·rw[iq,ex]
    ·exact he i 'o' 'o'
 case post=>
  intro c st' ⟨m,neq,e,a,b,hB',hp,ho,hd,hq,he⟩;subst e;dsimp only;have hsz:lo+m<=(arrOf st').size:=by rw[hB'.size];omega
  have last: ∀st2:SortSt,TB a₀ st2->pendingOf st2=pendingOf st->Off lo (lo+nrem) (arrOf st2) (arrOf st)->Dg (arrOf st2) lo (lo+m)->wpS (model prog w) A E s (do reverseSlice' lo (lo+m);rise lo m nrem) Q st2:=by
   intro st2 hB2 hp2 ho2 hd2;have sz2:lo+m<=(arrOf st2).size:=by rw[hB2.size];omega
   have hB3:=hB2.set (mirror_perm (arrOf st2) lo (lo+m) ((lo+m - lo) / 2));refine JY (je (znT h0 hn 'o' b hB3 (λi j u v y=> ?_) λm' u v g=>h m' _ 'o' v hB3 hp2 g λk z=> ?_))
   ·show K (mirror _ _ _ _) i<=K (mirror _ _ _ _) j;rw[K_mirror sz2,K_mirror sz2,Jg 'o',Jg 'o'];exact hd2 _ _ 'o' 'o' 'o'
   ·show K (mirror _ _ _ _) k=_;rw[K_mirror sz2,Jf 'o'];exact ho2 k z
  by_cases z:neq>0
  ·rw[Jg z];have km:=zeu hsz he;refine JY (je (last _ (hB'.set (mirror_perm _ _ _ _)) hp (λk g=>(km k).trans (ho k g)) λi j u v y=> ?_));show K (mirror _ _ _ _) j<=K (mirror _ _ _ _) i;rw[km,km];exact hd i j u v y
  ·rw[Jf z];exact last _ hB' hp ho hd
theorem count{Q:Option Nat->SortSt->Prop}(h0:IntKeys a₀)(hn:lo+nrem<=a₀.size)(h1:1<=nrem)(hB:TB a₀ st)
  (h: ∀m st',1<=m->m<=nrem->TB a₀ st'->pendingOf st'=pendingOf st->Sg (arrOf st') lo (lo+m)->Off lo (lo+nrem) (arrOf st') (arrOf st)->Q (some m) st'):wpS (model prog w) A E s (countRun' lo nrem) Q st:=by
 rw[countRun'_eq];refine JY (wpS_mono (wpS_forRange (I:=λx c st'=>st'=st/\c=(none,x)/\Sg (arrOf st) lo (lo+x)) (Q:=λc st'=>st'=st/\ ∃m,c=(none,m)/\1<=m/\m<=nrem/\Sg (arrOf st) lo (lo+m)/\(m=nrem\/K (arrOf st) (lo+m)<K (arrOf st) (lo+m - 1))) ?step ?fin ⟨rfl,rfl,Sg.one 'o'⟩) ?post)
 case fin=>
  intro c st' ⟨e1,e2,g⟩;rw[show max 1 nrem=nrem by omega] at e2 g;exact⟨e1,nrem,e2,h1,Je _,g, .inl rfl⟩
 case step=>
  intro x c st' a b ⟨e1,e2,g⟩;subst e1 e2;dsimp only;refine JY (ltT hB h0 'o' 'o' ?_);by_cases q:K (arrOf st') (lo+x)<K (arrOf st') (lo+x - 1)
  ·simp only[q,decide_true,if_true];exact JZ ⟨rfl,x,rfl,a,'o',g, .inr q⟩
  ·simp only[q,decide_false,Js,if_false];exact JZ ⟨rfl,rfl,g.next (Int.not_lt.mp q)⟩
 case post=>
  intro c st' ⟨e1,n,e2,a,b,g,o⟩;subst e1 e2;dsimp only;by_cases z:n=nrem
  ·rw[Jg (by simpa using z)];exact JZ (h n _ a b hB rfl g Off.refl)
  rw[Jf (by simpa using z)];have hlt:=o.resolve_left z;by_cases z1:n>1
  ·rw[Jg z1];refine JY (ltT hB h0 'o' 'o' ?_);by_cases q:K (arrOf st') lo<K (arrOf st') (lo+n - 1)
   ·simp only[q,decide_true,if_true];exact JZ (h n _ a b hB rfl g Off.refl)
   ·simp only[q,decide_false,Js,if_false];have hsz:lo+n<=(arrOf st').size:=by rw[hB.size];omega
    have al: ∀k,lo<=k->k<lo+n->K (arrOf st') k=K (arrOf st') (lo+n - 1):=λk u v=>by
     have a1:=g lo k (Je _) u v;have a2:=g k (lo+n - 1) u 'o' 'o';omega
    have km:=zeu hsz al;refine JY (je ?_);refine zjx (n:=n) h0 hn a 'o' (hB.set (mirror_perm _ _ _ _)) ?_ λm st2 u v hB2 hp2 g2 o2=>h m st2 u v hB2 hp2 g2 λk y=>(o2 k y).trans (km k);intro i j u v y;show K (mirror _ _ _ _) j<=K (mirror _ _ _ _) i;rw[km,km];by_cases jn:j<lo+n
    ·rw[al i 'o' 'o',al j 'o' jn];exact Jz _
    ·obtain rfl:j=lo+n:=by omega
     by_cases iq:i=lo+n
     ·rw[iq];exact Jz _
     ·rw[al i u 'o'];exact Int.le_of_lt hlt
  ·rw[Jf z1];obtain rfl:n=1:=by omega
   refine zjx (n:=1) h0 hn (Je _) 'o' hB ?_ h;intro i j u v y;by_cases iq:i=j
   ·rw[iq];exact Jz _
   ·obtain rfl:i=lo:=by omega
    obtain rfl:j=i+1:=by omega
    exact Int.le_of_lt hlt
end
end L2.Tm
namespace L2.Tm
open PySem PyProof.Rows
variable{left:Bool}{st:SortSt}{key:Keyed}{arr:AK}{base:Nat}{kv:Int}
def wE:Bool->Keyed->AK->Nat->Nat->Nat->StateT SortSt Sem (Option Nat):=sortPriv% PySem.Builtin.gallop
def vb(left:Bool)(key:Keyed)(arr:AK)(base i:Nat):StateT SortSt Sem (Option Bool):=do
 let x<-elem' arr (base+i)
 if left then lt' x key else return (<-lt' key x).map (!·)
theorem ziN(left:Bool)(key:Keyed)(arr:AK)(base n hint:Nat):wE left key arr base n hint=(do
 let mut lastofs:=0
 let mut ofs:=1
 let mut lo:=0
 let mut hi:=0
 let some right<-vb left key arr base hint|return none
 if right then
  let maxofs:=n - hint
  for _ in [0:n] do
   if ofs≥maxofs then break
   let some more<-vb left key arr base (hint+ofs)|return none
   if !more then break
   lastofs:=ofs
   ofs:=2*ofs+1
  lo:=hint+lastofs+1
  hi:=hint+min ofs maxofs
 else
  let maxofs:=hint+1
  for _ in [0:n] do
   if ofs≥maxofs then break
   let some found<-vb left key arr base (hint - ofs)|return none
   if found then break
   lastofs:=ofs
   ofs:=2*ofs+1
  lo:=hint+1 - min ofs maxofs
  hi:=hint - lastofs
 for _ in [0:n] do
  if lo≥hi then break
  let m:=lo+(hi - lo) / 2
  let some more<-vb left key arr base m|return none
  if more then lo:=m+1 else hi:=m
 return some hi):=rfl
def zoz(left:Bool)(key:Keyed)(arr:AK)(base n lo0 hi0:Nat):StateT SortSt Sem (Option Nat):=do
 let mut lo:=lo0
 let mut hi:=hi0
 for _ in [0:n] do
  if lo≥hi then break
  let m:=lo+(hi - lo) / 2
  let some more<-vb left key arr base m|return none
  if more then lo:=m+1 else hi:=m
 return some hi
def Bf(left:Bool)(x k:Int):Prop:=if left=true then x<k else x<=k
theorem Bf.mono{x y k:Int}(h:Bf left x k)(q:y<=x):Bf left y k:=by
 unfold Bf at*;split at h
 ·rw[Jg ‹_›];omega
 ·rw[Jf ‹_›];omega
theorem Bf.not{x y k:Int}(h: ¬Bf left x k)(q:x<=y): ¬Bf left y k:=λz=>h (z.mono q)
section
variable {prog:Program} {w:World} {A:Around} {E:Value->Shared->Prop} {s:Shared}
theorem jf{left:Bool}{i:Nat}{t:Tok}{Q:Option Bool->SortSt->Prop}(hk:kindOf st=oneType')(hI:IntKeys arr)(hkey:key.1= .int kv t)(hi:base+i<arr.size)
  (h1:Bf left (K arr (base+i)) kv->Q (some true) st) (h2: ¬Bf left (K arr (base+i)) kv->Q (some false) st):wpS (model prog w) A E s (vb left key arr base i) Q st:=by
 obtain⟨p,u,e1,e2⟩:=int_at hI hi;unfold vb;refine JY (yQ e1 ?_);unfold Bf at h1 h2;cases left with
 |true=>
  simp only[if_true] at h1 h2 ⊢;refine ltP hk e2 hkey ?_;by_cases z:K arr (base+i)<kv
  ·rw[JO z];exact h1 z
  ·rw[JP z];exact h2 z
 |false=>
  simp only[Js,if_false] at h1 h2 ⊢;refine JY (ltP hk hkey e2 (JZ ?_));by_cases z:kv<K arr (base+i)
  ·rw[JO z];exact h2 'o'
  ·rw[JP z];exact h1 'o'
theorem zhM{left:Bool}{n lo hi:Nat}{t:Tok}{Q:Option Nat->SortSt->Prop}(hk:kindOf st=oneType')(hI:IntKeys arr)(hkey:key.1= .int kv t)(hb:base+n<=arr.size)(hS:Sg arr base (base+n))(hl:lo<=hi)(hh:hi<=n)
  (a1: ∀i,i<lo->Bf left (K arr (base+i)) kv) (a2: ∀i,hi<=i->i<n-> ¬Bf left (K arr (base+i)) kv)
  (h: ∀k,k<=n->(∀i,i<k->Bf left (K arr (base+i)) kv)->(∀i,k<=i->i<n-> ¬Bf left (K arr (base+i)) kv)->Q (some k) st):wpS (model prog w) A E s (zoz left key arr base n lo hi) Q st:=by
 unfold zoz;refine JY (wpS_mono (wpS_forRange (I:=λx c st'=>st'=st/\ ∃l r,c=(none,l,r)/\l<=r/\r<=n/\r - l<=n - x/\(∀i,i<l->Bf left (K arr (base+i)) kv)/\(∀i,r<=i->i<n-> ¬Bf left (K arr (base+i)) kv))
  (Q:=λc st'=>st'=st/\ ∃l r,c=(none,l,r)/\r<=l/\r<=n/\(∀i,i<l->Bf left (K arr (base+i)) kv)/\(∀i,r<=i->i<n-> ¬Bf left (K arr (base+i)) kv)) ?step ?fin ⟨rfl,lo,hi,rfl,hl,hh,'o',a1,a2⟩) ?post)
 case fin=>exact λc st' ⟨e1,l,r,e2,b1,b2,b3,b4,b5⟩=>⟨e1,l,r,e2,'o',b2,b4,b5⟩
 case post=>
  intro c st' ⟨e1,l,r,e2,b1,b2,b4,b5⟩;subst e1 e2;exact JZ (h r b2 (λi hi=>b4 i 'o') b5)
 case step=>
  intro x c st' _ _ ⟨e1,l,r,e2,b1,b2,b3,b4,b5⟩;subst e1 e2;dsimp only;by_cases z:l≥r
  ·rw[Jg z];exact JZ ⟨rfl,l,r,rfl,z,b2,b4,b5⟩
  rw[Jf z];refine JY (jf hk hI hkey 'o' (λq=> ?_) λq=> ?_)
  ·simp only[if_true];exact JZ ⟨rfl,l+(r - l) / 2+1,r,rfl,'o',b2,'o',λi hi=>q.mono (hS _ _ 'o' 'o' 'o'),b5⟩
  ·simp only[Js,if_false];exact JZ ⟨rfl,l,l+(r - l) / 2,rfl,'o','o','o',b4,λi u v=>Bf.not q (hS _ _ 'o' 'o' 'o')⟩
theorem gallop{left:Bool}{n hint:Nat}{t:Tok}{Q:Option Nat->SortSt->Prop}(hk:kindOf st=oneType')(hI:IntKeys arr)(hkey:key.1= .int kv t)(hb:base+n<=arr.size)(hh:hint<n)(hS:Sg arr base (base+n))
  (h: ∀k,k<=n->(∀i,i<k->Bf left (K arr (base+i)) kv)->(∀i,k<=i->i<n-> ¬Bf left (K arr (base+i)) kv)->Q (some k) st):wpS (model prog w) A E s (wE left key arr base n hint) Q st:=by
 rw[ziN];have mono: ∀{i j:Nat},i<=j->j<n->K arr (base+i)<=K arr (base+j):=λa b=>hS _ _ 'o' 'o' 'o';refine JY (jf hk hI hkey 'o' (λq=> ?_) λq=> ?_)
 ·simp only[if_true];refine JY (wpS_mono (wpS_forRange (I:=λx c st'=>st'=st/\ ∃l o,c=(none,l,o)/\l<o/\hint+l<n/\Bf left (K arr (base+(hint+l))) kv/\x+1<=o)
   (Q:=λc st'=>st'=st/\ ∃l o,c=(none,l,o)/\l<o/\hint+l<n/\Bf left (K arr (base+(hint+l))) kv/\(n - hint<=o\/ ¬Bf left (K arr (base+(hint+o))) kv)) ?step ?fin ⟨rfl,0,1,rfl,'o','o',q,'o'⟩) ?post)
  case fin=>exact λc st' ⟨e1,l,o,e2,b1,b2,b3,b4⟩=>⟨e1,l,o,e2,b1,b2,b3, .inl 'o'⟩
  case step=>
   intro x c st' _ _ ⟨e1,l,o,e2,b1,b2,b3,b4⟩;subst e1 e2;dsimp only;by_cases z:o≥n - hint
   ·rw[Jg z];exact JZ ⟨rfl,l,o,rfl,b1,b2,b3, .inl z⟩
   rw[Jf z];refine JY (jf hk hI hkey 'o' (λq2=> ?_) λq2=> ?_)
   ·simp only[Bool.not_true,Js,if_false];exact JZ ⟨rfl,o,2*o+1,rfl,'o','o',q2,'o'⟩
   ·simp only[Bool.not_false,if_true];exact JZ ⟨rfl,l,o,rfl,b1,b2,b3, .inr q2⟩
  case post=>
   intro c st' ⟨e1,l,o,e2,b1,b2,b3,b4⟩;subst e1 e2;refine zhM (lo:=hint+l+1) (hi:=hint+min o (n - hint)) hk hI hkey hb hS 'o' 'o' (λi hi=>b3.mono (mono 'o' 'o')) (λi u v=> ?_) h;rcases b4 with b|b
   ·omega
   ·exact Bf.not b (mono 'o' v)
 ·simp only[Js,if_false];refine JY (wpS_mono (wpS_forRange (I:=λx c st'=>st'=st/\ ∃l o,c=(none,l,o)/\l<o/\l<=hint/\ ¬Bf left (K arr (base+(hint - l))) kv/\x+1<=o)
   (Q:=λc st'=>st'=st/\ ∃l o,c=(none,l,o)/\l<o/\l<=hint/\ ¬Bf left (K arr (base+(hint - l))) kv/\(hint+1<=o\/Bf left (K arr (base+(hint - o))) kv)) ?step2 ?fin2 ⟨rfl,0,1,rfl,'o','o',q,'o'⟩) ?post2)
  case fin2=>exact λc st' ⟨e1,l,o,e2,b1,b2,b3,b4⟩=>⟨e1,l,o,e2,b1,b2,b3, .inl 'o'⟩
  case step2=>
   intro x c st' _ _ ⟨e1,l,o,e2,b1,b2,b3,b4⟩;subst e1 e2;dsimp only;by_cases z:o≥hint+1
   ·rw[Jg z];exact JZ ⟨rfl,l,o,rfl,b1,b2,b3, .inl z⟩
   rw[Jf z];refine JY (jf hk hI hkey 'o' (λq2=> ?_) λq2=> ?_)
   ·simp only[if_true];exact JZ ⟨rfl,l,o,rfl,b1,b2,b3, .inr q2⟩
   ·simp only[Js,if_false];exact JZ ⟨rfl,o,2*o+1,rfl,'o','o',q2,'o'⟩
  case post2=>
   intro c st' ⟨e1,l,o,e2,b1,b2,b3,b4⟩;subst e1 e2;refine zhM (lo:=hint+1 - min o (hint+1)) (hi:=hint - l) hk hI hkey hb hS 'o' 'o' (λi hi=> ?_) (λi u v=>Bf.not b3 (mono u v)) h;rcases b4 with b|b
   ·omega
   ·exact b.mono (mono 'o' 'o')
end
end L2.Tm
namespace L2.Tm
open PySem PyProof.Rows
variable{xs a b:AK}{i ia ib:Nat}{o:List Keyed}
def ky(p:Keyed):Int:=numOf p.1
theorem qK{p:Keyed}(e:xs[i]? =some p):ky p=K xs i:=by
 unfold K ky;rw[e]
structure MI (a b:AK) (o:List Keyed) (ia ib:Nat):Prop where
 la:ia<=a.size
 lb:ib<=b.size
 pm:o.Perm (a.toList.take ia++b.toList.take ib)
 so:o.Pairwise λx y=>ky x<=ky y
 xa: ∀x∈o,∀i,ia<=i->i<a.size->ky x<=K a i
 xb: ∀x∈o,∀i,ib<=i->i<b.size->ky x<=K b i
def Mg(a b:AK)(r:List Keyed):Prop:=r.Perm (a.toList++b.toList)/\r.Pairwise λx y=>ky x<=ky y
theorem zjy{p:Keyed}(h:o.Pairwise λx y=>ky x<=ky y)(q: ∀x∈o,ky x<=ky p):(o++ [p]).Pairwise λx y=>ky x<=ky y:=
 List.pairwise_append.mpr ⟨h,List.pairwise_singleton _ _,λx hx y hy=>by rw[Jm.mp hy];exact q x hx⟩
theorem zgk{p:Keyed}(e:xs[i]? =some p):xs.toList.take (i+1)=xs.toList.take i++ [p]:=by
 rw[JH,JG,e];rfl
theorem xA{p:Keyed}(e:xs[i]? =some p):i<xs.size:=(Array.getElem?_eq_some_iff.mp e).1
theorem MI.pushA{p:Keyed}(h:MI a b o ia ib)(sa:Sg a 0 a.size)(e:a[ia]? =some p)(q: ∀i,ib<=i->i<b.size->K a ia<=K b i):MI a b (o++ [p]) (ia+1) ib where
 la:=xA e
 lb:=h.lb
 pm:=by
  rw[zgk e,JM];exact(h.pm.append_right [p]).trans (by rw[JM];exact List.perm_append_comm.append_left _)
 so:=zjy h.so λx hx=>by rw[qK e];exact h.xa x hx ia (Je _) (xA e)
 xa:=λx hx i u v=>by
  rcases Jr.mp hx with z|z
  ·exact h.xa x z i 'o' v
  ·rw[Jm.mp z,qK e];exact sa _ _ (Jv _) 'o' v
 xb:=λx hx i u v=>by
  rcases Jr.mp hx with z|z
  ·exact h.xb x z i u v
  ·rw[Jm.mp z,qK e];exact q i u v
theorem MI.pushB{p:Keyed}(h:MI a b o ia ib)(sb:Sg b 0 b.size)(e:b[ib]? =some p)(q: ∀i,ia<=i->i<a.size->K b ib<=K a i):MI a b (o++ [p]) ia (ib+1) where
 la:=h.la
 lb:=xA e
 pm:=by
  rw[zgk e,<-JM];exact h.pm.append_right [p]
 so:=zjy h.so λx hx=>by rw[qK e];exact h.xb x hx ib (Je _) (xA e)
 xb:=λx hx i u v=>by
  rcases Jr.mp hx with z|z
  ·exact h.xb x z i 'o' v
  ·rw[Jm.mp z,qK e];exact sb _ _ (Jv _) 'o' v
 xa:=λx hx i u v=>by
  rcases Jr.mp hx with z|z
  ·exact h.xa x z i u v
  ·rw[Jm.mp z,qK e];exact q i u v
theorem jg{k:Nat}(h:i+(k+1)<=xs.size): ∃p,xs[i+k]? =some p/\(xs.toList.drop i).take (k+1)=(xs.toList.drop i).take k++ [p]:=by
 have hi:i+k<xs.size:=by omega
 refine⟨xs[i+k],getElem?_pos xs (i+k) hi,?_⟩;rw[JH,List.getElem?_drop,JG,getElem?_pos xs (i+k) hi];rfl
theorem MI.appA{a b:AK}(sa:Sg a 0 a.size){ib:Nat}: ∀(k:Nat) {o:List Keyed} {ia:Nat},MI a b o ia ib->ia+k<=a.size->(∀j i,j<k->ib<=i->i<b.size->K a (ia+j)<=K b i)->MI a b (o++(a.toList.drop ia).take k) (ia+k) ib
 |0,o,ia,h,_,_=>by rw[List.take_zero,Jt];exact h
 |k+1,o,ia,h,l,q=>by
  obtain⟨p,e,z⟩:=jg l;rw[z,<-JM];exact(MI.appA sa k h 'o' λj i u=>q j i 'o').pushA sa e λi=>q k i 'o'
theorem MI.appB{a b:AK}(sb:Sg b 0 b.size){ia:Nat}: ∀(k:Nat) {o:List Keyed} {ib:Nat},MI a b o ia ib->ib+k<=b.size->(∀j i,j<k->ia<=i->i<a.size->K b (ib+j)<=K a i)->MI a b (o++(b.toList.drop ib).take k) ia (ib+k)
 |0,o,ib,h,_,_=>by rw[List.take_zero,Jt];exact h
 |k+1,o,ib,h,l,q=>by
  obtain⟨p,e,z⟩:=jg l;rw[z,<-JM];exact(MI.appB sb k h 'o' λj i u=>q j i 'o').pushB sb e λi=>q k i 'o'
theorem MI.mg(h:MI a b o a.size b.size):Mg a b o:=
 ⟨h.pm.trans (by rw[List.take_of_length_le (by simp),List.take_of_length_le (by simp)]),h.so⟩
theorem qL{j:Nat}:(xs.extract i j).toList=(xs.toList.drop i).take (j - i):=by
 rw[Array.toList_extract,List.extract_eq_take_drop]
theorem MI.done{o:AK}(sa:Sg a 0 a.size)(sb:Sg b 0 b.size)(h:MI a b o.toList ia ib)(z:ib=b.size\/ia=a.size):Mg a b (o++a.extract ia a.size++b.extract ib b.size).toList:=by
 rw[Array.toList_append,Array.toList_append,qL,qL];have h1:=h.appA sa (a.size - ia) (by have:=h.la;omega) (λj i u v w=>by omega);rw[show ia+(a.size - ia)=a.size by have:=h.la;omega] at h1;have h2:=h1.appB sb (b.size - ib) (by have:=h.lb;omega) (λj i u v w=>by omega);rw[show ib+(b.size - ib)=b.size by have:=h.lb;omega] at h2;exact h2.mg
theorem MI.last{o:AK}(sa:Sg a 0 a.size)(sb:Sg b 0 b.size)(h:MI a b o.toList ia ib)(z:ia+1=a.size)(g: ∀i,i<b.size->K b i<=K a (a.size - 1)):Mg a b (o++b.extract ib b.size++a.extract ia a.size).toList:=by
 rw[Array.toList_append,Array.toList_append,qL,qL];have h1:=h.appB sb (b.size - ib) (by have:=h.lb;omega) (λj i u v w=>by
  obtain rfl:i=a.size - 1:=by omega
  exact g _ (by have:=h.lb;omega))
 rw[show ib+(b.size - ib)=b.size by have:=h.lb;omega] at h1;have h2:=h1.appA sa (a.size - ia) (by have:=h.la;omega) (λj i u v w=>by omega);rw[show ia+(a.size - ia)=a.size by have:=h.la;omega] at h2;exact h2.mg
def wF:Nat->StateT SortSt Sem Unit:=sortPriv% PySem.Builtin.setMinGallop
def zfl:AK->AK->StateT SortSt Sem AK:=sortPriv% PySem.Builtin.mergeLo
theorem zkr(g:Nat):wF g=modify λs=>SortSt.mk' (kindOf s) (arrOf s) (pendingOf s) g (failedOf s):=rfl
def wG(a b out:AK)(ia ib:Nat):AK:=out++a.extract ia a.size++b.extract ib b.size
def fin2(a b out:AK)(ia ib:Nat):AK:=out++b.extract ib b.size++a.extract ia a.size
end L2.Tm
namespace L2.Tm
open PySem PyProof.Rows
abbrev GT:=Option AK×AK×Nat×Nat×Nat×Nat×Nat
abbrev IT:=Option AK×AK×Nat×Nat×Nat×Nat
abbrev OT:=Option AK×AK×Nat×Nat×Nat
section
variable (a b:AK)
noncomputable def lo4(mg ac bc ia:Nat)(out:AK)(ib:Nat):StateT SortSt Sem (ForInStep GT):=do
 let p<-elem' a ia
 if (ia+1+1==a.size)=true then pure (ForInStep.done (some (fin2 a b (out.push p) (ia+1) ib),out.push p,ia+1,ib,mg,ac,bc))
 else if (decide (ac<7) && decide (bc<7))=true then pure (ForInStep.done (none,out.push p,ia+1,ib,mg,ac,bc))
 else pure (ForInStep.yield (none,out.push p,ia+1,ib,mg,ac,bc))
noncomputable def lo3(mg ac bc ib:Nat)(out:AK)(ia:Nat):StateT SortSt Sem (ForInStep GT):=do
 let q<-elem' b ib
 if (ib+1==b.size)=true then pure (ForInStep.done (some (wG a b (out.push q) ia (ib+1)),out.push q,ia,ib+1,mg,ac,bc))
 else do
  let p<-elem' a ia
  let x<-wE true p b (ib+1) (b.size - (ib+1)) 0
  match x with
  |some k=>
   if k>0 then
    if (ib+1+k==b.size)=true then pure (ForInStep.done (some (wG a b (out.push q++b.extract (ib+1) (ib+1+k)) ia (ib+1+k)),out.push q++b.extract (ib+1) (ib+1+k),ia,ib+1+k,mg,ac,k))
    else lo4 a b mg ac k ia (out.push q++b.extract (ib+1) (ib+1+k)) (ib+1+k)
   else lo4 a b mg ac k ia (out.push q) (ib+1)
  |_=>pure (ForInStep.done (some (wG a b (out.push q) ia (ib+1)),out.push q,ia,ib+1,mg,ac,bc))
noncomputable def lo2(ia ib ac bc:Nat)(out:AK)(mg:Nat):StateT SortSt Sem (ForInStep GT):=do
 wF mg
 let q<-elem' b ib
 let x<-wE false q a ia (a.size - ia) 0
 match x with
 |some k=>
  if k>0 then
   if (ia+k+1==a.size)=true then pure (ForInStep.done (some (fin2 a b (out++a.extract ia (ia+k)) (ia+k) ib),out++a.extract ia (ia+k),ia+k,ib,mg,k,bc))
   else if (ia+k==a.size)=true then pure (ForInStep.done (some (wG a b (out++a.extract ia (ia+k)) (ia+k) ib),out++a.extract ia (ia+k),ia+k,ib,mg,k,bc))
   else lo3 a b mg k bc ib (out++a.extract ia (ia+k)) (ia+k)
  else lo3 a b mg k bc ib out ia
 |_=>pure (ForInStep.done (some (wG a b out ia ib),out,ia,ib,mg,ac,bc))
noncomputable def lo1(out:AK)(ia ib mg ac bc:Nat):StateT SortSt Sem (ForInStep GT):=if mg>1 then lo2 a b ia ib ac bc out (mg - 1) else lo2 a b ia ib ac bc out mg
noncomputable def loB(out:AK)(ia ib bc mg:Nat):StateT SortSt Sem (ForInStep IT):=do
 let q<-elem' b ib
 if (ib+1==b.size)=true then pure (ForInStep.done (some (wG a b (out.push q) ia (ib+1)),out.push q,ia,ib+1,0,bc+1))
 else if bc+1≥mg then pure (ForInStep.done (none,out.push q,ia,ib+1,0,bc+1))
 else pure (ForInStep.yield (none,out.push q,ia,ib+1,0,bc+1))
noncomputable def loA(out:AK)(ia ib ac mg:Nat):StateT SortSt Sem (ForInStep IT):=do
 let p<-elem' a ia
 if (ia+1+1==a.size)=true then pure (ForInStep.done (some (fin2 a b (out.push p) (ia+1) ib),out.push p,ia+1,ib,ac+1,0))
 else if ac+1≥mg then pure (ForInStep.done (none,out.push p,ia+1,ib,ac+1,0))
 else pure (ForInStep.yield (none,out.push p,ia+1,ib,ac+1,0))
noncomputable def loI(mg:Nat)(out:AK)(ia ib ac bc:Nat):StateT SortSt Sem (ForInStep IT):=do
 let q<-elem' b ib
 let p<-elem' a ia
 let x<-lt' q p
 match x with
 |some y=>if y=true then loB a b out ia ib bc mg else loA a b out ia ib ac mg
 |_=>pure (ForInStep.done (some (wG a b out ia ib),out,ia,ib,ac,bc))
noncomputable def loE(r:Option AK)(out:AK)(ia ib mg:Nat):StateT SortSt Sem (ForInStep OT):=match r with
 |some r=>pure (ForInStep.done (some r,out,ia,ib,mg))
 |none=>do
  wF (mg+1)
  pure (ForInStep.yield (none,out,ia,ib,mg+1))
noncomputable def loG(r:Option AK)(out:AK)(ia ib ac bc mg:Nat):StateT SortSt Sem (ForInStep OT):=match r with
 |some r=>pure (ForInStep.done (some r,out,ia,ib,mg))
 |none=>do
  rule "list.sort.gallop"
  let c<-forIn [0:a.size+b.size] ((none,out,ia,ib,mg+1,ac,bc):GT) λ_ c=>lo1 a b c.2.1 c.2.2.1 c.2.2.2.1 c.2.2.2.2.1 c.2.2.2.2.2.1 c.2.2.2.2.2.2
  loE c.1 c.2.1 c.2.2.1 c.2.2.2.1 c.2.2.2.2.1
noncomputable def loO(out:AK)(ia ib mg:Nat):StateT SortSt Sem (ForInStep OT):=do
 let c<-forIn [0:a.size+b.size] ((none,out,ia,ib,0,0):IT) λ_ c=>loI a b mg c.2.1 c.2.2.1 c.2.2.2.1 c.2.2.2.2.1 c.2.2.2.2.2
 loG a b c.1 c.2.1 c.2.2.1 c.2.2.2.1 c.2.2.2.2.1 c.2.2.2.2.2 mg
noncomputable def mlast(r:Option AK):StateT SortSt Sem AK:=match r with
 |some r=>pure r
 |none=>unsupported "internal:list.sort.merge-bound"
theorem zhO:zfl a b=(do
  rule "list.sort.merge-lo"
  let p<-elem' b 0
  if (1==b.size)=true then pure (wG a b #[p] 0 1)
  else if (0+1==a.size)=true then pure (fin2 a b #[p] 0 1)
  else do
   let g<-get
   let c<-forIn [0:a.size+b.size] ((none, #[p],0,1,gallopOf g):OT) λ_ c=>loO a b c.2.1 c.2.2.1 c.2.2.2.1 c.2.2.2.2
   mlast c.1):=by kernel_rfl
end
end L2.Tm
namespace L2.Tm
open PySem PyProof.Rows
variable{a b out:AK}{ia ib:Nat}
def Sm(st st':SortSt):Prop:=kindOf st'=oneType'/\arrOf st'=arrOf st/\pendingOf st'=pendingOf st/\failedOf st'=failedOf st
section
variable {prog:Program} {w:World} {A:Around} {E:Value->Shared->Prop} {s:Shared}
theorem jh{st:SortSt}{g:Nat}{Q:Unit->SortSt->Prop}(h: ∀st',(∀st0,Sm st0 st->Sm st0 st')->Q () st'):wpS (model prog w) A E s (wF g) Q st:=by
 rw[zkr];exact wpS_modify (h _ λst0 z=>z)
theorem MI.pA{p:Keyed}(h:MI a b out.toList ia ib)(sa:Sg a 0 a.size)(e:a[ia]? =some p)(q: ∀i,ib<=i->i<b.size->K a ia<=K b i):MI a b (out.push p).toList (ia+1) ib:=by
 rw[Array.toList_push];exact h.pushA sa e q
theorem MI.pB{p:Keyed}(h:MI a b out.toList ia ib)(sb:Sg b 0 b.size)(e:b[ib]? =some p)(q: ∀i,ia<=i->i<a.size->K b ib<=K a i):MI a b (out.push p).toList ia (ib+1):=by
 rw[Array.toList_push];exact h.pushB sb e q
theorem MI.eA{k:Nat}(h:MI a b out.toList ia ib)(sa:Sg a 0 a.size)(l:ia+k<=a.size)(q: ∀j i,j<k->ib<=i->i<b.size->K a (ia+j)<=K b i):MI a b (out++a.extract ia (ia+k)).toList (ia+k) ib:=by
 rw[Array.toList_append,qL,Nat.add_sub_cancel_left];exact h.appA sa k l q
theorem MI.eB{k:Nat}(h:MI a b out.toList ia ib)(sb:Sg b 0 b.size)(l:ib+k<=b.size)(q: ∀j i,j<k->ia<=i->i<a.size->K b (ib+j)<=K a i):MI a b (out++b.extract ib (ib+k)).toList ia (ib+k):=by
 rw[Array.toList_append,qL,Nat.add_sub_cancel_left];exact h.appB sb k l q
end
end L2.Tm
namespace L2.Tm
open PySem PyProof.Rows
variable{α β γ ρ:Type}{st st':SortSt}{G:AK->Prop}{n:Nat}
def PG(st:SortSt)(G:AK->Prop)(L:α->β->γ->Prop)(r:ForInStep (Option AK×α×β×γ×ρ))(st':SortSt):Prop:=Sm st st'/\match r with
 | .done c=>(∃r z,c=(some r,z)/\G r)\/ ∃out ia ib z,c=(none,out,ia,ib,z)/\L out ia ib
 | .yield c=> ∃out ia ib z,c=(none,out,ia,ib,z)/\L out ia ib
def PoR(st:SortSt)(G:AK->Prop)(L:α->β->γ->Prop)(r:ForInStep (Option AK×α×β×γ×ρ))(st':SortSt):Prop:=Sm st st'/\match r with
 | .done c=> ∃r z,c=(some r,z)/\G r
 | .yield c=> ∃out ia ib z,c=(none,out,ia,ib,z)/\L out ia ib
section
variable {prog:Program} {w:World} {A:Around} {E:Value->Shared->Prop} {s:Shared} {a b:AK}
theorem PG.fin{L:α->β->γ->Prop}{r:AK}{z:α×β×γ×ρ}(h:Sm st st')(g:G r):PG st G L (.done (some r,z)) st':=⟨h, .inl ⟨r,z,rfl,g⟩⟩
theorem PG.brk{L:α->β->γ->Prop}{out:α}{ia:β}{ib:γ}{z:ρ}(h:Sm st st')(l:L out ia ib):PG st G L (.done (none,out,ia,ib,z)) st':=⟨h, .inr ⟨out,ia,ib,z,rfl,l⟩⟩
theorem PG.yld{L:α->β->γ->Prop}{out:α}{ia:β}{ib:γ}{z:ρ}(h:Sm st st')(l:L out ia ib):PG st G L (.yield (none,out,ia,ib,z)) st':=⟨h,out,ia,ib,z,rfl,l⟩
theorem PoR.fin{L:α->β->γ->Prop}{r:AK}{z:α×β×γ×ρ}(h:Sm st st')(g:G r):PoR st G L (.done (some r,z)) st':=⟨h,r,z,rfl,g⟩
theorem PoR.yld{L:α->β->γ->Prop}{out:α}{ia:β}{ib:γ}{z:ρ}(h:Sm st st')(l:L out ia ib):PoR st G L (.yield (none,out,ia,ib,z)) st':=⟨h,out,ia,ib,z,rfl,l⟩
theorem jj{f:Nat->(Option AK×α×β×γ×ρ)->StateT SortSt Sem (ForInStep (Option AK×α×β×γ×ρ))}{st:SortSt}{G:AK->Prop}(L:Nat->α->β->γ->Prop){Le:α->β->γ->Prop}{n:Nat}{Q:(Option AK×α×β×γ×ρ)->SortSt->Prop}
  (hm: ∀y out ia ib,L (y+1) out ia ib->Le out ia ib) (hn:0<n) (step: ∀y st' out ia ib z,Sm st st'->L y out ia ib->wpS (model prog w) A E s (f y (none,out,ia,ib,z)) (PG st G (L (y+1))) st')
  (p1: ∀st' r z,Sm st st'->G r->Q (some r,z) st') (p2: ∀st' out ia ib z,Sm st st'->Le out ia ib->Q (none,out,ia,ib,z) st')
  {st0:SortSt} {out:α} {ia:β} {ib:γ} {z:ρ} (s0:Sm st st0) (l:L 0 out ia ib):wpS (model prog w) A E s (forIn [0:n] (none,out,ia,ib,z) f) Q st0:=by
 refine wpS_forRange (I:=λy c st'=>Sm st st'/\ ∃out ia ib z,c=(none,out,ia,ib,z)/\L y out ia ib) (λy c st' _ _ ⟨s1,out,ia,ib,z,e,l⟩=> ?_) (λc st' ⟨s1,out,ia,ib,z,e,l⟩=> ?_) ⟨s0,out,ia,ib,z,rfl,l⟩
 ·subst e;refine wpS_mono (step y st' out ia ib z s1 l) λr st2 h=> ?_;cases r with
  |done c=>
   obtain⟨s2,h⟩:=h;rcases h with⟨r,z,rfl,g⟩|⟨o,i,j,z,rfl,l⟩
   ·exact p1 st2 r z s2 g
   ·exact p2 st2 o i j z s2 (hm _ _ _ _ l)
  |yield c=>exact h
 ·subst e;obtain⟨k,hk⟩: ∃k,max 0 n=k+1:=⟨n - 1,'o'⟩
  rw[hk] at l;exact p2 st' out ia ib z s1 (hm _ _ _ _ l)
theorem outer{Q:AK->SortSt->Prop}{st0:SortSt}(L:Nat->α->β->γ->Prop){f:Nat->(Option AK×α×β×γ×Nat)->StateT SortSt Sem (ForInStep (Option AK×α×β×γ×Nat))}(h: ∀r st',G r->Sm st st'->Q r st')(no: ∀o i j,¬L n o i j)
  (step: ∀y st' out ia ib z,Sm st st'->L y out ia ib->wpS (model prog w) A E s (f y (none,out,ia,ib,z)) (PoR st G (L (y+1))) st') {out:α} {ia:β} {ib:γ} {z:Nat} (s0:Sm st st0) (l:L 0 out ia ib):
  wpS (model prog w) A E s (forIn [0:n] (none,out,ia,ib,z) f) (λc st'=>wpS (model prog w) A E s (mlast c.1) Q st') st0:=by
 refine wpS_forRange (I:=λy c st'=>Sm st st'/\ ∃out ia ib z,c=(none,out,ia,ib,z)/\L y out ia ib) (λy c st' _ _ ⟨s1,out,ia,ib,z,e,l⟩=> ?_) (λc st' ⟨s1,out,ia,ib,z,e,l⟩=>absurd (Nat.zero_max n ▸ l) (no out ia ib)) ⟨s0,out,ia,ib,z,rfl,l⟩;subst e;refine wpS_mono (step y st' out ia ib z s1 l) λr st2 h2=> ?_;cases r with
 |done c=>
  obtain⟨s2,r,z,rfl,g⟩:=h2;exact JZ (h r st2 g s2)
 |yield c=>exact h2
theorem ifB{M:Model}{m:Nat}{x y:StateT SortSt Sem α}{Q:α->SortSt->Prop}(h1:m=n->wpS M A E s x Q st)(h2:m≠n->wpS M A E s y Q st):wpS M A E s (if (m==n)=true then x else y) Q st:=by
 by_cases h:m=n
 ·rw[Jg (by rw[h];exact beq_self_eq_true n)];exact h1 h
 ·rw[Jf (by rw[beq_iff_eq];exact h)];exact h2 h
theorem ifC{M:Model}{c:Prop}[Decidable c]{x y:StateT SortSt Sem α}{Q:α->SortSt->Prop}(h1:c->wpS M A E s x Q st)(h2: ¬c->wpS M A E s y Q st):wpS M A E s (if c then x else y) Q st:=by
 by_cases h:c
 ·rw[Jg h];exact h1 h
 ·rw[Jf h];exact h2 h
structure Rn2 (a b:AK):Prop where
 ha:IntKeys a
 hb:IntKeys b
 sa:Sg a 0 a.size
 sb:Sg b 0 b.size
def LI(a b:AK)(x:Nat)(out:AK)(ia ib:Nat):Prop:=MI a b out.toList ia ib/\ia+1<a.size/\ib<b.size/\x<=ia+ib
def Mt(a b r:AK):Prop:=Mg a b r.toList
variable {st st':SortSt} {out:AK} {ia ib x mg ac bc:Nat}
theorem zlR(R:Rn2 a b)(hl: ∀i,i<b.size->K b i<=K a (a.size - 1))(s1:Sm st st')(m:MI a b out.toList ia ib)(u:ia+1<a.size)(v:ib<b.size)(hx:x<=ia+ib)(g: ∀i,ib<=i->i<b.size->K a ia<=K b i):
  wpS (model prog w) A E s (lo4 a b mg ac bc ia out ib) (PG st (Mt a b) (LI a b x)) st':=by
 obtain⟨p,tp,ep,kp⟩:=int_at R.ha (i:=ia) 'o';have m':=m.pA R.sa ep g;refine JY (yQ ep (ifB (λz=>JZ (PG.fin s1 (m'.last R.sa R.sb z hl))) λz=> ?_));have l:LI a b x (out.push p) (ia+1) ib:=⟨m','o',v,'o'⟩
 exact ifC (λ_=>JZ (PG.brk s1 l)) λ_=>JZ (PG.yld s1 l)
theorem zlS(R:Rn2 a b)(hl: ∀i,i<b.size->K b i<=K a (a.size - 1))(s1:Sm st st')(m:MI a b out.toList ia ib)(u:ia+1<a.size)(v:ib<b.size)(hx:x<=ia+ib)(g: ∀i,ia<=i->i<a.size->K b ib<=K a i):
  wpS (model prog w) A E s (lo3 a b mg ac bc ib out ia) (PG st (Mt a b) (LI a b x)) st':=by
 obtain⟨q,tq,eq,kq⟩:=int_at R.hb v;have m3:=m.pB R.sb eq g;refine JY (yQ eq (ifB (λz=>JZ (PG.fin s1 (m3.done R.sa R.sb (.inl z)))) λz=> ?_));obtain⟨p,tp,ep,kp⟩:=int_at R.ha (i:=ia) 'o';have v2:ib+1<b.size:=by omega
 refine JY (yQ ep (JY (gallop s1.1 R.hb kp 'o' 'o' (λi j c d e=>R.sb i j (Jv _) d 'o') λk hk f1 f2=> ?_)));have g4: ∀i,ib+1+k<=i->i<b.size->K a ia<=K b i:=λi c d=>by
  have:=f2 (i - (ib+1)) 'o' 'o';rw[show ib+1+(i - (ib+1))=i by omega] at this;exact Int.not_lt.mp this
 refine ifC (λzk=> ?_) λzk=> ?_
 ·have m4:=m3.eB (k:=k) R.sb 'o' λj i c d f=>Int.le_trans (Int.le_of_lt (show K b (ib+1+j)<K a ia from f1 j c)) (R.sa _ _ (Jv _) d f);refine ifB (λz=>JZ (PG.fin s1 (m4.done R.sa R.sb (.inl z)))) λz=> ?_;exact zlR R hl s1 m4 u 'o' 'o' g4
 ·obtain rfl:k=0:=by omega
  exact zlR R hl s1 m3 u v2 'o' g4
theorem zlT(R:Rn2 a b)(hl: ∀i,i<b.size->K b i<=K a (a.size - 1))(s0:Sm st st')(l:LI a b x out ia ib):
  wpS (model prog w) A E s (lo2 a b ia ib ac bc out mg) (PG st (Mt a b) (LI a b x)) st':=by
 obtain⟨m,u,v,hx⟩:=l;refine JY (jh λst1 k1=> ?_);have s1:=k1 _ s0;obtain⟨q,tq,eq,kq⟩:=int_at R.hb v;refine JY (yQ eq (JY (gallop s1.1 R.ha kq 'o' 'o' (λi j c d e=>R.sa i j (Jv _) d 'o') λk hk f1 f2=> ?_)));have g2: ∀i,ia+k<=i->i<a.size->K b ib<=K a i:=λi c d=>by
  have:=f2 (i - ia) 'o' 'o';rw[show ia+(i - ia)=i by omega] at this;exact Int.le_of_lt (Int.not_le.mp this)
 refine ifC (λzk=> ?_) λzk=> ?_
 ·have m2:=m.eA (k:=k) R.sa 'o' λj i c d f=>Int.le_trans (show K a (ia+j)<=K b ib from f1 j c) (R.sb _ _ (Jv _) d f);refine ifB (λz=>JZ (PG.fin s1 (m2.last R.sa R.sb z hl))) λz=>ifB (λz=>JZ (PG.fin s1 (m2.done R.sa R.sb (.inr z)))) λz'=> ?_;exact zlS R hl s1 m2 'o' v 'o' g2
 ·obtain rfl:k=0:=by omega
  exact zlS R hl s1 m u v hx g2
theorem zpr(R:Rn2 a b)(hl: ∀i,i<b.size->K b i<=K a (a.size - 1))(s1:Sm st st')(l:LI a b x out ia ib):
  wpS (model prog w) A E s (loI a b mg out ia ib ac bc) (PG st (Mt a b) (LI a b (x+1))) st':=by
 obtain⟨m,u,v,hx⟩:=l;obtain⟨p,tp,ep,kp⟩:=int_at R.ha (i:=ia) 'o';obtain⟨q,tq,eq,kq⟩:=int_at R.hb v;refine JY (yQ eq (JY (yQ ep (JY (ltP s1.1 kq kp ?_)))));refine ifC (λz=> ?_) λz=> ?_
 ·have z:=of_decide_eq_true z;have m':=m.pB R.sb eq λi c d=>Int.le_trans (Int.le_of_lt z) (R.sa _ _ (Jv _) c d);refine JY (yQ eq (ifB (λz=>JZ (PG.fin s1 (m'.done R.sa R.sb (.inl z)))) λz3=> ?_));have l:LI a b (x+1) (out.push q) ia (ib+1):=⟨m',u,'o','o'⟩
  exact ifC (λ_=>JZ (PG.brk s1 l)) λ_=>JZ (PG.yld s1 l)
 ·have z: ¬K b ib<K a ia:=λh=>z (JO h);have m':=m.pA R.sa ep λi c d=>Int.le_trans (Int.not_lt.mp z) (R.sb _ _ (Jv _) c d);refine JY (yQ ep (ifB (λz=>JZ (PG.fin s1 (m'.last R.sa R.sb z hl))) λz3=> ?_));have l:LI a b (x+1) (out.push p) (ia+1) ib:=⟨m','o',v,'o'⟩
  exact ifC (λ_=>JZ (PG.brk s1 l)) λ_=>JZ (PG.yld s1 l)
theorem zps{L:AK->Nat->Nat->Prop}(s1:Sm st st')(l:L out ia ib):wpS (model prog w) A E s (loE none out ia ib mg) (PoR st G L) st':=JY (m:=wF (mg+1)) (jh λst3 k3=>JZ (PoR.yld (k3 _ s1) l))
theorem zpt(R:Rn2 a b)(hl: ∀i,i<b.size->K b i<=K a (a.size - 1))(s1:Sm st st')(l:LI a b x out ia ib):
  wpS (model prog w) A E s (loG a b none out ia ib ac bc mg) (PoR st (Mt a b) (LI a b x)) st':=by
 refine JY (wpS_lift (wpAny_rule ⟨rfl,JY (jj (G:=Mt a b) (λ_=>LI a b x) (Le:=LI a b x) (λ_ _ _ _ h=>h) (Jy (Nat.lt_of_le_of_lt (Jv _) l.2.2.1) (Nat.le_add_left _ _)) (λy st2 o i j z s2 l2=> ?_) (λst2 r z s2 g=>JZ (PoR.fin s2 g)) (λst2 o i j z s2 l2=>zps s2 l2) s1 l)⟩));exact ifC (λ_=>zlT R hl s2 l2) λ_=>zlT R hl s2 l2
theorem zpu(R:Rn2 a b)(hl: ∀i,i<b.size->K b i<=K a (a.size - 1))(s1:Sm st st')(l:LI a b x out ia ib):
  wpS (model prog w) A E s (loO a b out ia ib mg) (PoR st (Mt a b) (LI a b (x+1))) st':=by
 refine JY (jj (G:=Mt a b) (λy=>LI a b (x+y)) (Le:=LI a b (x+1)) (λy o i j h=>⟨h.1,h.2.1,h.2.2.1,JE (Nat.add_le_add_left (Nat.le_add_left 1 y) x) h.2.2.2⟩) (Jy (Nat.lt_of_le_of_lt (Jv _) l.2.2.1) (Nat.le_add_left _ _)) (λy st2 o i j z s2 l2=> ?_) (λst2 r z s2 g=>JZ (PoR.fin s2 g)) (λst2 o i j z s2 l2=>zpt R hl s2 l2) s1 l);exact zpr R hl s2 l2
theorem mergeLo{Q:AK->SortSt->Prop}(hk:kindOf st=oneType')(ha:IntKeys a)(hb:IntKeys b)(sa:Sg a 0 a.size)(sb:Sg b 0 b.size)(na:1<=a.size)(nb:1<=b.size)(h1:K b 0<=K a 0)(hl: ∀i,i<b.size->K b i<=K a (a.size - 1))
  (h: ∀r st',Mg a b r.toList->Sm st st'->Q r st'):wpS (model prog w) A E s (zfl a b) Q st:=by
 rw[zhO];obtain⟨p0,t0,e0,k0⟩:=int_at hb (i:=0) 'o';have m0:MI a b (#[]:AK).toList 0 0:=⟨Jv _,Jv _,by simp,List.Pairwise.nil,λ_ h=>by simp at h,λ_ h=>by simp at h⟩
 have m1:MI a b (#[p0]:AK).toList 0 1:=m0.pushB sb e0 λi u v=>Int.le_trans h1 (sa _ _ (Je _) u v);have s0:Sm st st:=⟨hk,rfl,rfl,rfl⟩
 refine JY (wpS_lift (wpAny_rule ⟨rfl,JY (yQ e0 (ifB (λz=>JZ (h _ _ (m1.done sa sb (.inl z)) s0)) λz1=>ifB (λz=>JZ (h _ _ (m1.last sa sb z hl) s0)) λz2=>JY (wpS_get (JY ?_))))⟩));exact outer (G:=Mt a b) (λx=>LI a b (x+1)) h (λo i j l=>by obtain⟨_,u,v,z⟩:=l;omega) (λy st2 o i j z s1 l=>zpu ⟨ha,hb,sa,sb⟩ hl s1 l) s0 ⟨m1,'o','o','o'⟩
end
end L2.Tm
namespace L2.Tm
open PySem PyProof.Rows
variable{o:List Keyed}{n na:Nat}{a b out:AK}
structure MH (a b:AK) (o:List Keyed) (na nb:Nat):Prop where
 la:na<=a.size
 lb:nb<=b.size
 pm:o.Perm (a.toList.drop na++b.toList.drop nb)
 so:o.Pairwise λx y=>ky y<=ky x
 xa: ∀x∈o,∀i,i<na->K a i<=ky x
 xb: ∀x∈o,∀i,i<nb->K b i<=ky x
theorem zhP{p:Keyed}(h:o.Pairwise λx y=>ky y<=ky x)(q: ∀x∈o,ky p<=ky x):(o++ [p]).Pairwise λx y=>ky y<=ky x:=
 List.pairwise_append.mpr ⟨h,List.pairwise_singleton _ _,λx hx y hy=>by rw[Jm.mp hy];exact q x hx⟩
theorem zhQ{xs:AK}{p:Keyed}(e:xs[n]? =some p):xs.toList.drop n=p::xs.toList.drop (n+1):=by
 have h:=xA e;rw[List.drop_eq_getElem_cons (by simpa using h)];congr 1;rw[getElem?_pos xs n h] at e;simpa using e
theorem MH.pushA{nb:Nat}{p:Keyed}(h:MH a b o (n+1) nb)(sa:Sg a 0 a.size)(e:a[n]? =some p)(q: ∀i,i<nb->K b i<=K a n):MH a b (o++ [p]) n nb where
 la:=Nat.le_of_lt (xA e)
 lb:=h.lb
 pm:=by
  rw[zhQ e];exact(h.pm.append_right [p]).trans List.perm_append_comm
 so:=zhP h.so λx hx=>by rw[qK e];exact h.xa x hx n (Nat.lt_succ_self _)
 xa:=λx hx i u=>by
  rcases Jr.mp hx with z|z
  ·exact h.xa x z i 'o'
  ·rw[Jm.mp z,qK e];exact sa _ _ (Jv _) (Nat.le_of_lt u) (xA e)
 xb:=λx hx i u=>by
  rcases Jr.mp hx with z|z
  ·exact h.xb x z i u
  ·rw[Jm.mp z,qK e];exact q i u
theorem MH.pushB{p:Keyed}(h:MH a b o na (n+1))(sb:Sg b 0 b.size)(e:b[n]? =some p)(q: ∀i,i<na->K a i<=K b n):MH a b (o++ [p]) na n where
 la:=h.la
 lb:=Nat.le_of_lt (xA e)
 pm:=by
  rw[zhQ e];exact(h.pm.append_right [p]).trans (by rw[JM];exact List.perm_append_comm.append_left _)
 so:=zhP h.so λx hx=>by rw[qK e];exact h.xb x hx n (Nat.lt_succ_self _)
 xb:=λx hx i u=>by
  rcases Jr.mp hx with z|z
  ·exact h.xb x z i 'o'
  ·rw[Jm.mp z,qK e];exact sb _ _ (Jv _) (Nat.le_of_lt u) (xA e)
 xa:=λx hx i u=>by
  rcases Jr.mp hx with z|z
  ·exact h.xa x z i u
  ·rw[Jm.mp z,qK e];exact q i u
theorem MH.appA{a b:AK}(sa:Sg a 0 a.size){nb t:Nat}: ∀(k:Nat) {o:List Keyed},MH a b o (t+k) nb->(∀j i,t<=j->j<t+k->i<nb->K b i<=K a j)->MH a b (o++((a.toList.drop t).take k).reverse) t nb
 |0,o,h,_=>by rw[List.take_zero,List.reverse_nil,Jt];exact h
 |k+1,o,h,q=>by
  obtain⟨p,e,z⟩:=jg (i:=t) (k:=k) h.la;rw[z,List.reverse_append,List.reverse_singleton,<-JM];exact(h.pushA (n:=t+k) sa e λi u=>q _ i 'o' 'o' u).appA sa k λj i c d f=>q j i c 'o' f
theorem MH.appB{a b:AK}(sb:Sg b 0 b.size){na t:Nat}: ∀(k:Nat) {o:List Keyed},MH a b o na (t+k)->(∀j i,t<=j->j<t+k->i<na->K a i<=K b j)->MH a b (o++((b.toList.drop t).take k).reverse) na t
 |0,o,h,_=>by rw[List.take_zero,List.reverse_nil,Jt];exact h
 |k+1,o,h,q=>by
  obtain⟨p,e,z⟩:=jg (i:=t) (k:=k) h.lb;rw[z,List.reverse_append,List.reverse_singleton,<-JM];exact(h.pushB (n:=t+k) sb e λi u=>q _ i 'o' 'o' u).appB sb k λj i c d f=>q j i c 'o' f
theorem MH.mg(h:MH a b o 0 0):Mg a b o.reverse:=
 ⟨(List.reverse_perm o).trans (by have:=h.pm;rwa[List.drop_zero,List.drop_zero] at this),List.pairwise_reverse.mpr h.so⟩
theorem MH.done{o:AK}{nb:Nat}(sa:Sg a 0 a.size)(sb:Sg b 0 b.size)(h:MH a b o.toList na nb)(z:na=0\/nb=0):Mg a b (a.extract 0 na++b.extract 0 nb++o.reverse).toList:=by
 have h1:=(show MH a b o.toList na (0+nb) by rw[Nat.zero_add];exact h).appB sb nb (λj i u v w=>by omega);have h2:=(show MH a b _ (0+na) 0 by rw[Nat.zero_add];exact h1).appA sa na (λj i u v w=>by omega)
 have:=h2.mg;rw[List.reverse_append,List.reverse_append,List.reverse_reverse,List.reverse_reverse] at this;rw[Array.toList_append,Array.toList_append,qL,qL,Array.toList_reverse,JM];exact this
theorem MH.first{o:AK}{nb:Nat}(sa:Sg a 0 a.size)(sb:Sg b 0 b.size)(h:MH a b o.toList na nb)(z:nb=1)(g:K b 0<=K a 0):Mg a b (b.extract 0 nb++a.extract 0 na++o.reverse).toList:=by
 have h1:=(show MH a b o.toList (0+na) nb by rw[Nat.zero_add];exact h).appA sa na (λj i u v w=>by
  obtain rfl:i=0:=by omega
  exact Int.le_trans g (sa _ _ (Je _) u (by have:=h.la;omega)))
 have h2:=(show MH a b _ 0 (0+nb) by rw[Nat.zero_add];exact h1).appB sb nb (λj i u v w=>by omega)
 have:=h2.mg;rw[List.reverse_append,List.reverse_append,List.reverse_reverse,List.reverse_reverse] at this;rw[Array.toList_append,Array.toList_append,qL,qL,Array.toList_reverse,JM];exact this
def zfm:AK->AK->StateT SortSt Sem AK:=sortPriv% PySem.Builtin.mergeHi
def wH(a b out:AK)(na nb:Nat):AK:=a.extract 0 na++b.extract 0 nb++out.reverse
def jk(a b out:AK)(na nb:Nat):AK:=b.extract 0 nb++a.extract 0 na++out.reverse
section
variable (a b:AK)
abbrev GH:=Option AK×Nat×Nat×AK×Nat×Nat×Nat
abbrev IH:=Option AK×Nat×Nat×AK×Nat×Nat
abbrev OH:=Option AK×Nat×Nat×AK×Nat
noncomputable def hi4(mg ac bc na:Nat)(out:AK)(nb:Nat):StateT SortSt Sem (ForInStep GH):=do
 let p<-elem' a (na - 1)
 if (na - 1==0)=true then pure (ForInStep.done (some (wH a b (out.push p) (na - 1) nb),na - 1,nb,out.push p,mg,ac,bc))
 else if (decide (ac<7) && decide (bc<7))=true then pure (ForInStep.done (none,na - 1,nb,out.push p,mg,ac,bc))
 else pure (ForInStep.yield (none,na - 1,nb,out.push p,mg,ac,bc))
noncomputable def hi3(mg ac bc nb:Nat)(out:AK)(na:Nat):StateT SortSt Sem (ForInStep GH):=do
 let q<-elem' b (nb - 1)
 if (nb - 1==1)=true then pure (ForInStep.done (some (jk a b (out.push q) na (nb - 1)),na,nb - 1,out.push q,mg,ac,bc))
 else do
  let p<-elem' a (na - 1)
  let x<-wE true p b 0 (nb - 1) (nb - 1 - 1)
  match x with
  |some t=>
   if nb - 1 - t>0 then
    if (t==1)=true then pure (ForInStep.done (some (jk a b (out.push q++(b.extract t (nb - 1)).reverse) na t),na,t,out.push q++(b.extract t (nb - 1)).reverse,mg,ac,nb - 1 - t))
    else if (t==0)=true then pure (ForInStep.done (some (wH a b (out.push q++(b.extract t (nb - 1)).reverse) na t),na,t,out.push q++(b.extract t (nb - 1)).reverse,mg,ac,nb - 1 - t))
    else hi4 a b mg ac (nb - 1 - t) na (out.push q++(b.extract t (nb - 1)).reverse) t
   else hi4 a b mg ac (nb - 1 - t) na (out.push q) (nb - 1)
  |_=>pure (ForInStep.done (some (wH a b (out.push q) na (nb - 1)),na,nb - 1,out.push q,mg,ac,bc))
noncomputable def hi2(na nb ac bc:Nat)(out:AK)(mg:Nat):StateT SortSt Sem (ForInStep GH):=do
 wF mg
 let q<-elem' b (nb - 1)
 let x<-wE false q a 0 na (na - 1)
 match x with
 |some t=>
  if na - t>0 then
   if (t==0)=true then pure (ForInStep.done (some (wH a b (out++(a.extract t na).reverse) t nb),t,nb,out++(a.extract t na).reverse,mg,na - t,bc))
   else hi3 a b mg (na - t) bc nb (out++(a.extract t na).reverse) t
  else hi3 a b mg (na - t) bc nb out na
 |_=>pure (ForInStep.done (some (wH a b out na nb),na,nb,out,mg,ac,bc))
noncomputable def hi1(na nb:Nat)(out:AK)(mg ac bc:Nat):StateT SortSt Sem (ForInStep GH):=if mg>1 then hi2 a b na nb ac bc out (mg - 1) else hi2 a b na nb ac bc out mg
noncomputable def hiA(na nb:Nat)(out:AK)(ac mg:Nat):StateT SortSt Sem (ForInStep IH):=do
 let p<-elem' a (na - 1)
 if (na - 1==0)=true then pure (ForInStep.done (some (wH a b (out.push p) (na - 1) nb),na - 1,nb,out.push p,ac+1,0))
 else if ac+1≥mg then pure (ForInStep.done (none,na - 1,nb,out.push p,ac+1,0))
 else pure (ForInStep.yield (none,na - 1,nb,out.push p,ac+1,0))
noncomputable def hiB(na nb:Nat)(out:AK)(bc mg:Nat):StateT SortSt Sem (ForInStep IH):=do
 let q<-elem' b (nb - 1)
 if (nb - 1==1)=true then pure (ForInStep.done (some (jk a b (out.push q) na (nb - 1)),na,nb - 1,out.push q,0,bc+1))
 else if bc+1≥mg then pure (ForInStep.done (none,na,nb - 1,out.push q,0,bc+1))
 else pure (ForInStep.yield (none,na,nb - 1,out.push q,0,bc+1))
noncomputable def hiI(mg na nb:Nat)(out:AK)(ac bc:Nat):StateT SortSt Sem (ForInStep IH):=do
 let q<-elem' b (nb - 1)
 let p<-elem' a (na - 1)
 let x<-lt' q p
 match x with
 |some y=>if y=true then hiA a b na nb out ac mg else hiB a b na nb out bc mg
 |_=>pure (ForInStep.done (some (wH a b out na nb),na,nb,out,ac,bc))
noncomputable def hiE(r:Option AK)(na nb:Nat)(out:AK)(mg:Nat):StateT SortSt Sem (ForInStep OH):=match r with
 |some r=>pure (ForInStep.done (some r,na,nb,out,mg))
 |none=>do
  wF (mg+1)
  pure (ForInStep.yield (none,na,nb,out,mg+1))
noncomputable def hiG(r:Option AK)(na nb:Nat)(out:AK)(ac bc mg:Nat):StateT SortSt Sem (ForInStep OH):=match r with
 |some r=>pure (ForInStep.done (some r,na,nb,out,mg))
 |none=>do
  rule "list.sort.gallop"
  let c<-forIn [0:a.size+b.size] ((none,na,nb,out,mg+1,ac,bc):GH) λ_ c=>hi1 a b c.2.1 c.2.2.1 c.2.2.2.1 c.2.2.2.2.1 c.2.2.2.2.2.1 c.2.2.2.2.2.2
  hiE c.1 c.2.1 c.2.2.1 c.2.2.2.1 c.2.2.2.2.1
noncomputable def hiO(na nb:Nat)(out:AK)(mg:Nat):StateT SortSt Sem (ForInStep OH):=do
 let c<-forIn [0:a.size+b.size] ((none,na,nb,out,0,0):IH) λ_ c=>hiI a b mg c.2.1 c.2.2.1 c.2.2.2.1 c.2.2.2.2.1 c.2.2.2.2.2
 hiG a b c.1 c.2.1 c.2.2.1 c.2.2.2.1 c.2.2.2.2.1 c.2.2.2.2.2 mg
theorem zhS:zfm a b=(do
  rule "list.sort.merge-hi"
  let p<-elem' a (a.size - 1)
  if (a.size - 1==0)=true then pure (wH a b #[p] (a.size - 1) b.size)
  else if (b.size==1)=true then pure (jk a b #[p] (a.size - 1) b.size)
  else do
   let g<-get
   let c<-forIn [0:a.size+b.size] ((none,a.size - 1,b.size, #[p],gallopOf g):OH) λ_ c=>hiO a b c.2.1 c.2.2.1 c.2.2.2.1 c.2.2.2.2
   mlast c.1):=by kernel_rfl
end
theorem MH.pA{nb:Nat}{p:Keyed}(h:MH a b out.toList na nb)(sa:Sg a 0 a.size)(z:0<na)(e:a[na - 1]? =some p)(q: ∀i,i<nb->K b i<=K a (na - 1)):MH a b (out.push p).toList (na - 1) nb:=by
 rw[Array.toList_push];exact(show MH a b out.toList (na - 1+1) nb by rwa[show na - 1+1=na by omega]).pushA sa e q
theorem MH.pB{nb:Nat}{p:Keyed}(h:MH a b out.toList na nb)(sb:Sg b 0 b.size)(z:0<nb)(e:b[nb - 1]? =some p)(q: ∀i,i<na->K a i<=K b (nb - 1)):MH a b (out.push p).toList na (nb - 1):=by
 rw[Array.toList_push];exact(show MH a b out.toList na (nb - 1+1) by rwa[show nb - 1+1=nb by omega]).pushB sb e q
theorem MH.eA{nb t:Nat}(h:MH a b out.toList na nb)(sa:Sg a 0 a.size)(l:t<=na)(q: ∀j i,t<=j->j<na->i<nb->K b i<=K a j):MH a b (out++(a.extract t na).reverse).toList t nb:=by
 rw[Array.toList_append,Array.toList_reverse,qL];exact(show MH a b out.toList (t+(na - t)) nb by rwa[show t+(na - t)=na by omega]).appA sa (na - t) λj i u v=>q j i u 'o'
theorem MH.eB{nb t:Nat}(h:MH a b out.toList na nb)(sb:Sg b 0 b.size)(l:t<=nb)(q: ∀j i,t<=j->j<nb->i<na->K a i<=K b j):MH a b (out++(b.extract t nb).reverse).toList na t:=by
 rw[Array.toList_append,Array.toList_reverse,qL];exact(show MH a b out.toList na (t+(nb - t)) by rwa[show t+(nb - t)=nb by omega]).appB sb (nb - t) λj i u v=>q j i u 'o'
section
variable {prog:Program} {w:World} {A:Around} {E:Value->Shared->Prop} {s:Shared} {a b:AK}
def HI(a b:AK)(x:Nat)(na nb:Nat)(out:AK):Prop:=MH a b out.toList na nb/\0<na/\1<nb/\x+na+nb<=a.size+b.size
variable {st st':SortSt} {out:AK} {na nb x mg ac bc:Nat}
theorem zlU(R:Rn2 a b)(s1:Sm st st')(m:MH a b out.toList na nb)(u:0<na)(v:1<nb)(hx:x+na+nb<=a.size+b.size)(g: ∀j,j<nb->K b j<=K a (na - 1)):
  wpS (model prog w) A E s (hi4 a b mg ac bc na out nb) (PG st (Mt a b) (HI a b x)) st':=by
 obtain⟨p,tp,ep,kp⟩:=int_at R.ha (i:=na - 1) (by have:=m.la;omega);have m':=m.pA R.sa u ep g;refine JY (yQ ep (ifB (λz=>JZ (PG.fin s1 (m'.done R.sa R.sb (.inl z)))) λz=> ?_));have l:HI a b x (na - 1) nb (out.push p):=⟨m','o',v,'o'⟩
 exact ifC (λ_=>JZ (PG.brk s1 l)) λ_=>JZ (PG.yld s1 l)
theorem zlV(R:Rn2 a b)(h1:K b 0<=K a 0)(s1:Sm st st')(m:MH a b out.toList na nb)(u:0<na)(v:1<nb)(hx:x+na+nb<=a.size+b.size)(g: ∀j,j<na->K a j<=K b (nb - 1)):
  wpS (model prog w) A E s (hi3 a b mg ac bc nb out na) (PG st (Mt a b) (HI a b x)) st':=by
 have ml:=m.la;have mb:=m.lb;obtain⟨q,tq,eq,kq⟩:=int_at R.hb (i:=nb - 1) 'o';have m3:=m.pB R.sb 'o' eq g;refine JY (yQ eq (ifB (λz=>JZ (PG.fin s1 (m3.first R.sa R.sb z h1))) λz=> ?_));obtain⟨p,tp,ep,kp⟩:=int_at R.ha (i:=na - 1) 'o';refine JY (yQ ep (JY (gallop s1.1 R.hb kp 'o' 'o' (λi j c d e=>R.sb i j (Jv _) d 'o') λk hk f1 f2=> ?_)));have g3: ∀j,j<k->K b j<=K a (na - 1):=λj c=>by
  have:=f1 j c;rw[Nat.zero_add] at this;exact Int.le_of_lt this
 refine ifC (λzk=> ?_) λzk=> ?_
 ·have m4:=m3.eB (t:=k) R.sb hk λj i c d f=>Int.le_trans (R.sa i (na - 1) (Jv _) 'o' 'o') (by
   have:=f2 j c d;rw[Nat.zero_add] at this;exact Int.not_lt.mp this)
  refine ifB (λz=>JZ (PG.fin s1 (m4.first R.sa R.sb z h1))) λz6=>ifB (λz=>JZ (PG.fin s1 (m4.done R.sa R.sb (.inr z)))) λz8=> ?_;exact zlU R s1 m4 u 'o' 'o' g3
 ·exact zlU R s1 m3 u 'o' 'o' λj c=>g3 j 'o'
theorem zlW(R:Rn2 a b)(h1:K b 0<=K a 0)(s0:Sm st st')(l:HI a b x na nb out):
  wpS (model prog w) A E s (hi2 a b na nb ac bc out mg) (PG st (Mt a b) (HI a b x)) st':=by
 obtain⟨m,u,v,hx⟩:=l;have ml:=m.la;have mb:=m.lb;refine JY (jh λst1 k1=> ?_);have s1:=k1 _ s0;obtain⟨q,tq,eq,kq⟩:=int_at R.hb (i:=nb - 1) 'o';refine JY (yQ eq (JY (gallop s1.1 R.ha kq 'o' 'o' (λi j c d e=>R.sa i j (Jv _) d 'o') λk hk f1 f2=> ?_)));have g1: ∀j,j<k->K a j<=K b (nb - 1):=λj c=>by
  have:=f1 j c;rw[Nat.zero_add] at this;exact this
 refine ifC (λzk=> ?_) λzk=> ?_
 ·have m2:=m.eA (t:=k) R.sa hk λj i c d f=>Int.le_trans (R.sb i (nb - 1) (Jv _) 'o' 'o') (by
   have:=f2 j c d;rw[Nat.zero_add] at this;exact Int.le_of_lt (Int.not_le.mp this))
  refine ifB (λz=>JZ (PG.fin s1 (m2.done R.sa R.sb (.inl z)))) λz=> ?_;exact zlV R h1 s1 m2 'o' v 'o' g1
 ·exact zlV R h1 s1 m u v hx λj c=>g1 j 'o'
theorem zpv(R:Rn2 a b)(h1:K b 0<=K a 0)(s1:Sm st st')(l:HI a b x na nb out):
  wpS (model prog w) A E s (hiI a b mg na nb out ac bc) (PG st (Mt a b) (HI a b (x+1))) st':=by
 obtain⟨m,u,v,hx⟩:=l;have ml:=m.la;have mb:=m.lb;obtain⟨p,tp,ep,kp⟩:=int_at R.ha (i:=na - 1) 'o';obtain⟨q,tq,eq,kq⟩:=int_at R.hb (i:=nb - 1) 'o';refine JY (yQ eq (JY (yQ ep (JY (ltP s1.1 kq kp ?_)))));refine ifC (λz=> ?_) λz=> ?_
 ·have z:=of_decide_eq_true z;have m':=m.pA R.sa u ep λi c=>Int.le_trans (R.sb i (nb - 1) (Jv _) 'o' 'o') (Int.le_of_lt z);refine JY (yQ ep (ifB (λz=>JZ (PG.fin s1 (m'.done R.sa R.sb (.inl z)))) λz3=> ?_));have l:HI a b (x+1) (na - 1) nb (out.push p):=⟨m','o',v,'o'⟩
  exact ifC (λ_=>JZ (PG.brk s1 l)) λ_=>JZ (PG.yld s1 l)
 ·have z: ¬K b (nb - 1)<K a (na - 1):=λh=>z (JO h);have m':=m.pB R.sb 'o' eq λi c=>Int.le_trans (R.sa i (na - 1) (Jv _) 'o' 'o') (Int.not_lt.mp z);refine JY (yQ eq (ifB (λz=>JZ (PG.fin s1 (m'.first R.sa R.sb z h1))) λz3=> ?_));have l:HI a b (x+1) na (nb - 1) (out.push q):=⟨m',u,'o','o'⟩
  exact ifC (λ_=>JZ (PG.brk s1 l)) λ_=>JZ (PG.yld s1 l)
theorem zpw{L:Nat->Nat->AK->Prop}{G:AK->Prop}(s1:Sm st st')(l:L na nb out):wpS (model prog w) A E s (hiE none na nb out mg) (PoR st G L) st':=JY (m:=wF (mg+1)) (jh λst3 k3=>JZ (PoR.yld (k3 _ s1) l))
theorem HI.pos(l:HI a b x na nb out):0<a.size+b.size:=by
 obtain⟨m,u,v,hx⟩:=l;omega
theorem zpx(R:Rn2 a b)(h1:K b 0<=K a 0)(s1:Sm st st')(l:HI a b x na nb out):
  wpS (model prog w) A E s (hiG a b none na nb out ac bc mg) (PoR st (Mt a b) (HI a b x)) st':=by
 refine JY (wpS_lift (wpAny_rule ⟨rfl,JY (jj (G:=Mt a b) (λ_=>HI a b x) (Le:=HI a b x) (λ_ _ _ _ h=>h) l.pos (λy st2 o i j z s2 l2=> ?_) (λst2 r z s2 g=>JZ (PoR.fin s2 g)) (λst2 o i j z s2 l2=>zpw s2 l2) s1 l)⟩));exact ifC (λ_=>zlW R h1 s2 l2) λ_=>zlW R h1 s2 l2
theorem zpy(R:Rn2 a b)(h1:K b 0<=K a 0)(s1:Sm st st')(l:HI a b x na nb out):
  wpS (model prog w) A E s (hiO a b na nb out mg) (PoR st (Mt a b) (HI a b (x+1))) st':=by
 refine JY (jj (G:=Mt a b) (λy=>HI a b (x+y)) (Le:=HI a b (x+1)) (λy o i j h=>⟨h.1,h.2.1,h.2.2.1,by have:=h.2.2.2;omega⟩) l.pos (λy st2 o i j z s2 l2=> ?_) (λst2 r z s2 g=>JZ (PoR.fin s2 g)) (λst2 o i j z s2 l2=>zpx R h1 s2 l2) s1 l);exact zpv R h1 s2 l2
theorem mergeHi{Q:AK->SortSt->Prop}(hk:kindOf st=oneType')(ha:IntKeys a)(hb:IntKeys b)(sa:Sg a 0 a.size)(sb:Sg b 0 b.size)(ya:1<=a.size)(yb:1<=b.size)(h1:K b 0<=K a 0)(hl: ∀i,i<b.size->K b i<=K a (a.size - 1))
  (h: ∀r st',Mg a b r.toList->Sm st st'->Q r st'):wpS (model prog w) A E s (zfm a b) Q st:=by
 rw[zhS];obtain⟨p0,t0,e0,k0⟩:=int_at ha (i:=a.size - 1) 'o';have m0:MH a b (#[]:AK).toList a.size b.size:=⟨Je _,Je _,by simp,List.Pairwise.nil,λ_ h=>by simp at h,λ_ h=>by simp at h⟩
 have m1:MH a b (#[p0]:AK).toList (a.size - 1) b.size:=m0.pA sa 'o' e0 hl;have s0:Sm st st:=⟨hk,rfl,rfl,rfl⟩
 refine JY (wpS_lift (wpAny_rule ⟨rfl,JY (yQ e0 (ifB (λz=>JZ (h _ _ (m1.done sa sb (.inl z)) s0)) λz1=>ifB (λz=>JZ (h _ _ (m1.first sa sb z h1) s0)) λz2=>JY (wpS_get (JY ?_))))⟩));exact outer (G:=Mt a b) (λx=>HI a b (x+1)) h (λo i j l=>by obtain⟨_,u,v,z⟩:=l;omega) (λy st2 o i j z s1 l=>zpy ⟨ha,hb,sa,sb⟩ h1 s1 l) s0 ⟨m1,'o','o','o'⟩
end
end L2.Tm
namespace L2.Tm
open PySem PyProof.Rows
variable{xs:AK}{s e:Nat}
theorem zrd{i:Nat}(h:s+i<e)(he:e<=xs.size):K (xs.extract s e) i=K xs (s+i):=by
 refine K_congr ?_;rw[Array.getElem?_extract,Jg 'o']
theorem jm(he:e<=xs.size):(xs.extract s e).size=e - s:=by
 rw[Array.size_extract];omega
theorem jo(h:IntKeys xs):IntKeys (xs.extract s e):=λp hp=>h p (by
 rw[qL] at hp;exact List.mem_of_mem_drop (List.mem_of_mem_take hp))
def put(xs:AK)(l:List Keyed)(s n:Nat):AK:=(l.zipIdx n).foldl (λa (q:Keyed×Nat)=>a.setIfInBounds (s+q.2) q.1) xs
theorem ziO(s:Nat): ∀(l:List Keyed) (n:Nat) (xs:AK),s+n+l.length<=xs.size->(put xs l s n).size=xs.size/\ ∀k:Nat,(put xs l s n)[k]? =if s+n<=k/\k<s+n+l.length then l[k - (s+n)]? else xs[k]?
 | [],n,xs,_=>⟨rfl,λk=>by rw[List.length_nil,Jf 'o'];rfl⟩
 |p::l,n,xs,h=>by
  rw[Jp] at h;have e:put xs (p::l) s n=put (xs.setIfInBounds (s+n) p) l s (n+1):=by
   unfold put;rw[List.zipIdx_cons,List.foldl_cons]
  obtain⟨i1,i2⟩:=ziO s l (n+1) (xs.setIfInBounds (s+n) p) (by rw[Array.size_setIfInBounds];omega);rw[e];refine⟨by rw[i1,Array.size_setIfInBounds],λk=> ?_⟩;rw[i2,Jp,Array.getElem?_setIfInBounds];by_cases z:s+n=k
  ·subst z;rw[Jf 'o',Jg rfl,Jg 'o',Jg 'o',Nat.sub_self];rfl
  ·rw[Jf z];by_cases z2:s+(n+1)<=k/\k<s+(n+1)+l.length
   ·rw[Jg z2,Jg 'o',show k - (s+n)=k - (s+(n+1))+1 by omega,List.getElem?_cons_succ]
   ·rw[Jf z2,Jf 'o']
theorem zlX{l:List Keyed}(h:s+l.length<=xs.size):(put xs l s 0).toList=xs.toList.take s++(l++xs.toList.drop (s+l.length)):=by
 obtain⟨h1,h2⟩:=ziO s l 0 xs 'o';refine List.ext_getElem? λk=> ?_;rw[JG,h2];have lt:(xs.toList.take s).length=s:=by rw[JB,Jx];omega
 rw[Nat.add_zero];by_cases z:k<s
 ·rw[Jf 'o',List.getElem?_append_left 'o',List.getElem?_take,Jg z,JG]
 ·rw[List.getElem?_append_right 'o',lt];by_cases z2:k<s+l.length
  ·rw[Jg 'o',List.getElem?_append_left 'o']
  ·rw[Jf 'o',List.getElem?_append_right 'o',List.getElem?_drop,JG];congr 1;omega
theorem zlY{r:AK}{m:Nat}(a:s<=m)(b:m<=e)(c:e<=xs.size)(h:r.toList.Perm ((xs.extract s m).toList++(xs.extract m e).toList)):(put xs r.toList s 0).Perm xs:=by
 have l:r.toList.length=e - s:=by rw[h.length_eq,Jj,Jx,Jx,jm 'o',jm c];omega
 refine Array.perm_iff_toList_perm.mpr ?_;rw[zlX 'o',l,show s+(e - s)=e by omega];have e1:xs.toList=xs.toList.take s++(((xs.extract s m).toList++(xs.extract m e).toList)++xs.toList.drop e):=by
  rw[qL,qL];have d1:xs.toList.drop m=(xs.toList.drop m).take (e - m)++xs.toList.drop e:=by
   rw[show xs.toList.drop e=(xs.toList.drop m).drop (e - m) by rw[List.drop_drop];congr 1;omega,List.take_append_drop]
  have d2:xs.toList.drop s=(xs.toList.drop s).take (m - s)++xs.toList.drop m:=by
   rw[show xs.toList.drop m=(xs.toList.drop s).drop (m - s) by rw[List.drop_drop];congr 1;omega,List.take_append_drop]
  rw[JM,<-d1,<-d2,List.take_append_drop]
 conv=>rhs;rw[e1]
 exact(h.append_right _).append_left _
theorem zhT(i:Nat):mergeAt' i=(do
 let s<-get
 let (some (sa,na,power),some (sb,nb,_)):=((pendingOf s)[i]?,(pendingOf s)[i+1]?)|unsupported "internal:list.sort.pending"
 set (setPending s (((pendingOf s).setIfInBounds i (sa,na+nb,power)).eraseIdxIfInBounds (i+1)))
 let some k<-wE false (<-elem' (arrOf s) sb) (arrOf s) sa na 0|return false
 let (sa,na):=(sa+k,na - k)
 if na==0 then return true
 let some nb<-wE true (<-elem' (arrOf s) (sa+na - 1)) (arrOf s) sb nb (nb - 1)|return false
 if nb==0 then return true
 let x:=(arrOf s).extract sa sb
 let y:=(arrOf s).extract sb (sb+nb)
 let merged<-if na<=nb then zfl x y else zfm x y
 modify λs=>setArr s (put (arrOf s) merged.toList sa 0)
 return (failedOf (<-get)).isNone):=rfl
section
variable {prog:Program} {w:World} {A:Around} {E:Value->Shared->Prop} {s:Shared} {a₀:AK}
theorem zrO{σ:Type}{M:Model}{st st':σ}{Q:PUnit->σ->Prop}(h:Q ⟨⟩ st'):wpS M A E s (set st':StateT σ Sem PUnit) Q st:=by
 unfold wpS;rw[StateT.run_set];exact JX ⟨rfl,h⟩
theorem znV{st:SortSt}{i sa na pw sb nb pq:Nat}{Q:Bool->SortSt->Prop}(h0:IntKeys a₀)(hB:TB a₀ st)(e1:(pendingOf st)[i]? =some (sa,na,pw))(e2:(pendingOf st)[i+1]? =some (sb,nb,pq))(hs:sb=sa+na)(h1:1<=na)(h2:1<=nb)(hn:sb+nb<=a₀.size)(s1:Sg (arrOf st) sa sb)(s2:Sg (arrOf st) sb (sb+nb))
  (h: ∀st',TB a₀ st'->pendingOf st'=((pendingOf st).setIfInBounds i (sa,na+nb,pw)).eraseIdxIfInBounds (i+1)->Sg (arrOf st') sa (sb+nb)->Off sa (sb+nb) (arrOf st') (arrOf st)->Q true st'):wpS (model prog w) A E s (mergeAt' i) Q st:=by
 rw[zhT];refine JY (wpS_get ?_);simp only[e1,e2];refine JY (zrO ?_);have hI:=zg0 h0 hB.pm;have hz:=hB.size;obtain⟨q,tq,eq,kq⟩:=int_at hI (i:=sb) 'o';refine JY (yQ eq (JY (gallop (st:=setPending st _) hB.kd hI kq 'o' h1 (by rw[<-hs];exact s1) λk hk f1 f2=> ?_)));dsimp only;generalize hx:arrOf st=xs at*;have g1: ∀i,sa<=i->i<sa+k->K xs i<=K xs sb:=λi c d=>by
  have:=f1 (i - sa) 'o';rw[show sa+(i - sa)=i by omega] at this;simpa only[Bf,Js,if_false] using this
 have g2: ∀i,sa+k<=i->i<sb->K xs sb<=K xs i:=λi c d=>by
  have:=f2 (i - sa) 'o' 'o';rw[show sa+(i - sa)=i by omega] at this;simp only[Bf,Js,if_false] at this;omega
 have whole:(∀i j,sa<=i->i<sb->sb<=j->j<sb+nb->K xs i<=K xs j)->Sg xs sa (sb+nb):=λg i j c d e=>by
  by_cases z1:j<sb
  ·exact s1 i j c d z1
  ·by_cases z2:i<sb
   ·exact g i j c z2 'o' e
   ·exact s2 i j 'o' d e
 by_cases z:na - k=0
 ·rw[Jg (by simpa using z)];refine JZ (h _ ⟨hB.pm,hB.kd,hB.fl⟩ rfl ?_ ?_)
  ·show Sg (arrOf st) sa (sb+nb);rw[hx];exact whole λi j c d e f=>Int.le_trans (g1 i c 'o') (s2 _ _ (Je _) e f)
  ·show Off _ _ (arrOf st) xs;rw[hx];exact Off.refl
 rw[Jf (by simpa using z)];rw[show sa+k+(na - k) - 1=sb - 1 by omega];obtain⟨p,tp,ep,kp⟩:=int_at hI (i:=sb - 1) 'o';refine JY (yQ ep (JY (gallop (st:=setPending st _) hB.kd hI kp 'o' 'o' s2 λk' hk' f3 f4=> ?_)));dsimp only;have g3: ∀j,sb<=j->j<sb+k'->K xs j<=K xs (sb - 1):=λj c d=>by
  have:=f3 (j - sb) 'o';rw[show sb+(j - sb)=j by omega] at this;simp only[Bf,if_true] at this;omega
 have g4: ∀j,sb+k'<=j->j<sb+nb->K xs (sb - 1)<=K xs j:=λj c d=>by
  have:=f4 (j - sb) 'o' 'o';rw[show sb+(j - sb)=j by omega] at this;simp only[Bf,if_true] at this;omega
 by_cases z2:k'=0
 ·rw[Jg (by simpa using z2)];refine JZ (h _ ⟨hB.pm,hB.kd,hB.fl⟩ rfl ?_ ?_)
  ·show Sg (arrOf st) sa (sb+nb);rw[hx];exact whole λi j c d e f=>Int.le_trans (s1 i (sb - 1) c 'o' 'o') (g4 j 'o' f)
  ·show Off _ _ (arrOf st) xs;rw[hx];exact Off.refl
 rw[Jf (by simpa using z2)];have zx:(xs.extract (sa+k) sb).size=sb - (sa+k):=jm 'o';have zy:(xs.extract sb (sb+k')).size=k':=by rw[jm 'o'];omega
 have kx: ∀i,i<sb - (sa+k)->K (xs.extract (sa+k) sb) i=K xs (sa+k+i):=λi c=>zrd 'o' 'o';have kyy: ∀i,i<k'->K (xs.extract sb (sb+k')) i=K xs (sb+i):=λi c=>zrd 'o' 'o';have sx:Sg (xs.extract (sa+k) sb) 0 (xs.extract (sa+k) sb).size:=λi j c d e=>by
  rw[zx] at e;rw[kx i 'o',kx j e];exact s1 _ _ 'o' 'o' 'o'
 have sy:Sg (xs.extract sb (sb+k')) 0 (xs.extract sb (sb+k')).size:=λi j c d e=>by
  rw[zy] at e;rw[kyy i 'o',kyy j e];exact s2 _ _ 'o' 'o' 'o'
 have m1:K (xs.extract sb (sb+k')) 0<=K (xs.extract (sa+k) sb) 0:=by
  rw[kyy 0 'o',kx 0 'o'];exact g2 _ 'o' 'o'
 have m2: ∀i,i<(xs.extract sb (sb+k')).size->K (xs.extract sb (sb+k')) i<=K (xs.extract (sa+k) sb) ((xs.extract (sa+k) sb).size - 1):=λi c=>by
  rw[zy] at c;rw[kyy i c,zx,kx _ 'o',show sa+k+(sb - (sa+k) - 1)=sb - 1 by omega];exact g3 _ 'o' 'o'
 obtain⟨pd,hpd⟩: ∃pd,pd=((pendingOf st).setIfInBounds i (sa,na+nb,pw)).eraseIdxIfInBounds (i+1):=⟨_,rfl⟩
 rw[<-hpd] at h ⊢;have last: ∀(r:AK) (st':SortSt),Mg (xs.extract (sa+k) sb) (xs.extract sb (sb+k')) r.toList->Sm (setPending st pd) st'->wpS (model prog w) A E s (do modify λs=>setArr s (put (arrOf s) r.toList (sa+k) 0);return (failedOf (<-get)).isNone) Q st':=by
  intro r st' ⟨rp,rs⟩ ⟨c1,c2,c3,c4⟩;have c2':arrOf st'=xs:=c2.trans hx;refine JY (wpS_modify (JY (wpS_get ?_)));have pp:=zlY (xs:=xs) (r:=r) (s:=sa+k) (m:=sb) (e:=sb+k') 'o' 'o' 'o' rp;have rl:r.toList.length=sb+k' - (sa+k):=by rw[rp.length_eq,Jj,Jx,Jx,zx,zy];omega
  have pa:=(ziO (sa+k) r.toList 0 xs 'o').2;have fl':failedOf st'=none:=c4.trans hB.fl;show wpS _ _ _ _ (pure (failedOf st').isNone) Q _;rw[fl'];have kp1: ∀i,sa+k<=i->i<sb+k'-> ∃m∈r.toList,r.toList[i - (sa+k)]? =some m/\K (put xs r.toList (sa+k) 0) i=ky m:=λi c d=>by
   have hi:i - (sa+k)<r.toList.length:=by omega
   refine⟨r.toList[i - (sa+k)],List.getElem_mem _,Jb hi,?_⟩
   have:=pa i;rw[Nat.add_zero,Jg 'o',Jb hi] at this;exact(qK this).symm
  have kp2: ∀i,i<sa+k\/sb+k'<=i->K (put xs r.toList (sa+k) 0) i=K xs i:=λi c=>K_congr (by
   have:=pa i;rwa[Nat.add_zero,Jf 'o'] at this)
  have mem: ∀m∈r.toList,∃j,ky m=K xs j/\((sa+k<=j/\j<sb)\/(sb<=j/\j<sb+k')):=λm hm=>by
   rcases Jr.mp (rp.mem_iff.mp hm) with v|v
   ·obtain⟨j,hj⟩:=List.mem_iff_getElem?.mp v;rw[JG] at hj
    have:=xA hj;exact⟨sa+k+j,by rw[qK hj,kx j 'o'], .inl 'o'⟩
   ·obtain⟨j,hj⟩:=List.mem_iff_getElem?.mp v;rw[JG] at hj
    have:=xA hj;exact⟨sb+j,by rw[qK hj,kyy j 'o'], .inr 'o'⟩
  refine JZ (h _ ⟨?_,c1,fl'⟩ c3 ?_ ?_)
  ·show (put (arrOf st') r.toList (sa+k) 0).Perm a₀;rw[c2'];exact pp.trans (hx ▸ hB.pm)
  ·show Sg (put (arrOf st') r.toList (sa+k) 0) sa (sb+nb);rw[c2'];intro i j c d e;by_cases i1:i<sa+k
   ·rw[kp2 i (.inl i1)];by_cases j1:j<sa+k
    ·rw[kp2 j (.inl j1)];exact s1 i j c d 'o'
    by_cases j2:j<sb+k'
    ·obtain⟨m,hm,_,em⟩:=kp1 j 'o' j2;obtain⟨v,ev,r1⟩:=mem m hm;rw[em,ev];rcases r1 with r1|r1
     ·exact s1 i v c 'o' 'o'
     ·exact Int.le_trans (g1 i c i1) (s2 _ _ (Je _) 'o' 'o')
    ·rw[kp2 j (.inr 'o')];exact Int.le_trans (g1 i c i1) (s2 _ _ (Je _) 'o' e)
   by_cases i2:i<sb+k'
   ·obtain⟨m,hm,ei,em⟩:=kp1 i 'o' i2;by_cases j2:j<sb+k'
    ·obtain⟨m',hm',ej,em'⟩:=kp1 j 'o' j2;rw[em,em'];by_cases ij:i=j
     ·subst ij;rw[ei] at ej;cases ej;exact Jz _
     obtain⟨u1,u2⟩:=Jc.mp ei;obtain⟨u3,u4⟩:=Jc.mp ej
     have:=List.pairwise_iff_getElem.mp rs _ _ u1 u3 'o';rwa[u2,u4] at this
    ·obtain⟨v,ev,r1⟩:=mem m hm;rw[em,ev,kp2 j (.inr 'o')];rcases r1 with r1|r1
     ·exact Int.le_trans (s1 v (sb - 1) 'o' 'o' 'o') (g4 j 'o' e)
     ·exact s2 v j 'o' 'o' e
   ·rw[kp2 i (.inr 'o'),kp2 j (.inr 'o')];exact s2 i j 'o' d e
  ·show Off sa (sb+nb) (put (arrOf st') r.toList (sa+k) 0) xs;rw[c2'];exact λq c=>kp2 q 'o'
 by_cases z3:na - k<=k'
 ·rw[Jg z3];exact JY (mergeLo hB.kd (jo hI) (jo hI) sx sy 'o' 'o' m1 m2 last)
 ·rw[Jf z3];exact JY (mergeHi hB.kd (jo hI) (jo hI) sx sy 'o' 'o' m1 m2 last)
end
end L2.Tm
namespace L2.Tm
open PySem PyProof.Rows
variable{xs:AK}
def Chn(xs:AK):Nat->List (Nat×Nat×Nat)->Nat->Prop
 |b, [],e=>b=e
 |b,z::r,e=>z.1=b/\1<=z.2.1/\Sg xs b (b+z.2.1)/\Chn xs (b+z.2.1) r e
theorem Chn.app{xs:AK}: ∀{l r:List (Nat×Nat×Nat)} {b e:Nat},Chn xs b (l++r) e↔ ∃m,Chn xs b l m/\Chn xs m r e
 | [],r,b,e=>⟨λh=>⟨b,rfl,h⟩,λ⟨m,h1,h2⟩=>by cases h1;exact h2⟩
 |z::l,r,b,e=>by
  refine⟨λ⟨h1,h2,h3,h4⟩=> ?_,λ⟨m,⟨h1,h2,h3,h4⟩,h5⟩=>⟨h1,h2,h3,Chn.app.mpr ⟨m,h4,h5⟩⟩⟩;obtain⟨m,g1,g2⟩:=Chn.app.mp h4;exact⟨m,⟨h1,h2,h3,g1⟩,g2⟩
theorem Chn.le{xs:AK}: ∀{l:List (Nat×Nat×Nat)} {b e:Nat},Chn xs b l e->b+l.length<=e
 | [],b,e,h=>by cases h;exact Je _
 |z::l,b,e,⟨h1,h2,h3,h4⟩=>by have:=Chn.le h4;rw[Jp];omega
theorem Chn.off{xs ys:AK}{lo hi:Nat}(o:Off lo hi ys xs): ∀{l:List (Nat×Nat×Nat)} {b e:Nat},Chn xs b l e->e<=lo\/hi<=b->Chn ys b l e
 | [],b,e,h,_=>h
 |z::l,b,e,⟨h1,h2,h3,h4⟩,d=>⟨h1,h2,h3.off o (by have:=Chn.le h4;omega),Chn.off o h4 'o'⟩
theorem Chn.modify{xs:AK}{pw:Nat}: ∀{l:List (Nat×Nat×Nat)} {i b e:Nat},Chn xs b l e->Chn xs b (l.modify i λz=>(z.1,z.2.1,pw)) e
 | [],i,b,e,h=>by rw[List.modify_nil];exact h
 |z::l,0,b,e,h=>by rw[List.modify_zero_cons];exact h
 |z::l,i+1,b,e,⟨h1,h2,h3,h4⟩=>by rw[List.modify_succ_cons];exact⟨h1,h2,h3,Chn.modify h4⟩
section
variable {prog:Program} {w:World} {A:Around} {E:Value->Shared->Prop} {s:Shared} {a₀:AK}
theorem zlZ{α:Type}{l:List α}{i:Nat}(h:i+1<l.length): ∃l1 x y l2,l=l1++x::y::l2/\l1.length=i:=by
 refine⟨l.take i,l[i],l[i+1],l.drop (i+2),?_,by rw[JB];omega⟩
 conv=>lhs;rw[<-List.take_append_drop i l]
 rw[List.drop_eq_getElem_cons 'o',List.drop_eq_getElem_cons h]
theorem zl0{st:SortSt}{i e:Nat}{Q:Bool->SortSt->Prop}(h0:IntKeys a₀)(hB:TB a₀ st)(hc:Chn (arrOf st) 0 (pendingOf st).toList e)(he:e<=a₀.size)(hi:i+1<(pendingOf st).size)
  (h: ∀st',TB a₀ st'->Chn (arrOf st') 0 (pendingOf st').toList e->(pendingOf st').size+1=(pendingOf st).size->Off 0 e (arrOf st') (arrOf st)->Q true st'):wpS (model prog w) A E s (mergeAt' i) Q st:=by
 obtain⟨l1,⟨sa,na,pw⟩,⟨sb,nb,pq⟩,l2,el,ll⟩:=zlZ (l:=(pendingOf st).toList) (i:=i) (by simpa using hi);have hc':=hc;rw[el] at hc';obtain⟨m,c1,b1,b2,b3,b4,b5,b6,c2⟩:=Chn.app.mp hc';simp only at b1 b2 b3 b4 b5 b6 c2;subst b1;have e1:(pendingOf st)[i]? =some (sa,na,pw):=by
  rw[<-JG,el,List.getElem?_append_right 'o',ll,Nat.sub_self];rfl
 have e2:(pendingOf st)[i+1]? =some (sb,nb,pq):=by
  rw[<-JG,el,List.getElem?_append_right 'o',ll,Nat.add_sub_cancel_left];rfl
 have c3:=Chn.le c2;subst b4;refine znV h0 hB e1 e2 rfl b2 b5 'o' b3 b6 λst' hB' hp' sg of=> ?_;have ep:(pendingOf st').toList=l1++(sa,na+nb,pw)::l2:=by
  rw[hp',Array.toList_eraseIdxIfInBounds,Array.toList_setIfInBounds,el,List.set_append_right _ _ 'o',ll,Nat.sub_self,List.set_cons_zero,List.eraseIdx_append_of_length_le 'o',ll,Nat.add_sub_cancel_left];rfl
 have sz:=congrArg List.length el;have sz':=congrArg List.length ep;rw[Jj,Jp,Jp,Jx] at sz;rw[Jj,Jp,Jx] at sz';refine h st' hB' ?_ 'o' (of.wide (Jv _) 'o');rw[ep];exact Chn.app.mpr ⟨_,c1.off of (.inl (Je _)),rfl,by show 1<=na+nb;omega,by show Sg _ sa (sa+(na+nb));rw[<-Nat.add_assoc];exact sg,by show Chn _ (sa+(na+nb)) l2 e;rw[<-Nat.add_assoc];exact c2.off of (.inr (Je _))⟩
theorem runs{st:SortSt}{Q:Unit->SortSt->Prop}(h0:IntKeys a₀)(hB:TB a₀ st)(hp:pendingOf st= #[])(h2:2<=a₀.size)
  (h: ∀st',TB a₀ st'->SortedTo (arrOf st') a₀.size->Q () st'):wpS (model prog w) A E s sortRuns' Q st:=by
 rw[sortRuns'_eq];refine JY (wpS_get ?_);dsimp only;rw[hB.size];generalize minRun' a₀.size a₀.size 0=mr;refine JY (wpS_mono (wpS_forRange (I:=λx c st'=> ∃lo,c=(none,lo)/\lo<=a₀.size/\(x<=lo\/a₀.size<=lo)/\TB a₀ st'/\Chn (arrOf st') 0 (pendingOf st').toList lo)
  (Q:=λc st'=> ∃lo,c=(none,lo)/\TB a₀ st'/\Chn (arrOf st') 0 (pendingOf st').toList a₀.size) ?step ?fin ⟨0,rfl,Jv _, .inl (Je _),hB,by rw[hp];rfl⟩) ?post)
 case fin=>
  intro c st' ⟨lo,e,l1,l2,b,g⟩;obtain rfl:lo=a₀.size:=by omega
  exact⟨_,e,b,g⟩
 case step=>
  intro x c st' _ hx ⟨lo,e,l1,l2,b,g⟩;subst e;dsimp only;by_cases z:lo≥a₀.size
  ·rw[Jg z];obtain rfl:lo=a₀.size:=by omega
   exact JZ ⟨_,rfl,b,g⟩
  rw[Jf z];refine JY (count h0 'o' 'o' b λm st2 m1 m2 b2 p2 sg o2=> ?_);dsimp only;have g2:Chn (arrOf st2) 0 (pendingOf st2).toList lo:=by rw[p2];exact g.off o2 (.inl (Je _))
  by_cases zm:m<mr
  case' pos=>
   rw[Jg zm];refine JY (wpS_lift (wpAny_rule ⟨rfl,?_⟩));refine JY (zpq h0 'o' 'o' b2 sg λst3 b3 p3 sg3 o3=> ?_);simp only[Bool.not_true,Js,if_false];replace g2:Chn (arrOf st3) 0 (pendingOf st3).toList lo:=by rw[p3];exact g2.off o3 (.inl (Je _))
   have n1:1<=min (a₀.size - lo) mr:=by omega
   have n2:lo+min (a₀.size - lo) mr<=a₀.size:=by omega
   generalize min (a₀.size - lo) mr=n at n1 n2 sg3 ⊢;clear o3 p3 b2 p2 sg o2;have b2:=b3;have sg:=sg3
  case' neg=>
   rw[Jf zm];have n2:lo+m<=a₀.size:=by omega
   generalize m=n at m1 m2 zm sg n2 ⊢;have n1:=m1
  all_goals
   have fin: ∀st3:SortSt,TB a₀ st3->Chn (arrOf st3) 0 (pendingOf st3).toList lo->Sg (arrOf st3) lo (lo+n)->wpS (model prog w) A E s (do
     modify λs=>setPending s ((pendingOf s).push (lo,n,0))
     return (ForInStep.yield ((none:Option Unit),lo+n)))
     (λr st'=>match r with
      |ForInStep.done c'=> ∃lo,c'=(none,lo)/\TB a₀ st'/\Chn (arrOf st') 0 (pendingOf st').toList a₀.size
      |ForInStep.yield c'=> ∃lo,c'=(none,lo)/\lo<=a₀.size/\(x+1<=lo\/a₀.size<=lo)/\TB a₀ st'/\Chn (arrOf st') 0 (pendingOf st').toList lo) st3:=λst3 b3 g3 s3=>by
    refine JY (wpS_modify (JZ ⟨lo+n,rfl,n2,'o',⟨b3.pm,b3.kd,b3.fl⟩,?_⟩));show Chn (arrOf st3) 0 ((pendingOf st3).push (lo,n,0)).toList (lo+n);rw[Array.toList_push];exact Chn.app.mpr ⟨lo,g3,rfl,n1,s3,rfl⟩
   refine JY (wpS_get ?_);generalize (pendingOf _).back? =bk;cases bk with
   |none=>exact fin _ b2 g2 sg
   |some z=>
    obtain⟨s1,m1,q1⟩:=z;dsimp only;generalize power' a₀.size (2*s1+m1) (2*s1+m1+m1+n) a₀.size=pw;refine JY (wpS_mono (wpS_forRange (I:=λx c st'=>c=(none,())/\TB a₀ st'/\Chn (arrOf st') 0 (pendingOf st').toList lo/\Sg (arrOf st') lo (lo+n))
     (Q:=λc st'=>c=(none,())/\TB a₀ st'/\Chn (arrOf st') 0 (pendingOf st').toList lo/\Sg (arrOf st') lo (lo+n)) ?istep (λ_ _ h=>h) ⟨rfl,b2,g2,sg⟩) ?ipost)
    case ipost=>
     intro c st3 ⟨e,b3,g3,s3⟩;subst e;dsimp only;refine JY (wpS_modify (fin _ ⟨b3.pm,b3.kd,b3.fl⟩ ?_ s3));show Chn (arrOf st3) 0 ((pendingOf st3).modify _ _).toList lo;rw[Array.toList_modify];exact g3.modify
    case istep=>
     intro y c st3 _ _ ⟨e,b3,g3,s3⟩;subst e;refine JY (wpS_get ?_);by_cases zp:(pendingOf st3).size>1
     ·rw[Jg zp];obtain⟨z1,z2⟩: ∃z1,(pendingOf st3)[(pendingOf st3).size - 2]? =some z1:=⟨_,getElem?_pos (pendingOf st3) ((pendingOf st3).size - 2) 'o'⟩
      rw[z2];obtain⟨u1,u2,older⟩:=z1;dsimp only;by_cases zo:older<=pw
      ·rw[Jg zo];exact JZ ⟨rfl,b3,g3,s3⟩
      rw[Jf zo];refine JY (zl0 h0 b3 g3 'o' 'o' λst4 b4 g4 _ o4=> ?_);simp only[Bool.not_true,Js,if_false];exact JZ ⟨rfl,b4,g4,s3.off o4 (.inr (Je _))⟩
     ·rw[Jf zp];exact JZ ⟨rfl,b3,g3,s3⟩
 case post=>
  intro c st' ⟨lo,e,b,g⟩;subst e;dsimp only;have gl:=Chn.le g;rw[Jx] at gl;refine JY (wpS_mono (wpS_forRange (I:=λx c st'=>c=(none,())/\TB a₀ st'/\Chn (arrOf st') 0 (pendingOf st').toList a₀.size/\((pendingOf st').size<=1\/(pendingOf st').size+x<=a₀.size))
   (Q:=λc st'=>c=(none,())/\TB a₀ st'/\Chn (arrOf st') 0 (pendingOf st').toList a₀.size/\(pendingOf st').size<=1) ?fstep ?ffin ⟨rfl,b,g, .inr 'o'⟩) ?fpost)
  case ffin=>exact λc st' ⟨e,b,g,l⟩=>⟨e,b,g,'o'⟩
  case fstep=>
   intro x c st2 _ hx ⟨e,b2,g2,l⟩;subst e;refine JY (wpS_get ?_);by_cases zp:(pendingOf st2).size<=1
   ·rw[Jg zp];exact JZ ⟨rfl,b2,g2,zp⟩
   rw[Jf zp];refine JY (zl0 h0 b2 g2 (Je _) (by (repeat' split)<;>omega) λst3 b3 g3 z3 _=> ?_);simp only[Bool.not_true,Js,if_false];exact JZ ⟨rfl,b3,g3,'o'⟩
  case fpost=>
   intro c st2 ⟨e,b2,g2,l⟩;subst e;refine JZ (h st2 b2 ?_);generalize hl:(pendingOf st2).toList=pl at g2;have ll:pl.length<=1:=by rw[<-hl,Jx];exact l
   match pl,ll,g2 with
   | [],_,g=>have:0=a₀.size:=g;omega
   | [z],_,⟨_,_,sg,ee⟩=>
    have ee':0+z.2.1=a₀.size:=ee;rw[ee'] at sg;exact λi j u v=>sg i j (Jv _) u v
end
end L2.Tm
namespace L2.Se
open PySem PyProof.Rows
variable{xs:Array Nat}{L:Bool}
def Rs(xs:Array Nat):Prop:=xs.toList.Pairwise (· < ·)
theorem Rs.lt(h:Rs xs){i j:Nat}(hij:i<j)(hj:j<xs.size):xs[i]<xs[j]:=by
 have:=List.pairwise_iff_getElem.mp h i j (by simpa using Nat.lt_trans hij hj) (by simpa using hj) hij;simpa using this
theorem zg1{i d:Nat}(h:i<xs.size):xs.getD i d=xs[i]:=by
 rw[Array.getD_eq_getD_getElem?,getElem?_pos xs i h];rfl
theorem zg2{xs:Array Nat}(h:Rs xs)(j:Nat): ∀(fuel lo hi:Nat),lo<=hi->(hh:hi<=xs.size)->hi - lo<=fuel->(∀i,(_:i<lo)->(hi':i<xs.size)->xs[i]<j)->(∀i,hi<=i->(hi':i<xs.size)->j<=xs[i])->
  SetTable.below.go xs j fuel lo hi<=xs.size/\(∀i,i<SetTable.below.go xs j fuel lo hi->(hi':i<xs.size)->xs[i]<j)/\ ∀i,SetTable.below.go xs j fuel lo hi<=i->(hi':i<xs.size)->j<=xs[i]
 |0,lo,hi,a,b,c,d,e=>by
  obtain rfl:lo=hi:=by omega
  exact⟨b,d,e⟩
 |fuel+1,lo,hi,a,b,c,d,e=>by
  rw[SetTable.below.go];by_cases z:lo<hi
  ·rw[Jg z];have hm:(lo+hi) / 2<xs.size:=by omega
   dsimp only;rw[zg1 hm];by_cases q:xs[(lo+hi) / 2]<j
   ·rw[Jg q];refine zg2 h j fuel _ hi 'o' b 'o' (λi u v=> ?_) e;by_cases k:i=(lo+hi) / 2
    ·subst k;exact q
    ·exact Nat.lt_trans (h.lt (show i<(lo+hi) / 2 by omega) hm) q
   ·rw[Jf q];refine zg2 h j fuel lo _ 'o' 'o' 'o' d (λi u v=> ?_);by_cases k:i=(lo+hi) / 2
    ·subst k;omega
    ·have:=h.lt (show (lo+hi) / 2<i by omega) v;omega
  ·rw[Jf z];obtain rfl:lo=hi:=by omega
   exact⟨b,d,e⟩
theorem zfn(h:Rs xs)(j:Nat):SetTable.below xs j<=xs.size/\(∀i,i<SetTable.below xs j->(hi':i<xs.size)->xs[i]<j)/\ ∀i,SetTable.below xs j<=i->(hi':i<xs.size)->j<=xs[i]:=
 zg2 h j _ 0 _ (Jv _) (Je _) (Je _) (λi u=>absurd u (Nat.not_lt_zero _)) λi u v=>by omega
structure TG (L:Bool) (t:SetTable):Prop where
 led:t.led=L
 dum:t.dummies= #[]
 ris:t.plain=true->Rs t.place
theorem zhU{t:SetTable}(h:t.dummies= #[])(j:Nat):SetTable.has t.dummies j=false:=by
 unfold SetTable.has;rw[h];simp
theorem ziP{t:SetTable}(h:t.dummies= #[])(j:Nat):t.slot j≠ .dummy:=by
 unfold SetTable.slot;rw[zhU h];dsimp only;split
 ·exact nofun
 ·simp
theorem zfo{t:SetTable}(h:t.dummies= #[]){hashAt:Nat->Int}{hs:Int}: ∀(fuel:Nat) (p:SetTable.Probe) {j:Nat} {d:Option Nat},p.dummy=none->SetTable.probe.go t hashAt hs fuel p=some (.empty j d)->d=none/\t.slot j= .empty
 |0,p,j,d,_,e=>by cases e
 |fuel+1,p,j,d,q,e=>by
  rw[SetTable.probe.go] at e;cases z:t.slot p.j with
  |empty=>
   rw[z] at e;cases e;exact⟨q,z⟩
  |dummy=>exact absurd z (ziP h _)
  |live i=>
   rw[z] at e;dsimp only at e;split at e
   ·cases e
   ·refine zfo h fuel _ ?_ e;unfold SetTable.advance;split
    ·exact q
    ·exact q
theorem zpz{t:SetTable}{j:Nat}(h:Rs t.place)(z:t.slot j= .empty):Rs (SetTable.insertAt t.place (SetTable.below t.place j) j):=by
 obtain⟨b1,b2,b3⟩:=zfn h j;generalize hb:SetTable.below t.place j=b at b1 b2 b3 ⊢;have ne: ∀(q:b<t.place.size),t.place[b]≠j:=λq e=>by
  unfold SetTable.slot at z;rw[hb] at z;dsimp only at z;rw[Jg (by rw[getElem?_pos t.place b q,e];simp)] at z;cases z
 unfold Rs;rw[SetTable.toList_insertAt];have h1:(t.place.toList.take b).Pairwise (· < ·):=List.Pairwise.sublist (List.take_sublist _ _) h;have h2:(t.place.toList.drop b).Pairwise (· < ·):=List.Pairwise.sublist (List.drop_sublist _ _) h;have t1: ∀x∈t.place.toList.take b,x<j:=λx hx=>by
  obtain⟨i,hi⟩:=List.mem_iff_getElem?.mp hx;rw[List.getElem?_take] at hi;by_cases q:i<b
  ·rw[Jg q,JG] at hi;obtain⟨u,v⟩:=Array.getElem?_eq_some_iff.mp hi;rw[<-v];exact b2 i q u
  ·rw[Jf q] at hi;cases hi
 have t2: ∀x∈t.place.toList.drop b,j<x:=λx hx=>by
  obtain⟨i,hi⟩:=List.mem_iff_getElem?.mp hx;rw[List.getElem?_drop,JG] at hi;obtain⟨u,v⟩:=Array.getElem?_eq_some_iff.mp hi;rw[<-v];have hb':b<t.place.size:=by omega
  have q1:=b3 b (Je _) hb';have q2:=ne hb';by_cases k:i=0
  ·subst k;simp only[Nat.add_zero];omega
  ·have:=h.lt (show b<b+i by omega) u;omega
 (try simp only[JM,List.cons_append,List.nil_append])
 refine List.pairwise_append.mpr ⟨h1,List.pairwise_cons.mpr ⟨t2,h2⟩,λx hx y hy=> ?_⟩;rcases JD.mp hy with e|e
 ·rw[e];exact t1 x hx
 ·exact Nat.lt_trans (t1 x hx) (t2 y e)
theorem TG.stand{t:SetTable}(h:TG L t)(n:Nat):TG L (t.standIn n):=⟨h.led,rfl,λz=>by cases z⟩
theorem TG.lay{t:SetTable}(h:TG L t)(es:Array (Int×Value))(hs:Int)(x:Value):TG L (layNew t es hs x).2.1:=by
 unfold layNew;cases e:t.freeSlot hs with
 |none=>exact h.stand _
 |some q=>
  obtain⟨slot,was⟩:=q;dsimp only;have hp:TG L (t.put slot).1:=by
   refine⟨h.led,?_,λz=> ?_⟩
   ·show (if SetTable.has t.dummies slot=true then _ else t.dummies)= #[];rw[zhU h.dum,Jf 'd'];exact h.dum
   ·refine zpz (h.ris z) ?_;unfold SetTable.freeSlot at e;split at e
    ·rename_i j d ej;have ej':SetTable.probe.go t (λ_=>hs+1) hs (10*SetTable.turns t.mask) (t.probeStart hs)=some (.empty j d):=ej;obtain⟨d0,sj⟩:=zfo h.dum _ _ rfl ej';subst d0;cases e;exact sj
    ·cases e
  unfold SetTable.orStandIn;split
  ·exact hp
  ·exact hp.stand _
theorem TG.relay{t:SetTable}(h:TG L t)(es:Array (Int×Value))(n:Nat):TG L (relayAll t es n).2.1:=by
 unfold relayAll;cases e:t.relaid (es.map (·.1)) n with
 |none=>exact h.stand _
 |some q=>
  obtain⟨t',order⟩:=q;dsimp only;have hp:TG L t':=by
   unfold SetTable.relaid SetTable.laid at e;obtain⟨owner,_,e2⟩:=Option.bind_eq_some_iff.mp e;cases e2;refine⟨h.led,rfl,λ_=> ?_⟩;show List.Pairwise _ _;rw[List.map_filterMap];refine List.Pairwise.filterMap (R:=(· < ·)) _ ?_ List.pairwise_lt_range;intro a a' haa b hb b' hb';simp only[Option.map_map,Jk] at hb hb';obtain⟨_,_,rfl⟩:=hb;obtain⟨_,_,rfl⟩:=hb';exact haa
  split
  ·exact hp
  ·exact h.stand _
end L2.Se
namespace L2.Se
open PySem PyProof.Rows
abbrev setO(es:Array (Int×Value))(ep:Nat)(t:SetTable):Obj:={cls:= .type "set",dict:=none,data:= .set es ep t,slots:= #[]}
def EL(es:Array (Int×Value)):Prop:= ∀e∈es.toList,∃k tk,e=(hashInt k,Value.int k tk)
def nm(e:Int×Value):Int:=numOf e.2
structure SI (a:Addr) (L:Bool) (ks:List Int) (h:Heap):Prop where
 ex: ∃es ep t,h.get? a=some (setO es ep t)/\EL es/\(es.toList.map nm).Perm ks/\es.size<scanBound/\t.fits es.size=true/\TG L t
def dd(ks:List Int)(k:Int):List Int:=if k∈ks then ks else ks++ [k]
section
variable {prog:Program} {w:World} {A:Around} {E:Value->Shared->Prop} {s:Shared}
theorem zre{es:Array (Int×Value)}(h:EL es):ElemsOf (intKind prog w) es.toList:=λe he=>by
 obtain⟨k,tk,rfl⟩:=h e he;exact⟨⟨k,intKind_is _ _ _ _,rfl⟩,rfl⟩
theorem stored{a:Addr}{es:Array (Int×Value)}{ep:Nat}{t:SetTable}{h:Heap}(e:h.get? a=some (setO es ep t))(es':Array (Int×Value))(t':SetTable):(h.update a (Obj.putSet es' t')).get? a=some (setO es' (ep+1) t'):=
 Heap.get?_update_self (Obj.putSet es' t') e rfl
theorem zpA{a:Addr}{L:Bool}{ks:List Int}{k:Int}{tk:Tok}{Q:Bool->Shared->Prop}(hS:SI a L ks s.heap)(hr:ks.length+1<scanBound)
  (h: ∀b h',Heap.SameBut a s.heap h'->SI a L (dd ks k) h'->Q b {s with heap:=h'}):wpAny (model prog w) A (setAddHashed a (.int k tk) (hashInt k)) Q E s:=by
 obtain⟨es,ep,t,ho,el,pm,hb,hf,tg⟩:=hS.ex;have els:ElemsOf (intKind prog w) es.toList:=zre el;have ez:es.size=ks.length:=by rw[<-Jx,<-pm.length_eq,Ja]
 unfold setAddHashed setAddHashedIn;refine wpAny_holding (JW (wpAny_setState_of ho rfl hf ?_));dsimp only;rw[byScan_of (knd:=intKind prog w) rfl hb els];simp only[↓reduceIte];unfold setAddByScan;refine JW (JW (wpAny_rule (JW (wpAny_setScan_of (knd:=intKind prog w) (k:=k) (intKind_is _ _ _ _) ho rfl hf els ?_))));have hin:k∈ks↔ ∃e∈es.toList,(intKind prog w).is k e.2=true:=by
  rw[<-pm.mem_iff,Jw];refine⟨λ⟨e,he,q⟩=> ?_,λ⟨e,he,q⟩=> ?_⟩
  ·obtain⟨k',tk',rfl⟩:=el e he;obtain rfl:k'=k:=q;exact⟨_,he,intKind_is _ _ _ _⟩
  ·obtain⟨k',tk',rfl⟩:=el e he;exact⟨_,he,((intKind prog w).inj _ _ _ q (intKind_is _ _ _ _)).symm⟩
 cases hr':List.findIdx? (λe=>(intKind prog w).is k e.2) es.toList with
 |some j=>
  dsimp only;obtain⟨hj,hpj,_⟩:=List.findIdx?_eq_some_iff_getElem.mp hr';have hk:k∈ks:=hin.mpr ⟨_,List.getElem_mem hj,hpj⟩;refine JX (JX ?_)
  have:=h false s.heap (Heap.SameBut.refl a s.heap) (by unfold dd;rw[Jg hk];exact hS);exact this
 |none=>
  dsimp only;have hk:k∉ks:=λz=>by
   obtain⟨e,he,q⟩:=hin.mp z
   have:=List.findIdx?_eq_none_iff.mp hr' e he;rw[q] at this;cases this
  have hp:=layNew_perm t es (hashInt k) (.int k tk);have hl:=layNew_fits t es (hashInt k) (.int k tk);have hg:=tg.lay es (hashInt k) (.int k tk);have ehk:(intKind prog w).hash k=hashInt k:=rfl;generalize hL:layNew t es (hashInt k) (.int k tk)=R at hp hl hg ⊢;obtain⟨es1,t1,was,gave⟩:=R;dsimp only at hp hl hg ⊢;rw[Array.toList_push] at hp;have el1:EL es1:=λe he=>by
   rcases Jr.mp (hp.mem_iff.mp he) with z|z
   ·exact el e z
   ·rw[Jm.mp z];exact⟨k,tk,rfl⟩
  have pm1:(es1.toList.map nm).Perm (dd ks k):=by
   unfold dd;rw[Jf hk];refine(hp.map nm).trans ?_;rw[Jd];exact pm.append_right _
  have z1:es1.size=ks.length+1:=by
   rw[<-Jx,hp.length_eq,Jj,Jx,ez];rfl
  have o1:=stored ho es1 t1;have fin: ∀g:Bool->Sem Unit,(∀(b:Bool) (s₁:Shared) (Q':Unit->Shared->Prop),Q' () s₁->wpAny (model prog w) A (g b) Q' E s₁)->wpAny (model prog w) A (do
    storeSet a es1 t1
    if (!was && t1.tooFull)=true then do
     g (relayAll t1 es1 (SetTable.grown es1.size)).2.2
     storeSet a (relayAll t1 es1 (SetTable.grown es1.size)).1 (relayAll t1 es1 (SetTable.grown es1.size)).2.1
     pure (some true)
    else pure (some true)) (λr s'=>r=some true/\ ∃h',s'={s with heap:=h'}/\Heap.SameBut a s.heap h'/\SI a L (dd ks k) h') E s:=by
   intro g gw;refine JW (wpAny_storeSet_of ho rfl ?_ (fits_of_scanBound 'o'));have sb1:=Heap.SameBut.update s.heap a (Obj.putSet es1 t1);split
   ·have hp2:=relayAll_perm t1 es1 (SetTable.grown es1.size);have hf2:=relayAll_fits t1 es1 (SetTable.grown es1.size);have hg2:=hg.relay es1 (SetTable.grown es1.size);generalize relayAll t1 es1 (SetTable.grown es1.size)=R2 at hp2 hf2 hg2 ⊢;obtain⟨es2,t2,gave2⟩:=R2;dsimp only at hp2 hf2 hg2 ⊢;have z2:es2.size=es1.size:=by rw[<-Jx,hp2.length_eq,Jx]
    refine JW (gw _ _ _ (JW (wpAny_storeSet_of o1 rfl (JX ⟨rfl,_,rfl,sb1.trans (Heap.SameBut.update _ a _),⟨es2,_,t2,stored o1 es2 t2,λe he=>el1 e (hp2.mem_iff.mp he),(hp2.map nm).trans pm1,'o',hf2,hg2⟩⟩) (fits_of_scanBound 'o'))))
   ·exact JX ⟨rfl,_,rfl,sb1,⟨es1,_,t1,o1,el1,pm1,'o',hl,hg⟩⟩
  have gw: ∀(b:Bool) (s₁:Shared) (Q':Unit->Shared->Prop),Q' () s₁->wpAny (model prog w) A (match b with|true=>rule "set.scan.the-table-gave-way"|false=>pure ()) Q' E s₁:=λb s₁ Q' q=>by
   cases b
   ·exact JX q
   ·exact wpAny_rule q
  refine JW (gw _ _ _ ?_);have hbv:hashByValue 8 (Value.int k tk)=pure true:=hashByValue_scannable 8 rfl;split
  case' isTrue=>refine JW ?_
  case' isTrue=>rw[hbv]
  case' isFalse=>refine JW ?_
  all_goals
   refine JX ?_;simp only[↓reduceIte];refine wpAny_mono (fin _ ?_) (λr s' ⟨e1,h',e2,sb,si⟩=> ?_) λ_ _ e=>e
   ·intro b s₁ Q' q;cases b
    ·exact JX q
    ·exact wpAny_rule q
   ·subst e1 e2;exact JX (h true h' sb si)
end
end L2.Se
namespace L2.Se
open PySem PyProof.Rows
def ledOf(w:World):Bool:= !(w.params.followText "set-order")
section
variable {prog:Program} {w:World} {A:Around} {E:Value->Shared->Prop} {s:Shared}
theorem znW(a:Value){Q₁:Value->Shared->Prop}(h:Q₁ (.ref s.heap.objs.size) {s with heap:=s.heap.push (setO #[] 0 (.fresh 0 0 (ledOf w)))}):
  codeAny (model prog w) A (.call (.builtin "set.__new__") ⟨[.type "set",a], []⟩) (wants Q₁ E) s:=by
 refine codeAny_of_tree ?_;show wpAny _ A.in1 (do checkBuiltinCall "set.__new__" ⟨[.type "set",a], []⟩;again (.builtin "set.__new__" ⟨[.type "set",a], []⟩)) _ _ s;have e1:=PySem.F.newCall_set_1 a;have q1:=plainId_quiet PySem.F.plain_set_new;refine JW (wpAny_of_eq e1 (JX ⟨q1 _,codeAny_builtin PySem.F.entry_set_new ?_⟩));rw[Around.under_plainId PySem.F.plain_set_new _];have sub:=PySem.sub_set_self;obtain⟨hp,g,d,tk,os⟩:=s;unfold Builtin.«set.__new__» Builtin.Frozenset.newClass;dsimp only;wp_walk
 refine wpAny_askSetting (JX ?_);dsimp only;simp only[newObj];exact JW (wpAny_alloc (JX (JX h)))
end
section
variable {prog:Program} {w:World} {A:Around} {R:Result->Shared->Prop} {I:Addr} {fp wr:List Addr} {G:Array GenState->Array GenState->Prop} {n:Nat} {P:Nat->Value->Prop} {St:Nat->Shared->Prop}
def metOf(val:Nat->Int)(i:Nat):List Int:=((List.range i).map val).foldl dd []
theorem met_succ(val:Nat->Int)(i:Nat):metOf val (i+1)=dd (metOf val i) (val i):=by
 unfold metOf;rw[JQ,Jd,List.foldl_append];rfl
theorem zpB(ks:List Int)(k:Int):(dd ks k).length<=ks.length+1:=by
 unfold dd;split
 ·omega
 ·rw[Jj];exact Je _
theorem met_len(val:Nat->Int): ∀i,(metOf val i).length<=i
 |0=>Je _
 |i+1=>by
  have:=met_len val i
  have:=zpB (metOf val i) (val i);rw[met_succ];omega
theorem SI.at{a:Addr}{L:Bool}{ks:List Int}{h h':Heap}(x:SI a L ks h)(e: ∀o,h.get? a=some o->h'.get? a=some o):SI a L ks h':=by
 obtain⟨es,ep,t,ho,r⟩:=x.ex;exact⟨es,ep,t,e _ ho,r⟩
theorem zl1{L:Bool}(W:WalksS prog w A.in1 I fp wr G n P St)(S:Addr)(hSf:S∉fp)(val:Nat->Int)(hval: ∀i v,P i v-> ∃t,v= .int (val i) t)(hb:n+1<scanBound):
  ∀(k i:Nat) (s:Shared),n - i=k->i<=n->St i s->SI S L (metOf val i) s.heap->(∀s',Moved (S::wr) G s s'->SI S L (metOf val n) s'.heap->R (.ok (.ret .none)) s')->
   codeAny (model prog w) A (.builtin "set.update.loop" ⟨[.ref S, .ref I], []⟩) R s:=by
 have nw:S∉wr:=λh=>hSf (W.sub _ h);have sub: ∀b∈wr,b∈S::wr:=λb hb=>Jl _ hb;intro k;induction k with
 |zero=>
  intro i s hk hi hst hS hR;obtain rfl:i=n:=by omega
  refine codeAny_builtin PyProof.Rows.F.entry_set_update_loop ?_;rw[Around.under_plainId PyProof.Rows.F.plain_set_update_loop _];show wpAny _ A.in1 (pyNext (.ref I)>>=_) _ _ s;exact JW (W.done s _ _ hst λs' hm=>JX (hR s' (hm.mono sub) (hS.at λo e=>hm.heap S o nw e)))
 |succ k ih=>
  intro i s hk hi hst hS hR;have hlt:i<n:=by omega
  refine codeAny_builtin PyProof.Rows.F.entry_set_update_loop ?_;rw[Around.under_plainId PyProof.Rows.F.plain_set_update_loop _];show wpAny _ A.in1 (pyNext (.ref I)>>=_) _ _ s;refine JW (W.item i s _ _ hlt hst λv s' hP hst' hm=> ?_);obtain⟨t,rfl⟩:=hval i v hP;have hS':=hS.at λo e=>hm.heap S o nw e;show wpAny _ A.in1 (holding [Value.int (val i) t] (setAdd S (.int (val i) t))>>=_) _ _ s';refine JW (wpAny_holding ?_);unfold setAdd;refine wpAny_holding (JW ((intKind prog w).pyHash (k:=val i) (intKind_is _ _ _ _) ?_));have ml:=met_len val i;refine zpA (s:={s' with toks:=s'.toks+1}) hS' 'o' λb h' sb si=> ?_;rw[<-met_succ] at si;refine JX ⟨plainId_quiet PyProof.Rows.F.plain_set_update_loop _,ih (i+1) _ 'o' hlt (W.frame _ s' _ _ hst' (Nat.le_succ _) λb hb o e=> ?_) si λs'' hm'' hS''=> ?_⟩
  ·rw[sb.2 b (λh:b=S=>hSf (by rw[<-h];exact hb))];exact e
  ·refine hR s'' (Moved.trans W.gtrans ((hm.mono sub).then_heap (Nat.le_succ _) λb o hb e=> ?_) hm'') hS'';rw[sb.2 b (λh:b=S=>hb (by rw[h];exact Jq))];exact e
end
section
variable {prog:Program} {w:World} {A:Around} {E:Value->Shared->Prop} {s:Shared}
theorem set_list{l:Addr}{its:Array Value}{ns:List Int}{Q:Value->Shared->Prop}(hh:A.handled=none)(hl:s.heap.IsList l its)(hi:IntsAre its.toList ns)(hb:its.size+1<scanBound)
  (h: ∀(h':Heap) (tk:Nat),SI s.heap.objs.size (ledOf w) (metOf (λi=>ns.getD i 0) its.size) h'->(∀b o,b<s.heap.objs.size->s.heap.get? b=some o->h'.get? b=some o)->Q (.ref s.heap.objs.size) {s with heap:=h',toks:=tk}):
  wpAny (model prog w) A (call (.type "set") [.ref l]) Q E s:=by
 obtain⟨c,tl,hmro⟩:=PySem.F.called_set.mro;have hmade:=PySem.F.called_set.made;have hsub:=PySem.F.called_set.sub;refine wpAny_call (codeAny_of_tree ?_);show wpAny _ _ (callAny (.type "set") _) _ _ _;refine JX ⟨Code.quiet_builtin _ (by decide+kernel),codeAny_builtin PySem.F.entry_type_call ?_⟩;rw[Around.under_plain (weight_type_call_type "set" [.ref l] []) rfl];have h1:=PySem.F.called_set.notType;have h2:=PySem.F.called_set.canCreate;have hct:=PySem.F.typeCall_set_1 (.ref l);repeat (any_goals (first|assumption|wp_step))
 obtain⟨o0,ho0⟩: ∃o0,o0=setO #[] 0 (.fresh 0 0 (ledOf w)):=⟨_,rfl⟩
 refine codeAny_mono (znW (.ref l) (E:=E) (Q₁:=λv s₁=>v= .ref s.heap.objs.size/\s₁={s with heap:=s.heap.push o0}) ⟨rfl,by rw[ho0]⟩) λr s₁ hr=> ?_;cases r with
 |error e=>exact hr
 |ok fl=>
  cases fl with
  |ret obj=>
   obtain⟨e1,e2⟩:=hr;subst e1 e2;have hS:(s.heap.push o0).get? s.heap.objs.size=some (setO #[] 0 (.fresh 0 0 (ledOf w))):=by rw[ho0];exact Qc _ rfl
   have hT:Shared.TypeIs {s with heap:=s.heap.push o0} (.ref s.heap.objs.size) "set":=⟨_,hS,rfl⟩
   have hli:=PySem.F.called_set.init.lookup;have hbi:=PySem.F.called_set.init.bind (.ref s.heap.objs.size);repeat (any_goals (first|assumption|wp_step))
   refine codeAny_mono (codeAny_call_builtin (R:=wants (λr s₂=>r= .none/\ ∃h' tk,s₂={s with heap:=h',toks:=tk}/\SI s.heap.objs.size (ledOf w) (metOf (λi=>ns.getD i 0) its.size) h'/\(∀b o,b<s.heap.objs.size->s.heap.get? b=some o->h'.get? b=some o)) E) PySem.F.called_set.init.plain PySem.F.entry_set_init (PySem.check_set_init_1 hT ?_)) λr₂ s₂ hr₂=> ?_
   ·obtain⟨ol,hol,hcl,nl,hdl⟩:=hl;obtain⟨ocls,odict,odata,oslots⟩:=ol;simp only at hcl hdl;subst hcl hdl;have hol':(s.heap.push o0).get? l=some {cls:= .type "list",dict:=odict,data:= .seq its nl,slots:=oslots}:=Qa _ hol;have hsls:=PySem.F.sub_list_set;have hslf:=PySem.F.sub_list_frozenset;have hne:(Value.type "list"==Value.type "dict")=false:=by decide
    have hl1:(s.heap.push o0).IsList l its:=⟨_,hol',rfl,nl,rfl⟩
    unfold Builtin.«set.__init__» noKeywords Builtin.Frozenset.updateFrom;generalize hPI:pyIter=PI;wp_walk
    subst hPI;refine wpAny_pyIter_list hl1 (JW (wpAny_runValue ?_));have hlS:l<s.heap.objs.size:=Qb hol;have hh3:A.in1.in1.in1.handled=none:=by simp [hh]
    have zp:(s.heap.push o0).objs.size=s.heap.objs.size+1:=Heap.size_push ..;have nI:l≠(s.heap.push o0).objs.size:=λq=>by rw[zp] at q;exact absurd q (JK (Nat.lt_succ_of_lt hlS))
    have nS:s.heap.objs.size∉ [(s.heap.push o0).objs.size,l]:=by
     rw[zp];simp only[JD,List.not_mem_nil,or_false,not_or];exact⟨JK (Nat.lt_succ_self _),Nat.ne_of_gt hlS⟩
    have hval: ∀(i:Nat) (v:Value),its[i]? =some v-> ∃t,v= .int ((λi=>ns.getD i 0) i) t:=λi v hv=>IntsAre.int_at hi i v (by rw[JG];exact hv);refine zl1 (L:=ledOf w) ((Walks.list hh3 _ l nI its).toS) s.heap.objs.size nS (λi=>ns.getD i 0) hval hb (its.size - 0) 0 _ 'o' (Jv _) ⟨⟨_,Qc _ rfl,rfl,rfl⟩,hl1.push _⟩ ?hS0 ?hR
    case hS0=>
     exact⟨#[],0,_,Qa _ hS,λe he=>by simp at he,by exact List.Perm.nil,'d',rfl,⟨rfl,rfl,λ_=>List.Pairwise.nil⟩⟩
    case hR=>
     intro s' hm hS';obtain⟨h',g',d',tk',os'⟩:=s';have eg:g'=s.gens:=hm.gens;have ed:d'=s.drawn:=hm.drawn;have eo:os'=s.os:=hm.os;subst eg ed eo;show wpAny _ _ _ _ _ _;refine JX ?_;show wpAny _ _ (ret Value.none) _ _ _;refine JX ⟨rfl,h',tk',rfl,hS',λb o hb e=> ?_⟩;refine hm.heap b o ?_ (Qa _ (Qa _ e));rw[zp];simp only[JD,List.not_mem_nil,or_false,not_or];exact⟨JK hb,JK (Nat.lt_succ_of_lt hb)⟩
   ·cases r₂ with
    |error e=>exact hr₂
    |ok fl₂=>
     cases fl₂ with
     |ret r=>
      obtain⟨rfl,h',tk,rfl,hS',hk'⟩:=hr₂;repeat (any_goals (first|assumption|wp_step))
      exact h _ _ hS' hk'
     |_=>exact hr₂.elim
  |_=>exact hr.elim
end
end L2.Se
namespace L2.Se
open PySem PyProof.Rows
variable{α:Type}{M:Model}{n ep i:Nat}{Q:Option Value->Shared->Prop}{a I:Addr}{es:Array (Int×Value)}{m:Md}{h:Heap}{v:Value}
theorem ut:Slot "set_iterator" "__next__" "set_iterator.__next__":=
 .of (owner:="set_iterator") (n:="__next__") (by rw[typeLookup_type,builtinLookup_eq_fast];kernel_rfl) (by decide+kernel) (by decide+kernel) (by decide+kernel) (by first|exact .inl (by decide+kernel)|exact .inr (by decide+kernel)) (by rw[isSubtype_type];kernel_rfl)
theorem zfp:entryFor table "set_iterator.__next__"=some Builtin.«set_iterator.__next__» :=entryFor_of_tree (by kernel_rfl)
theorem zgl(a:Value):argsOk "set_iterator.__next__" ⟨[a], []⟩:=by unfold argsOk;kernel_rfl
theorem ziQ:entryFor table "set.__iter__"=some Builtin.«frozenset.__iter__» :=entryFor_alias (id':="frozenset.__iter__") (by kernel_rfl) rfl (by decide+kernel) (by kernel_rfl)
theorem zdP{α:Type}: ∀{l:List α} {i:Nat} (h:i<l.length),(l[i]::l.eraseIdx i).Perm l
 |x::r,0,_=>List.Perm.refl _
 |x::r,i+1,h=>by
  rw[List.eraseIdx_cons_succ,List.getElem_cons_succ];exact(List.Perm.swap _ _ _).trans ((zdP (by simpa using h)).cons x)
theorem zgm{α:Type}(next:Nat->Nat): ∀(fuel k:Nat) (left:List α) (out:Array α),left.length=fuel->(pickOrder.go next fuel k left out).toList.Perm (out.toList++left)
 |0,k,left,out,h=>by
  obtain rfl:left= []:=List.length_eq_zero_iff.mp h;rw[pickOrder.go,Jt]
 |fuel+1,k,left,out,h=>by
  have lt:next k % left.length<left.length:=Nat.mod_lt _ 'o';rw[pickOrder.go,Jb lt];dsimp only;refine(zgm next fuel (k+1) _ _ (by rw[List.length_eraseIdx,Jg lt];omega)).trans ?_;rw[Array.toList_push,JM];refine List.Perm.append_left _ ?_;rw[List.singleton_append];exact zdP lt
section
variable {prog:Program} {w:World} {A:Around} {E:Value->Shared->Prop} {s:Shared}
theorem zpC{M:Model}{src:Source}{Q:Nat->Shared->Prop}(hn:n≠0)(h: ∀i,i<n-> ∀d,Q i {s with drawn:=d}):wpAny M A (choose src n) Q E s:=λΓ p _=>by
 intros
 show Sem.wp _ _ (.choose src n .pure) _ _ _ _;rw[Sem.wp_choose];exact⟨hn,h _ (Nat.mod_lt _ (Nat.pos_of_ne_zero hn)) _⟩
theorem zks{M:Model}(n:Nat): ∀(xs:List α) {Q:List α->Shared->Prop} {s:Shared},xs.length=n->(∀ys d,ys.Perm xs->Q ys {s with drawn:=d})->wpAny M A (drawOrder n xs) Q E s:=by
 induction n with
 |zero=>
  intro xs Q s h q;obtain rfl:xs= []:=List.length_eq_zero_iff.mp h;exact JX (q [] s.drawn (List.Perm.refl _))
 |succ n ih=>
  intro xs Q s h q;cases xs with
  |nil=>cases h
  |cons x r=>
   unfold drawOrder;refine JW (zpC (by simp) λi hi d=> ?_);rw[Jb hi];dsimp only;refine JW (ih _ (by rw[List.length_eraseIdx,Jg hi];omega) λys d' hp=>JX (q _ _ ?_));exact(hp.cons _).trans (zdP hi)
abbrev xo(first:Value)(i:Nat)(a:Addr)(n ep:Nat):Obj:={cls:= .type "set_iterator",data:= .fields #[first, .int i 0, .ref a, .int n 0, .int ep 0]}
theorem Rs.short{xs:Array Nat}(h:xs.size<=1):Rs xs:=by
 unfold Rs;match hx:xs.toList with
 | []=>exact List.Pairwise.nil
 | [x]=>exact List.pairwise_singleton _ _
 |x::y::r=>rw[<-Jx,hx] at h;simp at h
inductive Md where
 |text
 |slots
 |lot (tp:Addr) (ps:List Nat)
def xY(t:SetTable)(i:Nat):Md->Value
 | .text=> .int 0 0
 | .slots=> .int ((if i=0 then 0 else t.place.getD (i - 1) 0+1:Nat):Int) 0
 | .lot tp _=> .ref tp
def ord(w:World)(a:Addr)(es:Array (Int×Value))(ep:Nat):Md->List (Int×Value)
 | .text=>(pickOrder (w.params.setOrder a ep) es).toList
 | .slots=>es.toList
 | .lot _ ps=>ps.filterMap λp=>es[p]?
structure MdOk (w:World) (es:Array (Int×Value)) (t:SetTable) (m:Md) (h:Heap):Prop where
 tx:m= .text->w.params.followText "set-order"=true
 sl:m= .slots->w.params.followText "set-order"=false/\(!t.plain && decide (es.size>1))=false/\t.led=true/\Rs t.place
 lt: ∀tp ps,m= .lot tp ps->ps.Perm (List.range es.size)/\ ∃o n,h.get? tp=some o/\o.data= .seq ((ps.map λ(i:Nat)=>rawInt i).toArray) n/\o.cls= .type "tuple"
theorem zhV{t:SetTable}(k:MdOk w es t m h):(ord w a es ep m).Perm es.toList:=by
 cases m with
 |text=>exact zgm _ _ _ _ _ (by simp)
 |slots=>exact List.Perm.refl _
 |lot tp ps=>
  have:=((k.lt tp ps rfl).1.filterMap λp=>es[p]?)
  rwa[filterMap_getElem?_range] at this
theorem zkt{t:SetTable}{Q:Value->Shared->Prop}(ho:s.heap.get? a=some (setO es ep t))(hf:t.fits es.size=true)(tg:TG (ledOf w) t)(hz:es.size<=sizeLine)
  (h: ∀(m:Md) (h':Heap) d,(∀b o,s.heap.get? b=some o->h'.get? b=some o)->MdOk w es t m h'->s.heap.objs.size<=h'.objs.size->Q (.ref h'.objs.size) {s with heap:=h'.push (xo (xY t 0 m) 0 a es.size ep),drawn:=d}):
  wpAny (model prog w) A (pyIter (.ref a)) Q E s:=by
 have hT:s.TypeIs (.ref a) "set":=⟨_,ho,rfl⟩
 have sz:t.place.size=es.size:=by
  simp only[SetTable.fits,Bool.and_eq_true,beq_iff_eq] at hf;exact hf.1
 refine wpAny_pyIter_slot hT PySem.F.slot_set_iter (wpAny_call_entry PySem.F.slot_set_iter hT ziQ ?_ (PySem.F.args_set_iter_1 _));unfold Builtin.«frozenset.__iter__» Builtin.Frozenset.slot0 slotArgs;simp only[List.isEmpty_nil,Bool.not_true,Js,↓reduceIte,bind_assoc,List.length_nil,bne_self_eq_false];unfold Builtin.Frozenset.addrOf Builtin.Frozenset.sizeOf;refine JW (JX ?_);try dsimp only
 refine JW (JX (JW (JW (wpAny_setEntries_of ho rfl hf (JX ?_)))));try dsimp only
 unfold setDrawn setsByText;refine JW (JW (wpAny_setState_of ho rfl hf (JW (JW (wpAny_askSetting (JX (JX ?_)))))));show wpAny _ _ (if (!w.params.followText "set-order" && (!t.plain && decide (es.size>1)))=true then _ else _) _ _ _;have fin: ∀(m:Md) (h1:Heap) (d1:Drawn),(∀b o,s.heap.get? b=some o->h1.get? b=some o)->MdOk w es t m h1->s.heap.objs.size<=h1.objs.size->wpAny (model prog w) A.in1 (do
   let ep'<-setEpoch a
   let it<-newFields "set_iterator" [xY t 0 m,rawInt 0,Value.ref a,rawInt es.size,rawInt ep']
   ret it) (λfin s'=> ∃v,fin=Fin.done (Flow.ret v)/\ ∃T' r,s'.TypeIs v T'/\typeLookup (Value.type T') (Str.ofString "__next__")=pure (some r)/\Q v s') E {s with heap:=h1,drawn:=d1}:=by
  intro m h1 d1 k1 k2 k3;refine JW (wpAny_setEpoch_of (k1 _ _ ho) rfl hf ?_);exact JW (wpAny_newObj_type (JX ⟨_,rfl,"set_iterator",_,⟨_,Qc _ rfl,rfl⟩,ut.lookup,h m h1 d1 k1 k2 k3⟩))
 cases hb:w.params.followText "set-order" with
 |true=>
  rw[Jf (by simp)];exact JW (JX (fin .text s.heap s.drawn (λ_ _ e=>e) ⟨λ_=>hb,nofun,nofun⟩ (Je _)))
 |false=>
  cases hd:(!t.plain && decide (es.size>1)) with
  |false=>
   rw[Jf (by simp)];refine JW (JX (fin .slots s.heap s.drawn (λ_ _ e=>e) ⟨nofun,λ_=>⟨hb,hd,?_,?_⟩,nofun⟩ (Je _)))
   ·rw[tg.led];unfold ledOf;rw[hb];rfl
   ·cases hp:t.plain with
    |true=>exact tg.ris hp
    |false=>
     rw[hp] at hd;refine Rs.short ?_;rw[sz];simpa using hd
  |true=>
   rw[Jg (by simp)];refine JW (zks es.size (List.range es.size) JI λys d hp=> ?_);have yl:ys.length<=sizeLine:=by rw[hp.length_eq,JI];exact JE (Nat.le_of_eq sz.symm) (by
    simp only[SetTable.fits,Bool.and_eq_true,beq_iff_eq,decide_eq_true_eq] at hf;rw[sz];exact hz)
   refine JW (wpAny_newTuple ?_ (by rw[Ja];exact yl));refine fin (.lot s.heap.objs.size ys) _ d (λb o e=>Qa _ e) ⟨nofun,nofun,λtp ps e=> ?_⟩ (by rw[Heap.size_push];exact Nat.le_succ _);cases e;exact⟨hp,_,0,Qc _ rfl,rfl,rfl⟩
theorem zjD{t:SetTable}{sl g:Nat}{Q:Option (Value×Nat)->Shared->Prop}(ho:s.heap.get? a=some (setO es ep t))(hf:t.fits es.size=true)(hb:w.params.followText "set-order"=true)
  (h:Q ((pickOrder (w.params.setOrder a ep) es)[g]?.map λe=>(e.2,sl)) s):wpAny (model prog w) A (setNext a sl g ep) Q E s:=by
 unfold setNext setWalk setsByText;refine JW (wpAny_setState_of ho rfl hf (JW (JW (wpAny_askSetting (JX ?_)))));show wpAny _ _ (if w.params.followText "set-order"=true then _ else _) _ _ _;rw[Jg hb,Jf (by simp)];refine JW (JW (wpAny_setState_of ho rfl hf (JW (JW (wpAny_askSetting (JX ?_))))));show wpAny _ _ (if w.params.followText "set-order"=true then _ else _) _ _ _;rw[Jg hb];exact JW (wpAny_askSetting (JX (JX h)))
theorem zhW{t:SetTable}{sl g:Nat}{Q:Option (Value×Nat)->Shared->Prop}(ho:s.heap.get? a=some (setO es ep t))(hf:t.fits es.size=true)(hb:w.params.followText "set-order"=false)(hd:(!t.plain && decide (es.size>1))=false)(hl:t.led=true)
  (h:Q (match es[SetTable.below t.place sl]?,t.place[SetTable.below t.place sl]? with|some (_,x),some j=>some (x,j+1)|_,_=>none) s):wpAny (model prog w) A (setNext a sl g ep) Q E s:=by
 unfold setNext setsByText;refine JW (wpAny_setState_of ho rfl hf (JW (JW (wpAny_askSetting (JX ?_)))));show wpAny _ _ (if w.params.followText "set-order"=true then _ else _) _ _ _;rw[Jf (by rw[hb];decide)];show wpAny _ _ (if (!t.plain && decide (es.size>1))=true then _ else _) _ _ _;rw[Jf (by rw[hd];decide)];show wpAny _ _ ((if (!t.led && !es.isEmpty)=true then unsupported "set:maker-not-led" else pure ())>>=λ_=>_) _ _ _;rw[Jf (by rw[hl];simp)];exact JW (JX (JX h))
theorem zjE{t:SetTable}(h:Rs t.place)(hi:i<=t.place.size):SetTable.below t.place (if i=0 then 0 else t.place.getD (i - 1) 0+1)=i:=by
 obtain⟨b1,b2,b3⟩:=zfn h (if i=0 then 0 else t.place.getD (i - 1) 0+1);generalize SetTable.below t.place (if i=0 then 0 else t.place.getD (i - 1) 0+1)=b at b1 b2 b3 ⊢;by_cases z:i=0
 ·rw[Jg z] at b2 b3;rcases Nat.eq_zero_or_pos b with q|q
  ·omega
  ·have:=b2 0 q 'o';omega
 ·rw[Jf z,zg1 'o'] at b2 b3;rcases Nat.lt_trichotomy b i with q|q|q
  ·have:=b3 (i - 1) 'o' 'o';omega
  ·exact q
  ·have h1:=b2 i q 'o';have h2:=h.lt (show i - 1<i by omega) 'o';omega
theorem zrf{v':Value}(e:h.get? I=some (xo v i a n ep)):((h.update I (Obj.mapFields (·.setIfInBounds 0 v'))).update I (Obj.mapFields (·.setIfInBounds 1 (rawInt ((i:Int)+1))))).get? I=some (xo v' (i+1) a n ep)/\ ∀b o,b≠I->h.get? b=some o->((h.update I (Obj.mapFields (·.setIfInBounds 0 v'))).update I (Obj.mapFields (·.setIfInBounds 1 (rawInt ((i:Int)+1))))).get? b=some o:=by
 have e1:(h.update I (Obj.mapFields (·.setIfInBounds 0 v'))).get? I=some (xo v' i a n ep):=Heap.get?_update_self _ e rfl;exact⟨Heap.get?_update_self _ e1 rfl,λb o hb q=>(Qd _ _ (Ne.symm hb)).trans ((Qd _ _ (Ne.symm hb)).trans q)⟩
theorem zrP(e:h.get? I=some (xo v i a n ep)):(h.update I (Obj.mapFields (·.setIfInBounds 1 (rawInt ((i:Int)+1))))).get? I=some (xo v (i+1) a n ep)/\ ∀b o,b≠I->h.get? b=some o->(h.update I (Obj.mapFields (·.setIfInBounds 1 (rawInt ((i:Int)+1))))).get? b=some o:=
 ⟨Heap.get?_update_self _ e rfl,λb o hb q=>(Qd _ _ (Ne.symm hb)).trans q⟩
theorem znX{t:SetTable}{v:Value}{Q:Option Value->Shared->Prop}(ho:s.heap.get? a=some (setO es ep t))(hf:t.fits es.size=true)(hI:s.heap.get? I=some (xo (xY t i m) i a es.size ep))(hm:MdOk w es t m s.heap)
  (hv:((ord w a es ep m)[i]?).map (·.2)=some v)
  (h: ∀h',h'.get? I=some (xo (xY t (i+1) m) (i+1) a es.size ep)->(∀b o,b≠I->s.heap.get? b=some o->h'.get? b=some o)->Q (some v) {s with heap:=h'}):wpAny (model prog w) A (pyNext (.ref I)) Q E s:=by
 have hT:s.TypeIs (.ref I) "set_iterator":=⟨_,hI,rfl⟩
 unfold pyNext;refine JW (wpAny_attempt (wpAny_callSpecial?_slot (name:=Str.ofString "__next__") hT ut (wpAny_call_entry ut hT zfp ?_ (zgl _))));unfold Builtin.«set_iterator.__next__» slotArgs;simp only[List.isEmpty_nil,Bool.not_true,Js,↓reduceIte,bind_assoc,List.length_nil,bne_self_eq_false];refine JW (JX ?_);refine JW (wpAny_fieldsOf hI rfl ?_);dsimp only;refine JW (wpAny_setEntries_of ho rfl hf ?_);rw[Jf (by simp)];have sz:t.place.size=es.size:=by
  simp only[SetTable.fits,Bool.and_eq_true,beq_iff_eq] at hf;exact hf.1
 cases m with
 |text=>
  refine JW (zjD ho hf (hm.tx rfl) ?_);rw[show ((i:Int)).toNat=i from JF i,show ((ep:Int)).toNat=ep from JF ep];unfold ord at hv;rw[JG] at hv;obtain⟨e,he,ev⟩:=Jk.mp hv;rw[he];dsimp only[Option.map]
  have:=zrf (v':= .int 0 0) hI;refine JW (wpAny_setField hI rfl (by simp) (JW (wpAny_setField (Heap.get?_update_self _ hI rfl) rfl (by simp) (JX ⟨_,rfl,?_⟩))));rw[ev];exact JX (h _ this.1 this.2)
 |slots=>
  obtain⟨hb,hd,hl,rs⟩:=hm.sl rfl;unfold ord at hv;rw[JG] at hv;obtain⟨e,he,ev⟩:=Jk.mp hv;have hi:i<es.size:=(Array.getElem?_eq_some_iff.mp he).1;refine JW (zhW ho hf hb hd hl ?_);rw[JF,zjE rs 'o',he,getElem?_pos t.place i 'o'];dsimp only
  have:=zrf (v':= .int ((t.place[i]''o'+1:Nat):Int) 0) hI;refine JW (wpAny_setField hI rfl (by simp) (JW (wpAny_setField (Heap.get?_update_self _ hI rfl) rfl (by simp) (JX ⟨_,rfl,?_⟩))));rw[ev];refine JX (h _ (this.1.trans ?_) this.2);unfold xY;rw[Jf 'o',Nat.add_sub_cancel,zg1 'o']
 |lot tp ps=>
  obtain⟨hp,o,n,ht,hd,_⟩:=hm.lt tp ps rfl;refine JW (wpAny_seqItems ht hd ?_);dsimp only;unfold ord at hv;have al: ∀p∈ps,p<es.size:=λp h=>List.mem_range.mp (hp.mem_iff.mp h);have fm: ∀(l:List Nat),(∀p∈l,p<es.size)-> ∀k:Nat,(l.filterMap λp=>es[p]?)[k]? =(l[k]?).bind λp=>es[p]? :=by
   intro l;induction l with
   |nil=>intro _ k;rfl
   |cons p r ih=>
    intro hl k;have hp':=hl p Jq;rw[List.filterMap_cons,getElem?_pos es p hp'];cases k with
    |zero=>rw[List.getElem?_cons_zero,List.getElem?_cons_zero];exact(getElem?_pos es p hp').symm
    |succ k=>rw[List.getElem?_cons_succ,List.getElem?_cons_succ];exact ih (λq h=>hl q (Jl _ h)) k
  rw[fm ps al i] at hv;obtain⟨e,he,ev⟩:=Jk.mp hv;obtain⟨p,hpi,hpe⟩:=Option.bind_eq_some_iff.mp he;rw[JF,List.getElem?_toArray,Jh,hpi];show wpAny _ _ (do let x<-setNextDrawn a (Int.toNat (p:Int)) (Int.toNat (ep:Int));setField (Value.ref I) 1 (rawInt ((i:Int)+1));ret x) _ _ _;rw[JF,JF];unfold setNextDrawn;refine JW (JW (wpAny_setState_of ho rfl hf ?_));dsimp only;rw[Jf (by simp),hpe];refine JX ?_
  have:=zrP hI;refine JW (wpAny_setField hI rfl (by simp) (JX ⟨_,rfl,?_⟩));rw[ev];exact JX (h _ this.1 this.2)
theorem zg4{M:Model}{I:Addr}(hh:A.handled=none)(hQ: ∀h',(∀b o,s.heap.get? b=some o->h'.get? b=some o)->Q none {s with heap:=h'}):
  wpAny (model prog w) A.in1 (do let e<-newExc (Value.type "StopIteration") [];raiseNew e) (λfin s'=> ∃v,fin=Fin.done (Flow.ret v)/\wpAny (model prog w) A (pure (some v)) Q E s')
   (λe s'=>wpAny (model prog w) A (do let b<-isInstance e (Value.type "StopIteration");if b=true then pure none else throw e) Q E s') s:=by
 refine JW ?_;simp only[newExc,newTuple];refine JW (wpAny_newObj_type ?_ (by size_fits));refine JW (m:=firstArgMember _ _) (wpAny_of_eq (a:=Value.none) (by first|rfl|(simp only[firstArgMember];rfl)) ?_);refine wpAny_newObj_type ?_ (by size_fits);simp only[raiseNew];refine JW (wpAny_handled ?_);rw[show A.in1.handled=none from hh];refine JW (JX (wpAny_throw ?_));refine JW (wpAny_isInstance (T:="StopIteration") (b:=true) ⟨_,Qc _ rfl,rfl⟩ isSubtype_stop ?_);exact JX (hQ _ λb o e=>Qa _ (Qa _ e))
theorem zl2{t:SetTable}{Q:Option Value->Shared->Prop}(hh:A.handled=none)(ho:s.heap.get? a=some (setO es ep t))(hf:t.fits es.size=true)(hI:s.heap.get? I=some (xo (xY t es.size m) es.size a es.size ep))(hm:MdOk w es t m s.heap)
  (h: ∀h',(∀b o,b≠I->s.heap.get? b=some o->h'.get? b=some o)->Q none {s with heap:=h'}):wpAny (model prog w) A (pyNext (.ref I)) Q E s:=by
 have hT:s.TypeIs (.ref I) "set_iterator":=⟨_,hI,rfl⟩
 have sz:t.place.size=es.size:=by
  simp only[SetTable.fits,Bool.and_eq_true,beq_iff_eq] at hf;exact hf.1
 unfold pyNext;refine JW (wpAny_attempt (wpAny_callSpecial?_slot (name:=Str.ofString "__next__") hT ut (wpAny_call_entry ut hT zfp ?_ (zgl _))));unfold Builtin.«set_iterator.__next__» slotArgs;simp only[List.isEmpty_nil,Bool.not_true,Js,↓reduceIte,bind_assoc,List.length_nil,bne_self_eq_false];refine JW (JX (JW (wpAny_fieldsOf hI rfl ?_)));dsimp only;refine JW (wpAny_setEntries_of ho rfl hf ?_);rw[Jf (by simp)];have oth: ∀(f:Obj->Obj) b o,b≠I->s.heap.get? b=some o->(s.heap.update I f).get? b=some o:=λf b o hb q=>(Qd _ _ (Ne.symm hb)).trans q;have ol:=(zhV (a:=a) (ep:=ep) hm).length_eq;cases m with
 |text=>
  refine JW (zjD ho hf (hm.tx rfl) ?_);rw[show ((es.size:Int)).toNat=es.size from JF _,show ((ep:Int)).toNat=ep from JF ep,Array.getElem?_eq_none (by rw[<-Jx];exact Nat.le_of_eq (ol.trans (Jx ..)))];dsimp only[Option.map];exact JW (wpAny_setField hI rfl (by simp) (zg4 (M:=model prog w) (I:=I) hh λh' k=>h h' λb o hb e=>k b o (oth _ b o hb e)))
 |slots=>
  obtain⟨hb,hd,hl,rs⟩:=hm.sl rfl;refine JW (zhW ho hf hb hd hl ?_);rw[JF,zjE rs 'o',Array.getElem?_eq_none (Je _)];dsimp only;exact JW (wpAny_setField hI rfl (by simp) (zg4 (M:=model prog w) (I:=I) hh λh' k=>h h' λb o hb e=>k b o (oth _ b o hb e)))
 |lot tp ps=>
  obtain⟨hp,o,n,ht,hd,_⟩:=hm.lt tp ps rfl;refine JW (wpAny_seqItems ht hd ?_);dsimp only;rw[JF,List.getElem?_toArray,List.getElem?_eq_none (by rw[Ja,hp.length_eq,JI];exact Je _)];dsimp only;exact JW (wpAny_setField hI rfl (by simp) (JW (wpAny_setField (Heap.get?_update_self _ hI rfl) rfl (by simp) (zg4 (M:=model prog w) (I:=I) hh λh' k=>h h' λb o hb e=>k b o ((Qd _ _ (Ne.symm hb)).trans (oth _ b o hb e))))))
end
end L2.Se
namespace L2.Se
open PySem PyProof.Rows
section
variable {prog:Program} {w:World} {A:Around} {E:Value->Shared->Prop} {s:Shared}
theorem zl3{R:Result->Shared->Prop}{I a S:Addr}{es:Array (Int×Value)}{ep:Nat}{t:SetTable}{m:Md}{ys:List Value}(hh:A.handled=none)(hf:t.fits es.size=true)(hz:es.size<=sizeLine)(sI:S≠I)(sa:S≠a)(aI:a≠I)(hlot: ∀tp ps,m= .lot tp ps->tp≠S/\tp≠I)(hy:ys=(ord w a es ep m).map (·.2))(yl:ys.length=es.size)(res:Value):
  ∀(k i:Nat) (s:Shared) (c:Nat),es.size - i=k->i<=es.size->s.heap.get? a=some (setO es ep t)->s.heap.get? I=some (xo (xY t i m) i a es.size ep)->MdOk w es t m s.heap->s.heap.get? S=some {cls:= .type "list",data:= .seq (ys.take i).toArray c}->
   (∀h' c',(∀b o,b≠S->b≠I->s.heap.get? b=some o->h'.get? b=some o)->h'.get? S=some {cls:= .type "list",data:= .seq ys.toArray c'}->R (.ok (.ret res)) {s with heap:=h'})->
   codeAny (model prog w) A (.builtin "list.extend.loop" ⟨[.ref S, .ref I,res], []⟩) R s:=by
 have mdk: ∀{h h':Heap},MdOk w es t m h->(∀b o,b≠S->b≠I->h.get? b=some o->h'.get? b=some o)->MdOk w es t m h':=λx k=>⟨x.tx,x.sl,λtp ps e=>(let ⟨p,o,n,e1,e2⟩:=x.lt tp ps e;⟨p,o,n,k _ _ (hlot tp ps e).1 (hlot tp ps e).2 e1,e2⟩)⟩
 intro k;induction k with
 |zero=>
  intro i s c hk hi ho hI hm hS hR;obtain rfl:i=es.size:=by omega
  refine codeAny_builtin PySem.F.entry_extend_loop ?_;rw[Around.under_plainId PySem.F.plain_extend_loop _];show wpAny _ A.in1 (pyNext (.ref I)>>=_) _ _ s;refine JW (zl2 (by simpa using hh) ho hf hI hm λh' kk=>JX (hR h' c (λb o _ hb e=>kk b o hb e) ?_));rw[<-yl,JC] at hS;exact kk _ _ sI hS
 |succ k ih=>
  intro i s c hk hi ho hI hm hS hR;have hlt:i<ys.length:=by omega
  refine codeAny_builtin PySem.F.entry_extend_loop ?_;rw[Around.under_plainId PySem.F.plain_extend_loop _];show wpAny _ A.in1 (pyNext (.ref I)>>=_) _ _ s;refine JW (znX (v:=ys[i]) ho hf hI hm ?_ λh' hI' kk=> ?_)
  ·rw[<-Jh,<-hy];exact Jb hlt
  have hS':=kk _ _ sI hS;show wpAny _ A.in1 (updateSeq S (·.push ys[i])>>=_) _ _ _;have tl:(ys.take i).length=i:=by rw[JB];omega
  have oth: ∀(f:Obj->Obj) b o,b≠S->h'.get? b=some o->(h'.update S f).get? b=some o:=λf b o hb q=>(Qd _ _ (Ne.symm hb)).trans q;refine JW (wpAny_updateSeq hS' rfl (JX ⟨plainId_quiet PySem.F.plain_extend_loop _,ih (i+1) _ (c+1) 'o' 'o' (oth _ _ _ (Ne.symm sa) (kk _ _ aI ho)) (oth _ _ _ (Ne.symm sI) hI') (mdk hm λb o h1 h2 e=>oth _ _ _ h1 (kk _ _ h2 e)) ?_ λh2 c' k2 hS2=>hR h2 c' (λb o h1 h3 e=>k2 b o h1 h3 (oth _ _ _ h1 (kk _ _ h3 e))) hS2⟩) (by simp [tl];omega) (by simp [tl];omega));rw[Heap.get?_update_self _ hS' rfl];rw[JH,Jb hlt];simp [Obj.mapSeq];omega
theorem collect_set{a:Addr}{ks:List Int}{Q:List Value->Shared->Prop}(hh:A.handled=none)(hS:SI a (ledOf w) ks s.heap)
  (h: ∀(vs:List Value) (ns:List Int) (h':Heap) d tk,IntsAre vs ns->ns.Perm ks->s.heap.objs.size<=h'.objs.size->(∀b o,s.heap.get? b=some o->h'.get? b=some o)->Q vs {s with heap:=h',drawn:=d,toks:=tk}):wpAny (model prog w) A (collect (.ref a)) Q E s:=by
 obtain⟨es,ep,t,ho,el,pm,hb,hf,tg⟩:=hS.ex;have al:=Qb ho;have hz:=fits_of_scanBound hb;unfold collect;refine JW (wpAny_runValue (codeAny_builtin PySem.F.entry_proto_collect ?_));rw[Around.under_plainId PySem.F.plain_proto_collect _];show wpAny _ A.in1 (newList []>>=λl=>again (.builtin "list.__iadd__" ⟨[l, .ref a], []⟩)) _ _ s;refine JW (wpAny_newObj_type (JX ⟨plainId_quiet PySem.F.plain_list_iadd _,codeAny_builtin PySem.F.entry_list_iadd ?_⟩));rw[Around.under_plainId PySem.F.plain_list_iadd _];obtain⟨h1,e1⟩: ∃h1,h1=s.heap.push {cls:= .type "list",data:= .seq ([]:List Value).toArray}:=⟨_,rfl⟩
 have g1:h1.get? s.heap.objs.size=some {cls:= .type "list",data:= .seq ([]:List Value).toArray}:=by rw[e1];exact Qc _ rfl
 have o1: ∀b o,s.heap.get? b=some o->h1.get? b=some o:=λb o e=>by rw[e1];exact Qa _ e
 have z1:h1.objs.size=s.heap.objs.size+1:=by rw[e1];exact Heap.size_push ..
 show wpAny _ A.in1 (Builtin.List.listExtendWith (.ref s.heap.objs.size) (.ref a) (.ref s.heap.objs.size)) _ _ {s with heap:=s.heap.push _};rw[<-e1];unfold Builtin.List.listExtendWith;have hT:Shared.TypeIs {s with heap:=h1} (.ref a) "set":=⟨_,o1 _ _ ho,rfl⟩
 refine JW (wpAny_typeOf hT ?_);have n1:Builtin.List.listSameRef (.ref s.heap.objs.size) (.ref a)=false:=by simp [Builtin.List.listSameRef];exact Nat.ne_of_gt al
 have n2:(Value.type "set"==Value.type "list")=false:=by decide
 have n3:(Value.type "set"==Value.type "tuple")=false:=by decide
 simp only[n1,n2,n3,Bool.or_false,Js,if_false];refine JW (zkt (s:={s with heap:=h1}) (o1 _ _ ho) hf tg hz λm h2 d k2 md2 z2=> ?_);have ne:h2.get? a=some (setO es ep t):=k2 _ _ (o1 _ _ ho);have z2':h1.objs.size<=h2.objs.size:=z2;have k2': ∀b o,h1.get? b=some o->h2.get? b=some o:=k2;obtain⟨h3,e3⟩: ∃h3,h3=h2.push (xo (xY t 0 m) 0 a es.size ep):=⟨_,rfl⟩
 have o3: ∀b o,h2.get? b=some o->h3.get? b=some o:=λb o e=>by rw[e3];exact Qa _ e
 have g3:h3.get? h2.objs.size=some (xo (xY t 0 m) 0 a es.size ep):=by rw[e3];exact Qc _ rfl
 rw[<-e3];have hT3:Shared.TypeIs {s with heap:=h3,drawn:=d} (.ref a) "set":=⟨_,o3 _ _ ne,rfl⟩
 refine JW (wpAny_holding ?_);unfold Builtin.List.listLengthHint;refine JW (wpAny_specialOf hT3 PySem.F.slot_set_len.lookup ?_);have hs:splitId "set.__len__"=some ("set","__len__"):=by kernel_rfl
 dsimp only;rw[hs];dsimp only;refine JW (wpAny_isInstance hT3 PySem.sub_set_self ?_);simp only[Bool.not_true,Js,if_false];rw[Jg (by decide+kernel)];refine JW (wpAny_typeOf hT3 ?_);refine JX ?_;rw[Jg (by decide+kernel)];refine JW (wpAny_rule ?_);have gS:h3.get? s.heap.objs.size=some {cls:= .type "list",data:= .seq ([]:List Value).toArray}:=o3 _ _ (k2' _ _ g1);show wpAny _ A.in1 ((updateSeq s.heap.objs.size (·.push .none)>>=λ_=>updateSeq s.heap.objs.size (·.pop))>>=_) _ _ _;refine JW (JW (wpAny_updateSeq gS rfl ?_));have g4:=Heap.get?_update_self (Obj.mapSeq (·.push Value.none)) gS rfl;refine wpAny_updateSeq g4 rfl ?_;have g5:=Heap.get?_update_self (Obj.mapSeq (·.pop)) g4 rfl;have oth: ∀b o,b≠s.heap.objs.size->h3.get? b=some o->((h3.update s.heap.objs.size (Obj.mapSeq (·.push Value.none))).update s.heap.objs.size (Obj.mapSeq (·.pop))).get? b=some o:=λb o hb e=>(Qd _ _ (Ne.symm hb)).trans ((Qd _ _ (Ne.symm hb)).trans e);have pm2:=zhV (a:=a) (ep:=ep) md2;have yl:((ord w a es ep m).map (·.2)).length=es.size:=by rw[Ja,pm2.length_eq,Jx]
 have n5:s.heap.objs.size≠h2.objs.size:=by omega
 have n6:s.heap.objs.size≠a:=Nat.ne_of_gt al;have n7:a≠h2.objs.size:=JK (Jy al 'o');have nl: ∀tp ps,m= .lot tp ps->tp≠s.heap.objs.size/\tp≠h2.objs.size:=λtp ps e=>by
  obtain⟨_,o,n,e1,_,e2⟩:=md2.lt tp ps e;refine⟨λz=> ?_,JK (Qb e1)⟩;rw[z,k2' _ _ g1] at e1;cases e1;exact absurd e2 'd'
 have md3:MdOk w es t m ((h3.update s.heap.objs.size (Obj.mapSeq (·.push Value.none))).update s.heap.objs.size (Obj.mapSeq (·.pop))):=⟨md2.tx,md2.sl,λtp ps e=>(let ⟨p,o,n,e1,e2⟩:=md2.lt tp ps e;⟨p,o,n,oth _ _ (nl tp ps e).1 (o3 _ _ e1),e2⟩)⟩
 refine JX ⟨plainId_quiet PySem.F.plain_extend_loop _,zl3 (m:=m) hh hf hz n5 n6 n7 nl rfl yl _ es.size 0 _ _ rfl (Jv _) (oth _ _ (Ne.symm n6) (o3 _ _ ne)) (oth _ _ (Ne.symm n5) g3) md3 g5 λh' c' kk g6=> ?_⟩;show wpAny _ A (load s.heap.objs.size>>=_) _ _ _;refine JW (wpAny_load g6 (JX ?_));rw[List.toList_toArray];have allI: ∀l:List (Int×Value),(∀e∈l,∃k tk,e=(hashInt k,Value.int k tk))->IntsAre (l.map (·.2)) (l.map nm):=by
  intro l;induction l with
  |nil=>exact λ_=> .nil
  |cons x r ih=>
   intro hl;obtain⟨k,tk,rfl⟩:=hl x Jq;exact .cons k tk (ih λe h=>hl e (Jl _ h))
 refine h _ _ h' d s.toks (allI _ λe he=>el e (pm2.mem_iff.mp he)) ((pm2.map nm).trans pm) ?_ λb o e=> ?_
 ·exact Nat.le_of_lt (Nat.lt_of_le_of_lt (Je _) (Qb g6))
 ·have lt:=Qb e;exact kk b o (JK lt) (JK (Jy lt 'o')) (oth _ _ (JK lt) (o3 _ _ (k2' _ _ (o1 _ _ e))))
end
end L2.Se
namespace L2.Se
open PySem PyProof.Rows
section
variable {prog:Program} {w:World} {A:Around} {E:Value->Shared->Prop} {s:Shared}
theorem zku{a:Addr}{vs:List Value}{ns:List Int}{n:Nat}{P:PySem.Fin->Shared->Prop}(ho:s.heap.get? a=some (seqObj "list" vs.toArray n))(hI:IntsAre vs ns)(hz:vs.length<=sizeLine)
  (h: ∀(out:Array Value) (ns':List Int),IntsAre out.toList ns'->ns'.Perm ns->ns'.Pairwise (· <= ·)->P (.done (.ret .none)) {s with heap:=sortedHeap s.heap a vs out}):wpAny (model prog w) A (Builtin.«list.sort» ⟨[.ref a], []⟩) P E s:=by
 by_cases h2:vs.length<64
 ·exact list_sort_tree ho hI h2 h
 obtain⟨v₁,v₂,rest,rfl⟩: ∃v₁ v₂ rest,vs=v₁::v₂::rest:=by
  match vs,h2 with
  | [],q=>exact absurd (Jy Nat.zero_lt_one 'd') q
  | [_],q=>exact absurd (show (1:Nat)<64 by decide) q
  |v₁::v₂::rest,_=>exact⟨v₁,v₂,rest,rfl⟩
 generalize hvs:v₁::v₂::rest=vs at*;have kk:keyKind' vs.toArray=pure oneType':=by rw[<-hvs] at hI ⊢;exact keyKind_ints hI
 obtain⟨e1,g1⟩: ∃e1,(s.heap.update a (Obj.mapSeq λ_=>(#[]:Array Value))).get? a=some (seqObj "list" #[] e1):=⟨_,get?_update_seq ho λ_=> #[]⟩
 obtain⟨h3,hh3⟩: ∃h3,h3=((s.heap.update a (Obj.mapSeq λ_=>(#[]:Array Value))).push (seqObj "tuple" vs.toArray 0)).push (seqObj "list" #[] 0):=⟨_,rfl⟩
 have g3:h3.get? a=some (seqObj "list" #[] e1):=by rw[hh3];exact Qa _ (Qa _ g1)
 rw[list_sort_plain];refine JW (listItems_at ho rfl (JW (listUpdate_at ho rfl ?_ (by rw[Jn];exact hz) (Jv _))));refine JW (seqEpoch_at g1 rfl (JW (wpAny_newTuple ?_ (by show vs.length<=_;exact hz))));refine JW (wpAny_newList (wpAny_holding ?_) (Jv _));show wpAny (model prog w) A _ P E {s with heap:=((s.heap.update a (Obj.mapSeq λ_=> #[])).push (seqObj "tuple" vs.toArray 0)).push (seqObj "list" #[] 0)};rw[<-hh3];dsimp only;have n2: ¬vs.toArray.size<2:=by rw[Jn];omega
 rw[Jf n2,Jf n2,kk];refine JW (JX ?_);refine JW (wpAny_mono (Tm.runs (a₀:=pairsOf vs) (s:={s with heap:=h3}) (st:=SortSt.mk' oneType' (vs.toArray.zip vs.toArray) #[] 7 none) (Q:=λ_ st'=>Tm.TB (pairsOf vs) st'/\SortedTo (arrOf st') (pairsOf vs).size) hI.intKeys ⟨Array.Perm.refl _,rfl,rfl⟩ rfl (by rw[pairsOf_size];omega) λst' b1 b2=>⟨b1,b2⟩) (λr s' hr=> ?_) λ_ _ e=>e);obtain⟨⟨⟩,st'⟩:=r;obtain⟨rfl,hB,hs⟩:=hr;dsimp only;obtain⟨ns',o1,o2,o3⟩:=sorted_out hI hB.pm hs;refine JW (seqEpoch_at g3 rfl (JW (listUpdate_at g3 rfl ?_ (Jv _) (by rw[Array.size_map,hB.pm.size_eq,pairsOf_size];exact Nat.le_succ_of_le hz))));rw[hB.fl];simp only[bne_self_eq_false,Js,if_false];refine JX ?_
 have:=h _ ns' o1 o2 o3;unfold sortedHeap at this;rw[<-hh3] at this;exact this
theorem sorted_by{v:Value}{Q:Value->Shared->Prop}(h:wpAny (model prog w) A.in1 (collect v) (λvs s1=>vs.length<=sizeLine/\ ∃ns,IntsAre vs ns/\ ∀(out:Array Value) (ns':List Int),IntsAre out.toList ns'->ns'.Perm ns->ns'.Pairwise (· <= ·)->Q (.ref s1.heap.objs.size) {s1 with heap:=sortedHeap (s1.heap.push (seqObj "list" vs.toArray 0)) s1.heap.objs.size vs out}) E s):
  wpAny (model prog w) A (call (.builtin "sorted") [v]) Q E s:=by
 refine Calls.call_function_entry kind_sorted plain_sorted entry_sorted (args_sorted1 _) ?_;unfold Builtin.«sorted»;refine JW (m:=checkCount "sorted" 1 1 _) (JX (JW ?_));refine wpAny_mono h (λvs s1 ⟨hz,ns,hI,q⟩=> ?_) λ_ _ e=>e;have g2:(s1.heap.push (seqObj "list" vs.toArray 0)).get? s1.heap.objs.size=some (seqObj "list" vs.toArray 0):=Qc _ rfl;refine JW (wpAny_newList (JW (wpAny_holding (wpAny_call_entry slot_list_sort ⟨_,g2,rfl⟩ entry_list_sort (zku (s:={s1 with heap:=s1.heap.push (seqObj "list" vs.toArray 0)}) g2 hI hz λout ns' a1 a2 a3=>⟨_,rfl,JX ⟨_,rfl,q out ns' a1 a2 a3⟩⟩) (args_list_sort _)))) (by exact hz))
end
end L2.Se
namespace L2
open PySem PySem.Spec PyProof.Rows
variable{a:Addr}{x:Str}{X:Cx}{as:List Addr}{ds:List D}{n i:Nat}{pins:List (Addr×Obj)}{σ:St}{H:Hp}{s:Shared}{K:Fg}{w:World}{c:Expr}{g:Int->Int->V}
section
variable {X:Cx} {pins:List (Addr×Obj)} {σ:St} {H:Hp} {s:Shared}
theorem Inv.laidD{h':Heap}{t':Nat}{d:Drawn}{o:HO}(I:Inv X pins σ H s)(k: ∀b o,s.heap.get? b=some o->h'.get? b=some o)(hp:s.heap.objs.size<=a)(new:yy X.prog X.w (upd H a o) h' a o):Inv X pins σ (upd H a o) {s with heap:=h',toks:=t',drawn:=d}:=by
 have hn:=I.hok.fresh hp;refine I.step (g':=s.gens) (d':=d) (ch:= []) (λb hb=>(nomatch hb)) (λb o _ _ hc e _=>k b o e) (λb o _ _ hc e _=>⟨o.slots,k b o e⟩) (λb u _ e n=>by rw[zu (JK (Jy (Qb e) hp))];exact n)
  (λb o hc e=>⟨o,k b o e⟩) (λb xs e=>by rw[zu (qa e hn)];exact e) (λb o u e=>by rw[zu (qa e hn)];exact e) (λb ps e=>⟨#[],by rw[zu (qa e hn),e];simp⟩) (λm hm=> ?_) (λb u e=> ?_) I.bare
 ·obtain⟨o,es,ep,ho,r⟩:=hm;exact⟨o,es,ep,k _ o ho,r⟩
 ·by_cases hb:b=a
  ·subst hb;rw[zN] at e;cases e;exact new
  ·rw[zu hb] at e;exact(I.hok b u e).stay (λc v _ q=>k c v q) (λc q=>by rw[zu (qa q hn)];exact q) λc xs q=>by rw[zu (qa q hn)];exact q
end
def vD(zs:List Int):List Int:=Se.metOf (λi=>zs.getD i 0) zs.length
theorem zl4{ks:List Int}{k:Int}(h:ks.Nodup):(Se.dd ks k).Nodup:=by
 unfold Se.dd;split
 ·exact h
 ·rename_i n;exact List.nodup_append.mpr ⟨h,List.pairwise_singleton _ _,λa ha b hb e=>by rw[Jm.mp hb] at e;rw[e] at ha;exact n ha⟩
theorem zpD{ks:List Int}{k x:Int}:x∈Se.dd ks k↔x∈ks\/x=k:=by
 unfold Se.dd;split
 ·rename_i n;exact⟨.inl,λh=>h.elim id λe=>e ▸ n⟩
 ·rw[Jr,Jm]
theorem zgn(val:Nat->Int): ∀n,(Se.metOf val n).Nodup
 |0=>List.Pairwise.nil
 |n+1=>by rw[Se.met_succ];exact zl4 (zgn val n)
theorem zjF{val:Nat->Int}{x:Int}: ∀{n},x∈Se.metOf val n↔ ∃i,i<n/\val i=x
 |0=>⟨(λh=>nomatch h),λ⟨i,h,_⟩=>absurd h (Nat.not_lt_zero i)⟩
 |n+1=>by
  rw[Se.met_succ,zpD,zjF];refine⟨λh=> ?_,λ⟨i,h,e⟩=> ?_⟩
  ·rcases h with⟨i,h,e⟩|e
   ·exact⟨i,'o',e⟩
   ·exact⟨n,'o',e.symm⟩
  ·by_cases z:i=n
   ·rw[z] at e;exact .inr e.symm
   ·exact .inl ⟨i,'o',e⟩
theorem zfq(zs:List Int):(vD zs).Nodup:=zgn _ _
theorem zhX{zs:List Int}{x:Int}:x∈vD zs↔x∈zs:=by
 unfold vD;rw[zjF];refine⟨λ⟨i,h,e⟩=> ?_,λh=> ?_⟩
 ·rw[Jo,Jb h] at e;rw[<-e];exact List.getElem_mem h
 ·obtain⟨i,hi⟩:=List.mem_iff_getElem?.mp h;exact⟨i,(Jc.mp hi).1,by rw[Jo,hi];rfl⟩
theorem zpE{h:Heap}{vs:List Value}{out:Array Value}{b:Addr}{u:Obj}(e:h.get? b=some u):(sortedHeap (h.push (seqObj "list" vs.toArray 0)) h.objs.size vs out).get? b=some u:=by
 have ne:h.objs.size≠b:=Nat.ne_of_gt (Qb e);unfold sortedHeap;rw[Qd _ _ ne];refine Qa _ (Qa _ ?_);rw[Qd _ _ ne];exact Qa _ e
theorem zrg{h:Heap}{vs:List Value}{out:Array Value}: ∃n,(sortedHeap (h.push (seqObj "list" vs.toArray 0)) h.objs.size vs out).get? h.objs.size=some (seqObj "list" out n):=by
 have g:(h.push (seqObj "list" vs.toArray 0)).get? h.objs.size=some (seqObj "list" vs.toArray 0):=Qc _ rfl;obtain⟨e1,g1⟩: ∃e1,((h.push (seqObj "list" vs.toArray 0)).update h.objs.size (Obj.mapSeq λ_=>(#[]:Array Value))).get? h.objs.size=some (seqObj "list" #[] e1):=⟨_,get?_update_seq g λ_=> #[]⟩
 exact⟨_,get?_update_seq (Qa _ (Qa _ g1)) λ_=>out⟩
theorem zl5:bootBuiltins "set"=some (.type "set"):=by decide+kernel
def setO(w:World)(q:Addr)(ks:List Int):HO:= .ext (Se.SI q (Se.ledOf w) ks)
theorem zkw(hc:X.calm=true):yM X (.type "set") (λxs H Q=> ∃(p:Addr) (zs:List Int),xs= [.ref p]/\SqL X.K H p (zs.map V.int)/\zs.length<=1000/\ ∀q H',H q=none->zh H H'->H' q=some (setO X.w q (vD zs))->Q (.ref q) H'):=by
 intro pins s σ H xs us Q I r h;obtain⟨p,zs,rfl,hq,hz,q⟩:=h;obtain⟨u,rfl,ru⟩:=qS r;obtain rfl:u=Value.ref p:=ru;obtain⟨its,rv,pl,_⟩:=I.list hq;have hl:zs.length=its.length:=by rw[<-rv.length,Ja]
 refine Se.set_list (I.ok.hd hc) pl.isList (by simpa using zc2 rv) (by rw[Jn,<-hl];unfold scanBound;omega) λh' tk si k=> ?_;have hf:H s.heap.objs.size=none:=I.hok.fresh (Je _);rw[show its.toArray.size=zs.length by rw[Jn,hl]] at si;refine⟨.ref s.heap.objs.size,upd H s.heap.objs.size (setO X.w s.heap.objs.size (vD zs)),I.laid (t':=tk) (λb u e=>k b u (Qb e) e) (Je _) ⟨si,?_,λh1 h2 a b=>a.at b⟩,rfl,q _ _ hf (xL hf _) zN⟩;obtain⟨es,ep,t,ho,_⟩:=si.ex;exact⟨_,ho⟩
theorem zg5(hc:X.calm=true):yM X (.builtin "sorted") (λxs H Q=> ∃(p:Addr) (ks:List Int),xs= [.ref p]/\H p=some (setO X.w p ks)/\ks.length<=1000/\ ∀ws:List Int,ws.Perm ks->ws.Pairwise (· <= ·)->New H (.lst (ws.map V.int)) Q):=by
 intro pins s σ H xs us Q I r h;obtain⟨p,ks,rfl,hp,hz,q⟩:=h;obtain⟨u,rfl,ru⟩:=qS r;obtain rfl:u=Value.ref p:=ru;have si:Se.SI p (Se.ledOf X.w) ks s.heap:=(I.hok _ _ hp).1;refine Se.sorted_by (Se.collect_set (show X.A.in1.handled=none from I.ok.hd hc) si λvs ns h' d tk iv pm le k=>⟨?_,ns,iv,λout ns' a1 a2 a3=> ?_⟩)
 ·have:vs.length=ns.length:=IntsAre.length iv;rw[this,pm.length_eq];exact qX hz
 have hf:H h'.objs.size=none:=I.hok.fresh le;have ol:ns'.length<=sizeLine:=by rw[a2.length_eq,pm.length_eq];exact qX hz
 refine⟨.ref h'.objs.size,upd H h'.objs.size (.lst (ns'.map V.int)),I.laidD (t':=tk) (d:=d) (λb u e=> ?_) le ?_,rfl,(q ns' (a2.trans pm) a3).at hf⟩
 ·exact zpE (k b u e)
 ·obtain⟨n,at_⟩:=zrg (h:=h') (vs:=vs) (out:=out);exact⟨by rw[Ja];exact ol,out.toList,n,zc3 a1,by rw[Array.toArray_toList];exact at_⟩
theorem zfr: ∀{as:List Addr} {its:List Value},zw (as.map V.ref) its->its=as.map Value.ref
 | [],_,h=>by cases h;rfl
 |a::as,_,h=>by
  cases h with
  |cons r t=>
   rw[zfr t];cases r;rfl
def zrQ(K:Fg)(neg:Bool):R2:=λx y H Q=> ∃(p:Addr) (as:List Addr) (n:Nat) (ds:List D) (d:D),y= .ref p/\SqL K H p (as.map V.ref)/\all2 (Dp K H n) ds (as.map V.ref)/\Dp K H n d x/\n<=50/\(∀e∈ds,yJ n e d)/\Q (.bl (if neg then !(ds.any λe=>eqb n e d) else ds.any λe=>eqb n e d)) H
section
variable {X:Cx}
def inF(as:List Addr)(ds:List D)(n:Nat)(d:D):Value->Bool
 | .ref a=>(List.range as.length).any λi=>decide (as[i]? =some a) && eqb n (ds.getD i .non) d
 |_=>false
theorem ziR{d:D}(hu: ∀i j:Nat,i<as.length->as[j]? =as[i]? ->ds.getD j .non=ds.getD i .non)(e:as[i]? =some a):inF as ds n d (.ref a)=eqb n (ds.getD i .non) d:=by
 have hi:=(Jc.mp e).1;show ((List.range as.length).any λi=>decide (as[i]? =some a) && eqb n (ds.getD i .non) d)=_;cases hb:eqb n (ds.getD i .non) d with
 |true=>exact List.any_eq_true.mpr ⟨i,List.mem_range.mpr hi,by rw[e,hb];simp⟩
 |false=>
  refine List.any_eq_false.mpr λj hj=> ?_;by_cases z:as[j]? =some a
  ·rw[hu i j hi (z.trans e.symm),hb];simp
  ·simp [z]
theorem znY{d:D}(hl:ds.length=as.length)(hu: ∀i j:Nat,i<as.length->as[j]? =as[i]? ->ds.getD j .non=ds.getD i .non):(as.map Value.ref).any (inF as ds n d)=ds.any λe=>eqb n e d:=by
 rw[Bool.eq_iff_iff,List.any_eq_true,List.any_eq_true];refine⟨λ⟨v,hv,q⟩=> ?_,λ⟨e,he,q⟩=> ?_⟩
 ·obtain⟨a,ha,rfl⟩:=Jw.mp hv;obtain⟨i,hi⟩:=List.mem_iff_getElem?.mp ha;rw[ziR hu hi] at q;have hi':i<ds.length:=by rw[hl];exact(Jc.mp hi).1
  rw[Jo,Jb hi'] at q;exact⟨_,List.getElem_mem hi',q⟩
 ·obtain⟨i,hi⟩:=List.mem_iff_getElem?.mp he;have hi':i<as.length:=by rw[<-hl];exact(Jc.mp hi).1
  refine⟨.ref as[i],Jw.mpr ⟨_,List.getElem_mem hi',rfl⟩,?_⟩;rw[ziR hu (Jb hi'),Jo,hi];exact q
theorem zpF(I:Inv X pins σ H s){k:Nat}(hr:Room k X.A){d:D}{x:V}{v:Value}(h2:all2 (Dp X.K H n) ds (as.map V.ref))(hd:Dp X.K H n d x)(hn:n<=50)(hc: ∀e∈ds,yJ n e d)(rx:zt x v)(hu: ∀i j:Nat,i<as.length->as[j]? =as[i]? ->ds.getD j .non=ds.getD i .non):
  ∀y,y∈(as.map Value.ref).toArray->SeqAt.EqAt X.A.in1 s y v (inF as ds n d y):=λy hy=>by
 have hy':y∈as.map Value.ref:=by simpa using hy
 obtain⟨a,ha,rfl⟩:=Jw.mp hy';obtain⟨i,hi⟩:=List.mem_iff_getElem?.mp ha;have hl:=qN h2;rw[Ja] at hl;have hi':i<ds.length:=by rw[hl];exact(Jc.mp hi).1
 have e1:ds[i]? =some ds[i]:=Jb hi';rw[ziR hu hi,Jo,e1];have hu':=hr.units;exact kY (v:=V.ref a) I (hc _ (List.getElem_mem hi')) (vy h2 e1 (by rw[Jh,hi];rfl)) hd rfl rx (by show X.A.units+1+n<cLine;omega)
theorem zpG(I:Inv X pins σ H s): ∀{n:Nat} {d e:D} {v:V},Dp X.K H n d v->Dp X.K H n e v->d=e:=by
 have al: ∀{g:D->V->Prop},(∀d e v,g d v->g e v->d=e)-> ∀{ds es:List D} {xs:List V},all2 g ds xs->all2 g es xs->ds=es:=by
  intro g hg ds;induction ds with
  |nil=>
   intro es xs h1 h2;cases xs with
   |nil=>cases es with
    |nil=>rfl
    |cons=>exact h2.elim
   |cons=>exact h1.elim
  |cons d r ih=>
   intro es xs h1 h2;cases xs with
   |nil=>exact h1.elim
   |cons x t=>cases es with
    |nil=>exact h2.elim
    |cons e r'=>rw[hg d e x h1.1 h2.1,ih h1.2 h2.2]
 have tl: ∀{a:Addr} {xs ys:List V},SqT X.K H a xs->SqL X.K H a ys->False:=λh1 h2=>by
  obtain⟨its,_,⟨o,e,c,_⟩,_⟩:=I.tuple h1;obtain⟨its',_,⟨o',n',e',c',_⟩,_⟩:=I.list h2;rw[e] at e';cases e';rw[c] at c';exact absurd c' 'd'
 intro n;induction n with
 |zero=>
  intro d e v h1 h2;cases d<;>cases e<;>simp only[Dp] at h1 h2<;>(try subst h1)<;>simp_all [ww]
 |succ n ih=>
  intro d e v h1 h2;cases d with
  |tup ds=>
   simp only[Dp] at h1;obtain⟨a,xs,rfl,hs,ha⟩:=h1;cases e with
   |tup es=>
    simp only[Dp] at h2;obtain⟨b,ys,eb,hs2,ha2⟩:=h2;cases eb;rw[I.tuple_inj hs2 hs] at ha2;rw[al (g:=Dp X.K H n) (λd e v=>ih) ha ha2]
   |lst es=>
    simp only[Dp] at h2;obtain⟨b,ys,eb,hs2,ha2⟩:=h2;cases eb;exact(tl hs hs2).elim
   |_=>simp only[Dp] at h2;cases h2
  |lst ds=>
   simp only[Dp] at h1;obtain⟨a,xs,rfl,hs,ha⟩:=h1;cases e with
   |lst es=>
    simp only[Dp] at h2;obtain⟨b,ys,eb,hs2,ha2⟩:=h2;cases eb;rw[I.list_inj hs2 hs] at ha2;rw[al (g:=Dp X.K H n) (λd e v=>ih) ha ha2]
   |tup es=>
    simp only[Dp] at h2;obtain⟨b,ys,eb,hs2,ha2⟩:=h2;cases eb;exact(tl hs2 hs).elim
   |_=>simp only[Dp] at h2;cases h2
  |_=>
   simp only[Dp] at h1;subst h1;cases e<;>simp only[Dp] at h2<;>simp_all [ww]
theorem zrh(I:Inv X pins σ H s)(h2:all2 (Dp X.K H n) ds (as.map V.ref)): ∀i j:Nat,i<as.length->as[j]? =as[i]? ->ds.getD j .non=ds.getD i .non:=λi j hi e=>by
 have hl:=qN h2;rw[Ja] at hl;have hi':as[i]? =some as[i]:=Jb hi;have hj:=(Jc.mp (e.trans hi')).1;have e1:ds[i]? =some ds[i]:=Jb 'o';have e2:ds[j]? =some ds[j]:=Jb 'o';rw[Jo,Jo,e1,e2];exact zpG I (v:= .ref as[i]) (vy h2 e2 (by rw[Jh,e,hi'];rfl)) (vy h2 e1 (by rw[Jh,hi'];rfl))
theorem zkx{k:Nat}(hr:Room k X.A):OpR X (compareOp .NotIn) (zrQ X.K true):=by
 intro pins s σ H x y v u Q I rx ry h;obtain⟨p,as,n,ds,d,rfl,hq,h2,hd,hn,hc,q⟩:=h;have hu:=zrh I h2;cases ry;obtain⟨its,r,pl,hz⟩:=I.list hq;obtain rfl:=zfr r;have hl:=qN h2;rw[Ja] at hl;refine SeqAt.notIn_listAt (inF as ds n d) pl.isList (zpF I hr h2 hd hn hc rx hu) ⟨.bl _,H,I,rfl,?_⟩;rw[show (as.map Value.ref).toArray.any (inF as ds n d)=(as.map Value.ref).any (inF as ds n d) by simp,znY hl hu];exact q
end
theorem zky{l:Addr}{H1:Hp}{xs:List V}{σ0:St}{j k:Nat}{te:TE}{Q:VK}(Pv:Nat->List V->Prop)(hq:SqL K H1 a xs)(hl:H1 l=none)(hz:xs.length<sizeLine)(hsub: ∀v w:V,Sub σ0 ((σ0.set j (some v)).set k (some w)))(h0:Pv 0 [])
  (hs: ∀i x ys H (K1:VK),xs[i]? =some x->zh H1 H->Pv i ys->(∀v H4,zh H H4->Pv (i+1) (ys++ [v])->K1 v H4)->te ((σ0.set j (some (.int i))).set k (some x)) H K1)
  (hd: ∀ys H,zh H1 H->Pv xs.length ys->H l=some (.lst ys)->Q (.ref l) H):vx (Ite K a) σ0 (j8 K 2 (wN (xE j) (wN (xE k) vX))) uR te l Q H1:=by
 refine⟨λi m ys H=>i<=xs.length/\m=xs.length - i/\zh H1 H/\Pv i ys/\ys.length<=i/\H l=some (.lst ys),⟨xs.length,Jv _,'o',xL hl _,h0,Je _,zN⟩,?_⟩;rintro i m ys H ⟨hi,rfl,sm,pv,hx,e⟩;refine⟨e,Nat.lt_of_le_of_lt hx 'o',?_⟩;by_cases hlt:i<xs.length
 ·refine .inr ⟨⟨xs,xs[i],sm.seq hq,by simp [hlt]⟩,λv H' yl=> ?_⟩;obtain⟨pp,rfl,_,s2,x,ep,ex⟩:=yl;refine⟨pp, [.int i,x],rfl,SqT.of ep,rfl, .int i, [x],rfl,x, [],rfl,rfl,hsub _ _,?_⟩;refine hs i x ys H' _ (ex xs (sm.seq hq)) (sm.trans s2) pv λv H4 s4 p4=> ?_;exact⟨s4 _ _ (s2 _ _ e),xs.length - (i+1),'o',hlt,rfl,uc ((sm.trans s2).trans s4) hl,p4,by rw[Jj];simp only[Jp,List.length_nil];omega,zN⟩
 ·obtain rfl:i=xs.length:=by omega
  exact .inl ⟨⟨xs,sm.seq hq,Je _⟩,hd ys H sm pv e⟩
theorem zfs(e:X.w=w)(eK:X.K=K)(hc:X.calm=true):yM X (.type "set") (λxs H Q=> ∃(p:Addr) (zs:List Int),xs= [.ref p]/\SqL K H p (zs.map V.int)/\zs.length<=1000/\ ∀q H',H q=none->zh H H'->H' q=some (setO w q (vD zs))->Q (.ref q) H'):=by
 subst e eK;exact zkw hc
theorem zdI(e:X.w=w)(hc:X.calm=true):yM X (.builtin "sorted") (λxs H Q=> ∃(p:Addr) (ks:List Int),xs= [.ref p]/\H p=some (setO w p ks)/\ks.length<=1000/\ ∀ws:List Int,ws.Perm ks->ws.Pairwise (· <= ·)->New H (.lst (ws.map V.int)) Q):=by
 subst e;exact zg5 hc
theorem zjG: ∀{xs:List V} {us:List Value},xs.length=us.length->(∀(i:Nat) x u,xs[i]? =some x->us[i]? =some u->zt x u)->zw xs us
 | [], [],_,_=> .nil
 |x::r,u::t,hl,h=> .cons (h 0 x u rfl rfl) (zjG (by simpa using hl) λi y v hy hv=>h (i+1) y v (by simpa using hy) (by simpa using hv))
 | [],_::_,hl,_=>by cases hl
 |_::_, [],hl,_=>by cases hl
theorem zpH{kvs:List (Key×V)}{vs:List (Key×Value)}(h:KV kvs vs): ∀{i:Nat} {kv:Key×V} {k:Key} {y:Value},kvs[i]? =some kv->vs[i]? =some (k,y)->kv.1=k:=by
 unfold KV at h;induction h with
 |nil=>intro i kv k y h1;rw[List.getElem?_nil] at h1;cases h1
 |cons r t ih=>
  intro i kv k y h1 h2;cases i with
  |zero=>cases h1;cases h2;exact r.1
  |succ i=>exact ih (i:=i) (by simpa using h1) (by simpa using h2)
theorem zdr(hc:X.calm=true):yM X (.type "list") (λxs H Q=> ∃d kvs,xs= [.ref d]/\H d=some (.dK kvs)/\New H (.lst (kvs.map λkv=>kV kv.1)) Q):=by
 intro pins s σ H xs us Q I r h;obtain⟨d,kvs,rfl,e,q⟩:=h;obtain⟨u,rfl,ru⟩:=qS r;obtain rfl:u=Value.ref d:=ru;obtain⟨z,hd,vs,rel,dd⟩:=uZ I.hok e;obtain⟨ep,hat⟩:=dd.dictAt;refine PySem.W.kdl_call (PySem.W.kdl_dict (knd:=yK X.prog X.w) (kvs:=vs) (ep:=ep) hd) (I.ok.hd hc) hat (by rw[<-rel.length];exact z) λh' tk acc' c' hk hS hacc=> ?_;have hl:(kvs.map λkv=>kV kv.1).length=acc'.toList.length:=by rw[Ja,Jx];exact(show kvs.length=vs.length from rel.length).trans hacc.1.symm
 have hv:zw (kvs.map λkv=>kV kv.1) acc'.toList:=zjG hl λi x u hx hu=>by
  rw[Jh] at hx;obtain⟨kv,hkv,rfl⟩:=Jk.mp hx;obtain⟨k,y,hy,ik⟩:=hacc.2 i u (by rw[<-JG];exact hu);have e1:kv.1=k:=zpH rel hkv hy;subst e1;rcases xq ik with⟨j,t,ej,rfl⟩|⟨x,t,ej,rfl⟩
  ·rw[ej];exact⟨t,rfl⟩
  ·rw[ej];exact⟨t,rfl⟩
 exact⟨.ref s.heap.objs.size,_,I.laid (t':=tk) hk (Je _) (show yy X.prog X.w _ h' _ (.lst (kvs.map λkv=>kV kv.1)) from⟨by rw[Ja];exact z,acc'.toList,c',hv,by rw[Array.toArray_toList];exact hS⟩),rfl,q.at (I.hok.fresh (Je _))⟩
theorem ziS:yM X (.builtin "len") (λxs H Q=> ∃a kvs,xs= [V.ref a]/\H a=some (.dK kvs)/\Q (.int kvs.length) H):=by
 intro pins s σ H xs us Q I r h;obtain⟨a,kvs,rfl,e,q⟩:=h;obtain⟨u,rfl,ru⟩:=qS r;obtain rfl:u=Value.ref a:=ru;exact zq5 I (Rd.of e) λt s' I'=>⟨.int _,H,I',⟨t,rfl⟩,q⟩
theorem xZ:vo (CXE X.prog X.w) X (λ_ _ _=>False):=λ_ _ _ _ _ _ _ h=>by
 obtain⟨_,_,_,_,_,z⟩:=h;exact z.elim
theorem zkz(hc:X.calm=true):yM X (.builtin "sum") (λxs H Q=> ∃(p:Addr) (ns:List Int),xs= [.ref p]/\SqT X.K H p (ns.map V.int)/\Q (.int ns.sum) H):=by
 intro pins s σ H xs us Q I r h;obtain⟨p,ns,rfl,hq,q⟩:=h;obtain⟨u,rfl,ru⟩:=qS r;obtain rfl:u=Value.ref p:=ru;obtain⟨its,rv,pl,hz⟩:=I.tuple hq;have hl:ns.length=its.length:=by rw[<-rv.length,Ja]
 obtain⟨o0,e0,_,_⟩:=id pl;have ne:p≠s.heap.objs.size:=JK (Qb e0);refine call_sum_walkG (wpAny_pyIter_tuple pl ?_);refine⟨s.heap.objs.size,_,_,_,_,_,λi=>ns.getD i 0,rfl,Walks.tuple (show X.A.in1.handled=none from I.ok.hd hc) s.heap.objs.size p ne its.toArray,⟨⟨_,Qc _ rfl,rfl,rfl⟩,?_⟩,?_,?_,λh' tk t' hk=> ?_⟩
 ·exact Heap.IsTuple.at pl λo e=>Qa _ e
 ·intro b hb;have hb':b=s.heap.objs.size\/b=p:=by simpa using hb
  show b<(s.heap.push _).objs.size;rw[Heap.size_push];rcases hb' with rfl|rfl
  ·exact Nat.lt_succ_self _
  ·exact Nat.lt_succ_of_lt (Qb e0)
 ·intro i v hv;have hi:its[i]? =some v:=by simpa using hv
  obtain⟨hlt,_⟩:=Jc.mp hi;have hb:(ns.map V.int)[i]? =some (.int ns[i]):=by rw[Jh,Jb 'o'];rfl
  obtain⟨u',e',t,rfl⟩:=rv.get hb;rw[hi] at e';cases e';have z:ns.getD i 0=ns[i]:=by rw[Jo,Jb 'o'];rfl
  exact⟨t,by show Value.int ns[i] t=Value.int (ns.getD i 0) t;rw[z]⟩
 ·have e:PySem.preSum (λi=>ns.getD i 0) its.toArray.size=ns.sum:=by rw[Jn,<-hl,kU ns _ (Je _),JC]
  rw[e];refine⟨.int _,H,I.kept (t':=tk) λb o hb=>hk b o (λz=> ?_) (Qa _ hb),⟨_,rfl⟩,q⟩;have z':b=s.heap.objs.size:=by simpa using z
  exact absurd (z' ▸ Qb hb) (Nat.lt_irrefl _)
def vc(σ:St)(i:Nat)(Q:V->Prop):Prop:=match σ[i]? with|some (some v)=>Q v|_=>False
def qZ(x:V)(Q:Int->Prop):Prop:=match x with| .int i=>Q i|_=>False
def blP(x:V)(Q:Bool->Prop):Prop:=match x with| .bl c=>Q c|_=>False
section
variable {σ:St} {i:Nat} {Q:V->Prop} {v x:V} {o:Option V}
theorem zkA:vc (some v::σ) 0 Q=Q v:=rfl
theorem zkB:vc (o::σ) (i+1) Q=vc σ i Q:=rfl
theorem jp:vc σ i Q= ∃v,σ[i]? =some (some v)/\Q v:=by
 unfold vc;cases h:σ[i]? with
 |none=>simp
 |some o=>cases o<;>simp
theorem zhY{i:Int}{Q:Int->Prop}:qZ (.int i) Q=Q i:=rfl
theorem wI{Q:Int->Prop}:qZ x Q= ∃i,x= .int i/\Q i:=by cases x<;>simp [qZ]
theorem zl6{c:Bool}{Q:Bool->Prop}:blP (.bl c) Q=Q c:=rfl
theorem jq{Q:Bool->Prop}:blP x Q= ∃c,x= .bl c/\Q c:=by cases x<;>simp [blP]
end
theorem zri{α β:Type}{f:α->β}{a:α}{l:List α}:List.map f (a::l)=f a::List.map f l:=rfl
theorem zrj{α β:Type}{f:α->β}:List.map f []= []:=rfl
def vE(i:Nat):TE:=λσ H Q=>vc σ i λv=>Q v H
def rJ(C:Int->Int->Prop)(g:Int->Int->V):R2:=λx y H Q=>qZ x λi=>qZ y λj=>C i j/\Q (g i j) H
def rJ0(g:Int->Int->V):R2:=λx y H Q=>qZ x λi=>qZ y λj=>Q (g i j) H
def rUJ(g:Int->V):V->Hp->VK->Prop:=λx H Q=>qZ x λi=>Q (g i) H
def vd(t:TE):TT:=λσ H Q=>t σ H λx H'=>blP x λk=>Q k H'
def zl7(ta tb:TE):TE:=λσ H Q=>ta σ H λx H1=>blP x λc=>if c=true then tb σ H1 Q else Q (.bl false) H1
def zoA(ta tb:TE):TE:=λσ H Q=>ta σ H λx H1=>blP x λc=>if c=true then Q (.bl true) H1 else tb σ H1 Q
def zoB(i:Nat)(te:TE)(ti:TIp):TS:=λD σ H=>vc σ i λx=>te σ H λy H1=>ti x y H1 λz H2=>D.nx (σ.set i (some z)) H2
def ipJ(f:Int->Int->Int):TIp:=λx y H Q=>qZ x λi=>qZ y λj=>Q (.int (f i j)) H
def zl8(t:TE):TO:=λσ H Q=>t σ H λx H1=>qZ x λi=>Q (some i) H1
theorem zl9:vE i=jZ i:=by funext σ H Q;exact jp
theorem zrk{C:Int->Int->Prop}:rJ C g=rI C g:=by
 funext x y H Q;unfold rJ rI;simp only[wI,exists_and_left]
theorem zpI:rJ0 g=rI0 g:=by
 funext x y H Q;unfold rJ0 rI0;simp only[wI,exists_and_left]
theorem zpJ{g:Int->V}:rUJ g=rU g:=by funext x H Q;exact wI
theorem zgp{t:TE}:vd t=xS t:=by funext σ H Q;unfold vd xS;simp only[jq]
theorem ziU{t:TE}:vd t=tB t:=zgp
theorem zma{f:Int->Int->Int}:ipJ f=ipI f:=by
 funext x y H Q;unfold ipJ ipI;simp only[wI,exists_and_left]
section
variable {X:Cx} {a b c e:Expr} {ta tb tc te:TE} {t u:TT} {pos:PySem.Pos} {rs:List Expr}
theorem pvJ(i:Nat){pos:PySem.Pos}(hN:X.N[i]? =some x:=by rfl)(hv:Vis X.env.scope x:=by first|exact Or.inl rfl|exact Or.inr (Or.inl rfl)|exact Or.inr (Or.inr rfl))(hd:(x==("__debug__":Str))=false:=by decide)
  (hcd:(x==("__classdict__":Str))=false:=by decide):PE X (.Name x pos) (vE i):=by rw[zl9];exact zkZ hN hv hd hcd
theorem OpR.j{f:Value->Value->Sem Value}{C:Int->Int->Prop}(h:OpR X f (rI C g)):OpR X f (rJ C g):=by rw[zrk];exact h
theorem OpR.j0{f:Value->Value->Sem Value}(h:OpR X f (rI0 g)):OpR X f (rJ0 g):=by rw[zpI];exact h
theorem zI:OpR X (binaryOp .Add) (rJ0 λi j=> .int (i+j)):=zoX.j0
theorem yj:OpR X (binaryOp .Sub) (rJ0 λi j=> .int (i - j)):=zoY.j0
theorem qA:OpR X (binaryOp .Mult) (rJ vn λi j=> .int (i*j)):=zoZ.j
theorem yL:OpR X (binaryOp .FloorDiv) (rJ uM λi j=> .int (i / j)):=zns.j
theorem zO:OpR X (binaryOp .Mod) (rJ (λ_ j=>0<j) λi j=> .int (i % j)):=zo0.j
theorem zg7:OpR X (binaryOp .Pow) (rJ wO λi j=> .int (i ^ j.toNat)):=zo1.j
theorem zft:OpR X (binaryOp .Mult) (rJ (λi j=>vn i j\/(Sm i/\Sm j)) λi j=> .int (i*j)):=znK.j
theorem yV:OpR X (binaryOp .FloorDiv) (rJ (λ_ j=>0<j/\Sm j) λi j=> .int (i / j)):=zlt.j
theorem ziV:OpR X (compareOp .LtE) (rJ0 λi j=> .bl (decide (i<=j))):=zor.j0
theorem zpK:OpR X (compareOp .Gt) (rJ0 λi j=> .bl (decide (j<i))):=xt.j0
theorem zpL:OpR X (compareOp .GtE) (rJ0 λi j=> .bl (decide (j<=i))):=ko.j0
theorem psJ(i:Nat){pos':PySem.Pos}(hN:X.N.Nodup)(he:PE X e te)(hi:X.N[i]? =some x:=by rfl)(hx:Loc X.env.scope x:=by exact Or.inl rfl)(hs:swapsWith e (some (.Name x pos')) pos.line X.env=pure false:=by rfl)(hf:X.fn x=true\/X.env.scope.names.lookup x=some .local:=by first|exact .inl rfl|exact .inr rfl|assumption):
  PS X (.Assign [.Name x pos'] e pos) (vY te (xE i)):=uJ hN hi hx he hs hf
theorem ixJ{r:R2}(hr:IxR X r)(ha:PE X a ta)(hb:PE X b tb)(hs:zjp b:=by exact λ_ _=>rfl):PE X (.Subscript a b pos) (tOp r ta tb):=zqV hr ha hb hs
theorem uu:UnR X (unaryOp .USub) (rUJ λi=> .int (-i)):=by rw[zpJ];exact zo2
theorem qB{op:CmpOp}{r:R2}(ho:OpR X (compareOp op) r)(ha:PE X a ta)(hb:PE X b tb)(hm:behindInMarks op b=false):PT X (.Compare a [op] [b] pos) (vd (tOp r ta tb)):=by rw[zgp];exact uN ho ha hb hm
theorem jr(h:PE X e te)(he: ∀whole,isTrue e X.env whole=(do let v<-whole;standAt e.pos;holding [v] (truthy v)):=by intro _;rfl):PT X e (vd te):=by rw[ziU];exact vW h he
theorem znZ(ha:PE X a ta)(hb:PE X (.BoolOp .And (b::rs) pos) tb):PE X (.BoolOp .And (a::b::rs) pos) (zl7 ta tb):=by
 have:=zoO ha hb;unfold zon at this;simp only[<-jq] at this;exact this
theorem zpM(ha:PE X a ta)(hb:PE X (.BoolOp .Or (b::rs) pos) tb):PE X (.BoolOp .Or (a::b::rs) pos) (zoA ta tb):=by
 have:=zqH ha hb;unfold zqG at this;simp only[<-jq] at this;exact this
theorem uv{op:Operator}{ti:TIp}{pos':PySem.Pos}(hN:X.N.Nodup)(hi:X.N[i]? =some x)(hx:Loc X.env.scope x)(he:PE X e te)(ho:PIp X op ti)(hf:X.fn x=true\/X.env.scope.names.lookup x=some .local:=by first|exact .inl rfl|exact .inr rfl|assumption):
  PS X (.AugAssign (.Name x pos') op e pos) (zoB i te ti):=by
 have:=zoT (pos:=pos) (pos':=pos') hN hi hx he ho hf;unfold zqM at this;simp only[<-jp] at this;exact this
theorem zg8:PIp X .Add (ipJ λi j=>i+j):=by rw[zma];exact zoU
theorem zjH:PIp X .Sub (ipJ λi j=>i - j):=by rw[zma];exact zoV
theorem zfu(h:PE X e te):PO X (some e) (zl8 te):=by
 have:=znx h;unfold zou at this;simp only[<-wI] at this;exact this
end
def xM(xs:List V)(P:Prop):Prop:=match xs with
 | []=>P
 | [_]=>P
 | [_,_]=>P
 | [_,_,_]=>P
 | [_,_,_,_]=>P
 | [_,_,_,_,_]=>P
 |_=>xs.length<=sizeLine/\P
def zmb(vs:List V)(Q:V->List V->Prop):Prop:=match vs with|v::r=>Q v r| []=>False
def zpN(vs:List V)(P:Prop):Prop:=match vs with| []=>P|_=>False
section
variable {P:Prop} {v a b c d e:V} {r:List V} {Q:V->List V->Prop}
theorem zpO:xM [] P=P:=rfl
theorem zpP:xM [a] P=P:=rfl
theorem zpQ:xM [a,b] P=P:=rfl
theorem zpR:xM [a,b,c] P=P:=rfl
theorem zpS:xM [a,b,c,d] P=P:=rfl
theorem zpT:xM [a,b,c,d,e] P=P:=rfl
theorem jt{xs:List V}:xM xs P=(xs.length<=sizeLine/\P):=by
 have h: ∀n,n<=5->P=(n<=sizeLine/\P):=λn hn=>by rw[slT 'o',true_and]
 match xs with
 | []=>exact h 0 'd'
 | [_]=>exact h 1 'd'
 | [_,_]=>exact h 2 'd'
 | [_,_,_]=>exact h 3 'd'
 | [_,_,_,_]=>exact h 4 'd'
 | [_,_,_,_,_]=>exact h 5 'd'
 |_::_::_::_::_::_::_=>rfl
theorem zn0:zmb (v::r) Q=Q v r:=rfl
theorem zhZ{vs:List V}:zmb vs Q= ∃v r,vs=v::r/\Q v r:=by
 cases vs with
 |nil=>exact propext ⟨λh=>h.elim,λ⟨_,_,h,_⟩=>nomatch h⟩
 |cons v r=>exact propext ⟨λh=>⟨v,r,rfl,h⟩,λ⟨_,_,h,q⟩=>by cases h;exact q⟩
theorem zpU:zpN [] P=P:=rfl
theorem zjI{vs:List V}:zpN vs P=(vs= []/\P):=by
 cases vs with
 |nil=>exact propext ⟨λh=>⟨rfl,h⟩,λh=>h.2⟩
 |cons v r=>exact propext ⟨λh=>h.elim,λh=>nomatch h.1⟩
end
def ju(t:TA):TE:=λσ H Q=>t σ H λxs H1=>xM xs (New H1 (.tup xs) Q)
def jv(t:TA):TE:=λσ H Q=>t σ H λxs H1=>xM xs (New H1 (.lst xs) Q)
def ziW(t:TG)(u:TGs):TGs:=λvs σ H Q=>zmb vs λv r=>t v σ H λσ' H'=>u r σ' H' Q
def zmc:TGs:=λvs σ H Q=>zpN vs (Q σ H)
def jw(C:Addr)(Ek:St->XK)(t:TA):TS:=λ_ σ H=>t σ H λvs H1=>xM vs (Ek σ (.ref C) none H1)
theorem zmd:ju=kZ:=by funext t σ H Q;unfold ju kZ;simp only[jt]
theorem zme:jv=k7:=by funext t σ H Q;unfold jv k7;simp only[jt]
theorem zkC:ziW=wN:=by funext t u vs σ H Q;exact zhZ
theorem zmf:zmc=vX:=by funext vs σ H Q;exact zjI
theorem ziX:jw=kS:=by funext C Ek t D σ H;unfold jw kS;simp only[jt]
section
variable {X:Cx} {e:Expr} {es:List Expr} {t:TA} {pos p:PySem.Pos} {Ek:St->XK} {C:Addr} {x:Str}
theorem zW{x1}(h:PA X es t):PE X (.Tuple es x1 pos) (ju t):=by rw[zmd];exact znM h
theorem yi(h:PA X es t):PE X (.List es pos) (jv t):=by rw[zme];exact znN h
theorem yD:PGs X [] zmc:=by rw[zmf];exact xF
theorem zD{t:TG}{u:TGs}(h1:PG X e t)(h2:PGs X es u)
  (hs:(assignEach (e::es) X.env).map (·.2)=assign e X.env::(assignEach es X.env).map (·.2):=by rfl):PGs X (e::es) (ziW t u):=by rw[zkC];exact yR h1 h2 hs
theorem wJ(L:LvR X Ek)(O:Exc X.K C)(hc:X.calm=true)(hg:Gl X x)(hm:X.mg x=some (.ref C))(ha:PA X (e::es) t)(hdb:(x==("__debug__":Str))=false:=by decide)
  (he:starEach (e::es) X.env=(false,eval e X.env)::starEach es X.env:=by rfl) (hpl:(backTo pos (starEach es X.env)).any (·.1)=false:=by rfl) {rpos:PySem.Pos}:
  PS X (.Raise (some (.Call (.Name x p) (e::es) [] pos)) none rpos) (jw C Ek t):=by rw[ziX];exact zlp L O hc hg hm ha hdb he hpl
end
abbrev TQ:=St->Hp->((p:Prop)->Decidable p->Hp->Prop)->Prop
def asT(t:TQ):TT:=λσ H Q=>t σ H λp d H'=>Q (@decide p d) H'
def PQ(X:Cx)(e:Expr)(t:TQ):Prop:=PT X e (asT t)
def tQ(t:TT):TQ:=λσ H K=>t σ H λb H'=>K (b=true) (instDecidableEqBool b true) H'
def tQN(t:TT):TQ:=λσ H K=>t σ H λb H'=>K (b=false) (instDecidableEqBool b false) H'
def jx(P:Int->Int->Prop)(d: ∀i j,Decidable (P i j))(ta tb:TE):TQ:=λσ H K=>ta σ H λx H1=>tb σ H1 λy H2=>qZ x λi=>qZ y λj=>K (P i j) (d i j) H2
def jy(t u:TQ):TQ:=λσ H K=>t σ H λp d H1=> @ite Prop p d (u σ H1 K) (K False instDecidableFalse H1)
def jz(t u:TQ):TQ:=λσ H K=>t σ H λp d H1=> @ite Prop p d (K True instDecidableTrue H1) (u σ H1 K)
def jA(c:TQ)(t u:TS):TS:=λD σ H=>c σ H λp d H1=> @ite Prop p d (t D σ H1) (u D σ H1)
def jB(c:TQ)(ta tb:TE):TE:=λσ H Q=>c σ H λp d H1=> @ite Prop p d (ta σ H1 Q) (tb σ H1 Q)
def eqK(x y:V)(K:(p:Prop)->Decidable p->Prop):Prop:=match x,y with
 | .int i, .int j=>K (i=j) (Int.instDecidableEq i j)
 | .bl i, .bl j=>K (i=j) (instDecidableEqBool i j)
 | .str i, .str j=>K (i=j) (instDecidableEqStr i j)
 | .non, .non=>K True instDecidableTrue
 | .non, .int _=>K False instDecidableFalse
 | .int _, .non=>K False instDecidableFalse
 | .non, .str _=>K False instDecidableFalse
 | .str _, .non=>K False instDecidableFalse
 |x,y=>xr x y=true/\K (x=y) (instDecidableEqV x y)
def neK(x y:V)(K:(p:Prop)->Decidable p->Prop):Prop:=match x,y with
 | .int i, .int j=>K (¬i=j) (@instDecidableNot _ (Int.instDecidableEq i j))
 | .bl i, .bl j=>K (¬i=j) (@instDecidableNot _ (instDecidableEqBool i j))
 | .str i, .str j=>K (¬i=j) (@instDecidableNot _ (instDecidableEqStr i j))
 | .non, .non=>K False instDecidableFalse
 | .non, .int _=>K True instDecidableTrue
 | .int _, .non=>K True instDecidableTrue
 | .non, .str _=>K True instDecidableTrue
 | .str _, .non=>K True instDecidableTrue
 |x,y=>xr x y=true/\K (¬x=y) (@instDecidableNot _ (instDecidableEqV x y))
def jC(ta tb:TE):TQ:=λσ H K=>ta σ H λx H1=>tb σ H1 λy H2=>eqK x y λp d=>K p d H2
def jD(ta tb:TE):TQ:=λσ H K=>ta σ H λx H1=>tb σ H1 λy H2=>neK x y λp d=>K p d H2
section
variable {A B:Prop} {K:(p:Prop)->Decidable p->Prop}
theorem zrl: @ite Prop False instDecidableFalse A B=B:=rfl
theorem zrm: @ite Prop True instDecidableTrue A B=A:=rfl
theorem zpV{i j:Int}:eqK (.int i) (.int j) K=K (i=j) (Int.instDecidableEq i j):=rfl
theorem zpW{i j:Bool}:eqK (.bl i) (.bl j) K=K (i=j) (instDecidableEqBool i j):=rfl
theorem zpX{i j:Str}:eqK (.str i) (.str j) K=K (i=j) (instDecidableEqStr i j):=rfl
theorem zpY:eqK .non .non K=K True instDecidableTrue:=rfl
theorem zpZ{j:Int}:eqK .non (.int j) K=K False instDecidableFalse:=rfl
theorem zp0{j:Int}:eqK (.int j) .non K=K False instDecidableFalse:=rfl
theorem zp1{j:Str}:eqK .non (.str j) K=K False instDecidableFalse:=rfl
theorem zp2{j:Str}:eqK (.str j) .non K=K False instDecidableFalse:=rfl
theorem zp3{i j:Int}:neK (.int i) (.int j) K=K (¬i=j) (@instDecidableNot _ (Int.instDecidableEq i j)):=rfl
theorem zp4{i j:Bool}:neK (.bl i) (.bl j) K=K (¬i=j) (@instDecidableNot _ (instDecidableEqBool i j)):=rfl
theorem zp5{i j:Str}:neK (.str i) (.str j) K=K (¬i=j) (@instDecidableNot _ (instDecidableEqStr i j)):=rfl
theorem zp6:neK .non .non K=K False instDecidableFalse:=rfl
theorem zp7{j:Int}:neK .non (.int j) K=K True instDecidableTrue:=rfl
theorem zp8{j:Int}:neK (.int j) .non K=K True instDecidableTrue:=rfl
theorem zp9{j:Str}:neK .non (.str j) K=K True instDecidableTrue:=rfl
theorem zqa{j:Str}:neK (.str j) .non K=K True instDecidableTrue:=rfl
theorem ve{p q:Prop}{d:Decidable p}{d':Decidable q}(h:p↔q):K p d=K q d':=by
 obtain rfl:p=q:=propext h;rw[Subsingleton.elim d d']
theorem zmg{x y:V}:eqK x y K=(xr x y=true/\K (x=y) (instDecidableEqV x y)):=by
 unfold eqK;split<;>first
  |rfl
  |(rw[ve (K:=K) (d':=instDecidableEqV (V.int _) (V.int _)) (by rw[V.int.injEq])];exact(propext ⟨λh=>⟨rfl,h⟩,λh=>h.2⟩))
  |(rw[ve (K:=K) (d':=instDecidableEqV (V.bl _) (V.bl _)) (by rw[V.bl.injEq])];exact(propext ⟨λh=>⟨rfl,h⟩,λh=>h.2⟩))
  |(rw[ve (K:=K) (d':=instDecidableEqV (V.str _) (V.str _)) (by rw[V.str.injEq])];exact(propext ⟨λh=>⟨rfl,h⟩,λh=>h.2⟩))
  |exact propext ⟨λh=>⟨rfl,(ve (K:=K) (by simp)).mp h⟩,λh=>(ve (K:=K) (by simp)).mp h.2⟩
theorem zmh{x y:V}:neK x y K=(xr x y=true/\K (¬x=y) (@instDecidableNot _ (instDecidableEqV x y))):=by
 unfold neK;split<;>first
  |rfl
  |exact propext ⟨λh=>⟨rfl,(ve (K:=K) (by simp)).mp h⟩,λh=>(ve (K:=K) (by simp)).mp h.2⟩
end
section
variable {X:Cx} {a b c e:Expr} {ta tb tc te:TE} {t u:TQ} {pos:PySem.Pos} {rs:List Expr}
theorem zmi(b:Bool): @decide (b=true) (instDecidableEqBool b true)=b:=by cases b<;>rfl
theorem q5{t:TT}(h:PT X e t):PQ X e (tQ t):=by
 have e1:asT (tQ t)=t:=by
  funext σ H Q;unfold asT tQ;simp only[zmi]
 unfold PQ;rw[e1];exact h
theorem zmj{t:TT}(h:PT X e t):PQ X (.UnaryOp .Not e pos) (tQN t):=by
 have e1:asT (tQN t)=j4 t:=by
  funext σ H Q;unfold asT tQN j4;have d: ∀b:Bool, @decide (b=false) (instDecidableEqBool b false)= !b:=λb=>by cases b<;>rfl
  simp only[d]
 unfold PQ;rw[e1];exact zoN h
theorem yu{op:CmpOp}{P:Int->Int->Prop}{d: ∀i j,Decidable (P i j)}(ho:OpR X (compareOp op) (rI0 λi j=> .bl (@decide (P i j) (d i j))))(ha:PE X a ta)(hb:PE X b tb)(hm:behindInMarks op b=false:=by exact yF _):PQ X (.Compare a [op] [b] pos) (jx P d ta tb):=by
 have e1:asT (jx P d ta tb)=xS (tOp (rI0 λi j=> .bl (@decide (P i j) (d i j))) ta tb):=by
  funext σ H Q;unfold asT jx xS tOp rI0;simp only[wI,exists_and_left,V.bl.injEq,exists_eq_left']
 unfold PQ;rw[e1];exact uN ho ha hb hm
theorem jE{p:Prop}{d:Decidable p}{A B:Prop}:(if @decide p d=true then A else B)= @ite Prop p d A B:=by
 cases d<;>rfl
theorem qg(ha:PE X a ta)(hb:PE X b tb)(hm:behindInMarks .Eq b=false:=by exact yF _):PQ X (.Compare a [.Eq] [b] pos) (jC ta tb):=by
 have e1:asT (jC ta tb)=xS (tOp rEq ta tb):=by
  funext σ H Q;unfold asT jC xS tOp rEq;simp only[zmg,V.bl.injEq,exists_eq_left']
 unfold PQ;rw[e1];exact uN qR ha hb hm
theorem vF(ha:PE X a ta)(hb:PE X b tb)(hm:behindInMarks .NotEq b=false:=by exact yF _):PQ X (.Compare a [.NotEq] [b] pos) (jD ta tb):=by
 have e1:asT (jD ta tb)=xS (tOp rNe ta tb):=by
  funext σ H Q;unfold asT jD xS tOp rNe;simp only[zmh,V.bl.injEq,exists_eq_left',decide_not]
 unfold PQ;rw[e1];exact uN zoq ha hb hm
theorem zn5:asT (jy t u)=j3 (asT t) (asT u):=by
 funext σ H Q;unfold asT jy j3;simp only[jE];rfl
theorem zqb:asT (jz t u)=tOr (asT t) (asT u):=by
 funext σ H Q;unfold asT jz tOr;simp only[jE];rfl
def PWQ(X:Cx)(e:Expr)(t:TQ):Prop:=PW X e (asT t)
theorem PWQ.pq(h:PWQ X e t):PQ X e t:=PW.pt h
theorem wK(ha:PQ X a t):PWQ X (.BoolOp .And [a] pos) t:=znp ha
theorem wc(ha:PQ X a t):PWQ X (.BoolOp .Or [a] pos) t:=zk1 ha
theorem wL(ha:PQ X a t)(hb:PWQ X (.BoolOp .And (b::rs) pos) u):PWQ X (.BoolOp .And (a::b::rs) pos) (jy t u):=by unfold PWQ;rw[zn5];exact zoM ha hb
theorem xN(ha:PQ X a t)(hb:PWQ X (.BoolOp .Or (b::rs) pos) u):PWQ X (.BoolOp .Or (a::b::rs) pos) (jz t u):=by unfold PWQ;rw[zqb];exact zom ha hb
theorem zP{a b:List Stmt}{t u:TS}{tc:TQ}(hc:PQ X c tc)(ha:PSs X a t)(hb:PSs X b u):PS X (.If c a b pos) (jA tc t u):=by
 have e1:jA tc t u=j6 (asT tc) t u:=by
  funext D σ H;unfold jA j6 asT;simp only[jE]
 rw[e1];exact zqK hc ha hb
theorem zkD{tc:TQ}(hc:PQ X c tc)(ha:PE X a ta)(hb:PE X b tb):PE X (.IfExp c a b pos) (jB tc ta tb):=by
 have e1:jB tc ta tb=tIf (asT tc) ta tb:=by
  funext σ H Q;unfold jB tIf asT;simp only[jE]
 rw[e1];exact zk3 hc ha hb
end
structure DF (K:Fg) (mg:Str->Option Value) (x:Str) (ps:List Str) (s:Stmt) (a:Addr) (d:FuncData):Prop where
 mg:mg x=some (.ref a)
 fn:Fun K x x s a d
 b:qf K d ps []
theorem peD{e:Expr}{pos:PySem.Pos}{Ek:St->XK}{k j:Nat}{f:Addr}{fd:FuncData}{ps:List Str}{sp:Sp}{es:List Expr}{t:TA}{p:PySem.Pos}{s:Stmt}(L:Lv X Ek)(F:FnOk X.prog X.w X.K X.mg X.base (CXE X.prog X.w) k f fd ps sp)(hr:Room j X.A)(D:DF X.K X.mg x ps s f fd)
  (ha:PA X (e::es) t) (hj:k<=j:=by decide) (hg:Gl X x:=by rfl) (hdb:(x==("__debug__":Str))=false:=by decide) (he:starEach (e::es) X.env=(false,eval e X.env)::starEach es X.env:=by rfl) (hpl:(backTo pos (starEach es X.env)).any (·.1)=false:=by rfl):
  PE X (.Call (.Name x p) (e::es) [] pos) (kR sp [] Ek t):=zlo L F (hr.mono hj) hg D.mg D.fn.kp D.b .nil ha hdb he hpl
def FA(K:Fg)(x:Str)(s:Stmt):Prop:= ∃(f:Addr) (d:FuncData),PySem.W.nsIn K mainGlobals x=some (some (.ref f))/\Fun K x x s f d
def FM(K:Fg)(C:Addr)(x q:Str)(s:Stmt):Prop:= ∃(f:Addr) (d:FuncData),Meth K C x f/\Fun K x q s f d
section
variable {K:Fg} {x q:Str} {s:Stmt} {C fa:Addr} {od an:Option Addr} {sl:Array (Option Value)} {oc kV dc pm cd ct:Value}
theorem FA.mk(a:PySem.W.nsIn K mainGlobals x=some (some (.ref fa)))(l:K.lookup fa=some ⟨oc,od, .func (PySem.W.fnOf x x (wP s) (wv s) (zC s) .none kV dc pm an cd ct),sl⟩)(c:PySem.W.codeIn K cd x=true)(k:PySem.W.keepIn K (.ref fa)=true):FA K x s:=⟨fa,_,a,zln l c k⟩
noncomputable def FA.f(h:FA K x s):Addr:=h.choose
noncomputable def FA.d(h:FA K x s):FuncData:=h.choose_spec.choose
theorem FA.fn(h:FA K x s):Fun K x x s h.f h.d:=h.choose_spec.choose_spec.2
theorem FA.mg{b:Heap}{mg:Str->Option Value}(h:FA K x s)(X:K.In b)(G:b.Ns mainGlobals mg):mg x=some (.ref h.f):=PySem.W.mg_of X G h.choose_spec.choose_spec.1
theorem FA.df{b:Heap}{mg:Str->Option Value}{ps:List Str}(h:FA K x s)(X:K.In b)(G:b.Ns mainGlobals mg)(bs:qf K h.d ps []):DF K mg x ps s h.f h.d:=⟨h.mg X G,h.fn,bs⟩
theorem FM.mk(a:PySem.W.findIn K (.ref C) x=some (some (.ref fa)))(l:K.lookup fa=some ⟨oc,od, .func (PySem.W.fnOf x q (wP s) (wv s) (zC s) .none kV dc pm an cd ct),sl⟩)(c:PySem.W.codeIn K cd q=true)(k:PySem.W.keepIn K (.ref fa)=true)(i:PySem.W.isFn K (.ref fa)=true):FM K C x q s:=⟨fa,_,⟨a,i,k⟩,zln l c k⟩
noncomputable def FM.f(h:FM K C x q s):Addr:=h.choose
noncomputable def FM.d(h:FM K C x q s):FuncData:=h.choose_spec.choose
theorem FM.fn(h:FM K C x q s):Fun K x q s h.f h.d:=h.choose_spec.choose_spec.2
theorem FM.me(h:FM K C x q s):Meth K C x h.f:=h.choose_spec.choose_spec.1
end
def vG(lo c:Int)(n:Nat):It:=⟨λi _=>i<n,λi H x H'=>H'=H/\x= .int (lo+i*c),λi _=>n<=i⟩
theorem zh0{P:Program}{tg:Expr}(it:Addr)(lo c:Int)(n:Nat):Turn P w K tg (vG lo c n) [it] it (λi h=>IsRangeIter h it (lo+(i:Nat)*c) ((n:Int) - (i:Nat)) c) where
 mem:=by simp
 obj:=λi h st b hb=>by
  have e:b=it:=by simpa using hb
  subst e;exact⟨_,st,λv z=>by
   have z':Data.fields _=Data.cell v:=z;cases z'⟩
 keep:=λi h h' st k=>k it (by simp) _ st
 item:=by
  intro X hP hw hK hc i pins s σ H E I hf st hg;subst hP hw hK;obtain⟨f0,f1,f2,f3,f4,f5⟩:=hf it (by simp);have W:=Walks.range (prog:=X.prog) (w:=X.w) (I.ok.hd hc) it lo c n;refine W.item i s _ _ hg st λv h' tk hv st' kk=> ?_;obtain⟨t,rfl⟩:=hv;have I1:Inv X pins σ H {s with heap:=h',toks:=tk}:=I.turned (λb o hb e=>kk b o (by simpa using hb) e) f0 f1 f3 f4 f5;exact⟨_,rfl,j9 (s:={s with heap:=h',toks:=tk}) (n:="range_iterator") st' rfl rfl 'd' ⟨.int (lo+i*c),H,I1,⟨t,rfl⟩,⟨rfl,rfl⟩,st',λb hb=>(hf b hb).1⟩⟩
 done:=by
  intro X hP hw hK hc i pins s σ H E I hf st hg;subst hP hw hK;obtain⟨f0,f1,f2,f3,f4,f5⟩:=hf it (by simp);exact wpAny_pyNext_range_end (I.ok.hd hc) st (by have:n<=i:=hg;omega) λh' eb=>⟨rfl,I.turned (t':=s.toks) (λb o hb e=>eb b o hb e) f0 f1 f3 f4 f5⟩
 self:=λ_ _ _ _ _ st h=>wpAny_pyIter_rangeiter st h
def rgN(j c:Int):Nat:=if 0<j then ((j - 1) / c+1).toNat else 0
theorem zrn{j c:Int}(hc:0<c)(h:i<rgN j c):0<=(i:Int)*c/\(i:Int)*c<j:=by
 unfold rgN at h;split at h
 ·have h1:(i:Int)<=(j - 1) / c:=by omega
  have h2:=Int.mul_le_mul_of_nonneg_right h1 (Int.le_of_lt hc);have h3:=Int.ediv_mul_le (j - 1) (show c≠0 by omega);exact⟨Int.mul_nonneg 'o' (Int.le_of_lt hc),'o'⟩
 ·omega
def zoC(ta:TA):TI:=λσ H R=>ta σ H λvs H1=> ∃j c:Int,vs= [.int 0, .int j, .int c]/\(0<=j/\j<2 ^ 30/\0<c/\c<2 ^ 30)/\R (vG 0 c (rgN j c)) H1
section
variable {X:Cx} {tg:Expr}
theorem zkF{R:It->Hp->Prop}{E:Value->Shared->Prop}{hi c:Int}{t u v:Tok}{tk:Nat}(I:Inv X pins σ H s)(h1:0<=hi)(h2:hi<2 ^ 30)(h3:0<c)(h4:c<2 ^ 30)
  (q:R (vG 0 c (rgN hi c)) H):wpAny (model X.prog X.w) X.A (pyIter (.ref s.heap.objs.size)) (PIE X pins σ tg R) E {s with heap:=s.heap.push {cls:= .type "range",data:= .fields #[.int 0 t, .int hi u, .int c v]},toks:=tk}:=by
 have e2:((rgN hi c:Nat):Int)=Builtin.Range.rangeSize 0 hi c:=by
  unfold rgN Builtin.Range.rangeSize
  have:=Int.ediv_nonneg (a:=hi - 1) (b:=c);rw[Jg h3,Int.sub_zero];split
  ·have:=this 'o' 'o';omega
  ·rfl
 have rb:(rgN hi c:Int)<=hi:=by
  unfold rgN;split
  ·have h5:=Int.ediv_le_self (a:=hi - 1) c 'o';have h6:=Int.ediv_nonneg (a:=hi - 1) (b:=c) 'o' 'o';omega
  ·omega
 have sm:Builtin.Range.small 0 hi c=true:=by
  unfold Builtin.Range.small;rw[<-e2];simp only[Builtin.Range.rangeFitsLong,Bool.and_eq_true,Bool.or_eq_true,decide_eq_true_eq,beq_iff_eq,show c>0 from h3,if_true];refine⟨⟨⟨?_,?_⟩,?_⟩,?_⟩<;>omega
 refine wpAny_pyIter_range (IsRange.new ..) sm ?_;have I1:Inv X pins σ H {s with heap:=s.heap.push {cls:= .type "range",data:= .fields #[.int 0 t, .int hi u, .int c v]},toks:=tk}:=I.kept λb o e=>Qa _ e;refine⟨(s.heap.push {cls:= .type "range",data:= .fields #[.int 0 t, .int hi u, .int c v]}).objs.size, [(s.heap.push {cls:= .type "range",data:= .fields #[.int 0 t, .int hi u, .int c v]}).objs.size],_,_,H,rfl,
  I1.kept (t':=tk) λb o e=>Qa _ e,zh0 _ 0 c (rgN hi c),?_,λb hb=> ?_,q⟩
 ·show IsRangeIter _ _ (0+((0:Nat):Int)*c) (((rgN hi c:Nat):Int) - ((0:Nat):Int)) c;rw[e2,show (0:Int)+((0:Nat):Int)*c=0 by simp,show Builtin.Range.rangeSize 0 hi c - ((0:Nat):Int)=Builtin.Range.rangeSize 0 hi c by simp];exact Qc _ rfl
 ·have e:b=(s.heap.push {cls:= .type "range",data:= .fields #[.int 0 t, .int hi u, .int c v]}).objs.size:=by simpa using hb
  subst e;exact I1.fpOk (Je _) (I1.hok.fresh (Je _))
theorem zkG{a b:Expr}{ta:TA}{p pos:PySem.Pos}(hg:Gl X "range")(hm:X.mg "range"=none)(ha:PA X [a,b,c] ta)(hs:starEach [a,b,c] X.env= [(false,eval a X.env),(false,eval b X.env),(false,eval c X.env)]:=by rfl)(hs2:starEach [b,c] X.env= [(false,eval b X.env),(false,eval c X.env)]:=by rfl):
  PI X tg (.Call (.Name "range" p) [a,b,c] [] pos) (zoC ta):=by
 intro pins s σ H R I h;refine Call_ (wM I hg hm boot_range (PyProof.Rows.callWith_type1 (thn (ha pos pins s σ H _ I h) λus s1 ⟨vs,H1,I1,r1,q1⟩=> ?_) (by rw[hs,hs2]) (by rw[hs2];rfl)));obtain⟨j,c,e,⟨q1,q2,q3,q4⟩,q⟩:=q1;subst e;cases r1 with
 |cons r rr=>
  cases rr with
  |cons r' rr=>
   cases rr with
   |cons r'' rr=>
    cases rr;obtain⟨t,rfl⟩:=r;obtain⟨t',rfl⟩:=r';obtain⟨t'',rfl⟩:=r'';exact call_range_3 'o' (zkF I1 q1 q2 q3 q4 q) (Or.inl (PyProof.noPylong_small 'o'))
end
theorem ziY{lo c:Int}{n:Nat}{g:TG}{tb:TS}{D:Ends}(Pv:Nat->St->Hp->Prop)(h0:Pv 0 σ H)
  (hs: ∀i σ H,i<n->Pv i σ H->g (.int (lo+i*c)) σ H λσ2 H2=>tb {D with nx:=Pv (i+1),ct:=Pv (i+1),bk:=D.nx} σ2 H2) (hd: ∀σ H,Pv n σ H->D.nx σ H):
  ∃W:Nat->Nat->St->Hp->Prop,(∃m,W 0 m σ H)/\ ∀i m σ H,W i m σ H->
   ((vG lo c n).stop i H/\D.nx σ H)\/((vG lo c n).go i H/\ ∃N:St->Hp->Prop,(∀σ' H',N σ' H'-> ∃m',m'<m/\W (i+1) m' σ' H')/\ ∀x H',(vG lo c n).yld i H x H'->g x σ H' λσ2 H2=>tb {D with nx:=N,ct:=N,bk:=D.nx} σ2 H2):=by
 refine⟨λi m σ H=>m=n - i/\i<=n/\Pv i σ H,⟨n,by simp,Jv _,h0⟩,?_⟩;rintro i m σ H ⟨rfl,hi,p⟩;by_cases hlt:i<n
 ·refine .inr ⟨hlt,Pv (i+1),λσ' H' h'=>⟨n - (i+1),'o',rfl,hlt,h'⟩,?_⟩;rintro x H' ⟨rfl,rfl⟩;exact hs i σ _ hlt p
 ·obtain rfl:i=n:=by omega
  exact .inl ⟨Je _,hd σ H p⟩
theorem zmk{K:Fg}{a l:Addr}{H1:Hp}{ys:List V}{σ0:St}{g:TG}{tc:TT}{te:TE}{Q:VK}(Pv:Nat->List V->Hp->Prop)(hz:ys.length<sizeLine)
  (h0:Pv 0 [] (upd H1 l (.lst []))) (hq: ∀i xs H,Pv i xs H->SqL K H a ys/\H l=some (.lst xs))
  (hs: ∀i x xs H (K1:VK) (K0:Hp->Prop),ys[i]? =some x->Pv i xs H->(∀v H4,H4 l=some (.lst xs)->Pv (i+1) (xs++ [v]) (upd H4 l (.lst (xs++ [v])))->K1 v H4)->(∀H3,Pv (i+1) xs H3->K0 H3)->
   g x σ0 H λσ2 H2=>Sub σ0 σ2/\tc σ2 H2 λb H3=>if b=true then te σ2 H3 K1 else K0 H3)
  (hd: ∀xs H,Pv ys.length xs H->Q (.ref l) H):vx (Itl K a) σ0 g tc te l Q H1:=by
 refine⟨λi m xs H=>i<=ys.length/\m=ys.length - i/\xs.length<=i/\Pv i xs H,⟨ys.length,Jv _,'o',Je _,h0⟩,?_⟩;rintro i m xs H ⟨hi,rfl,hx,pv⟩;obtain⟨sq,e⟩:=hq i xs H pv;refine⟨e,Nat.lt_of_le_of_lt hx 'o',?_⟩;by_cases hlt:i<ys.length
 ·refine .inr ⟨⟨ys,ys[i],sq,Jb hlt⟩,λx H' ⟨e',y⟩=> ?_⟩;subst e';exact hs i x xs _ _ _ (y ys sq) pv (λv H4 e4 p4=>⟨e4,ys.length - (i+1),'o',hlt,rfl,by rw[Jj];exact Nat.succ_le_succ hx,p4⟩) (λH3 p3=>⟨ys.length - (i+1),'o',hlt,rfl,'o',p3⟩)
 ·obtain rfl:i=ys.length:=by omega
  exact .inl ⟨⟨ys,sq,Je _⟩,hd xs H pv⟩
end L2
namespace Cal
variable{y m b h r:Int}
def lp(y:Int):Int:=if y % 4=0/\(y % 100≠0\/y % 400=0) then 1 else 0
def dim(y m:Int):Int:=if m=2 then 28+lp y else if m=4\/m=6\/m=9\/m=11 then 30 else 31
def ahead(y:Int):Int:=(y - 1)*365+(y - 1) / 4 - (y - 1) / 100+(y - 1) / 400
def cum(y m:Int):Int:=
 if m<=1 then 0 else if m=2 then 31 else if m=3 then 59+lp y else if m=4 then 90+lp y else if m=5 then 120+lp y
 else if m=6 then 151+lp y else if m=7 then 181+lp y else if m=8 then 212+lp y else if m=9 then 243+lp y
 else if m=10 then 273+lp y else if m=11 then 304+lp y else if m=12 then 334+lp y else 365+lp y
def num(y m d:Int):Int:=ahead y+cum y m+d - 1
def Valid(y m d:Int):Prop:=1<=y/\y<=9999/\1<=m/\m<=12/\1<=d/\d<=dim y m
theorem lp_01(y:Int):0<=lp y/\lp y<=1:=by unfold lp;split<;>decide
theorem zfv(y m:Int):28<=dim y m/\dim y m<=31:=by
 have:=lp_01 y;unfold dim;repeat' split
 all_goals omega
theorem cum_one(y:Int):cum y 1=0:=rfl
theorem cum_succ(h1:1<=m)(h2:m<=12):cum y (m+1)=cum y m+dim y m:=by
 obtain⟨k,rfl⟩:=Int.eq_ofNat_of_zero_le (Int.le_trans (by decide:(0:Int)<=1) h1);match k,h1,h2 with
 |0,h,_=>exact absurd h 'd'
 |1,_,_=>exact rfl
 |2,_,_=>exact Int.add_assoc 31 28 (lp y)
 |3,_,_=>exact(Int.add_right_comm 59 (lp y) 31).symm
 |4,_,_=>exact(Int.add_right_comm 90 (lp y) 30).symm
 |5,_,_=>exact(Int.add_right_comm 120 (lp y) 31).symm
 |6,_,_=>exact(Int.add_right_comm 151 (lp y) 30).symm
 |7,_,_=>exact(Int.add_right_comm 181 (lp y) 31).symm
 |8,_,_=>exact(Int.add_right_comm 212 (lp y) 31).symm
 |9,_,_=>exact(Int.add_right_comm 243 (lp y) 30).symm
 |10,_,_=>exact(Int.add_right_comm 273 (lp y) 31).symm
 |11,_,_=>exact(Int.add_right_comm 304 (lp y) 30).symm
 |12,_,_=>exact(Int.add_right_comm 334 (lp y) 31).symm
 |k+13,_,h=>exact absurd h 'o'
theorem cum_13(y:Int):cum y 13=365+lp y:=by simp [cum]
theorem ziZ(y m:Int):0<=cum y m:=by
 have l:=(lp_01 y).1;have q: ∀a:Int,0<=a->0<=a+lp y:=λa h=>Int.add_nonneg h l;have z: ∀{p:Prop} [Decidable p] {a b:Int},0<=a->0<=b->0<=if p then a else b:=fun {p} _ {a b} g h=>by split<;>assumption
 exact z 'd' (z 'd' (z (q _ 'd') (z (q _ 'd') (z (q _ 'd') (z (q _ 'd') (z (q _ 'd') (z (q _ 'd') (z (q _ 'd') (z (q _ 'd') (z (q _ 'd') (z (q _ 'd') (q _ 'd'))))))))))))
theorem q4(x:Int):(x+1) / 4=x / 4+if (x+1) % 4=0 then 1 else 0:=by split<;>omega
theorem zrR(x:Int):(x+1) / 100=x / 100+if (x+1) % 100=0 then 1 else 0:=by split<;>omega
theorem zrS(x:Int):(x+1) / 400=x / 400+if (x+1) % 400=0 then 1 else 0:=by split<;>omega
theorem zqc{x a:Int}(k:Int)(e:b=a*k)(h:x % b=0):x % a=0:=by
 subst e;rw[<-Int.emod_emod_of_dvd x (Int.dvd_mul_right a k),h,Int.zero_emod]
theorem zro(y:Int):lp y=(if y % 4=0 then 1 else 0) - (if y % 100=0 then 1 else 0)+(if y % 400=0 then 1 else 0):=by
 unfold lp;by_cases c:y % 4=0
 ·by_cases d:y % 100=0
  ·by_cases e:y % 400=0
   ·rw[Jg ⟨c, .inr e⟩,Jg c,Jg d,Jg e];rfl
   ·rw[Jf (λh=>h.2.elim (λh=>h d) e),Jg c,Jg d,Jf e];rfl
  ·have e:y % 400≠0:=λh=>d (zqc 4 rfl h);rw[Jg ⟨c, .inl d⟩,Jg c,Jf d,Jf e];rfl
 ·have d:y % 100≠0:=λh=>c (zqc 25 rfl h);have e:y % 400≠0:=λh=>c (zqc 100 rfl h);rw[Jf (λh=>c h.1),Jf c,Jf d,Jf e];rfl
theorem zi0(y:Int):ahead (y+1)=ahead y+365+lp y:=by
 obtain⟨x,rfl⟩: ∃x,y=x+1:=⟨y - 1,(Int.sub_add_cancel y 1).symm⟩
 rw[zro];unfold ahead;rw[Int.add_sub_cancel,Int.add_sub_cancel,q4,zrR,zrS,Int.add_mul,Int.one_mul];generalize x*365=p,x / 4=a,x / 100=b,x / 400=c,ite ((x+1) % 4=0) (1:Int) 0=d,ite ((x+1) % 100=0) (1:Int) 0=e,ite ((x+1) % 400=0) (1:Int) 0=f;clear x;omega
theorem jF{z:Int}(h:y<z):ahead y+365+lp y<=ahead z:=by
 rw[<-zi0];unfold ahead;omega
theorem zml{y m:Int}(h1:1<=m): ∀j:Nat,m+1+(j:Int)<=13->cum y (m+1)<=cum y (m+1+(j:Int))
 |0,_=>Int.le_of_eq (by rw[show m+1+((0:Nat):Int)=m+1 from JJ _])
 |j+1,h=>by
  have a:=zml (y:=y) h1 j 'o';have b:=cum_succ (y:=y) (m:=m+1+(j:Int)) 'o' 'o';have c:=(zfv y (m+1+(j:Int))).1;rw[show m+1+((j+1:Nat):Int)=m+1+(j:Int)+1 by omega,b];omega
theorem jG{k:Int}(h1:1<=m)(h:m<k)(h2:k<=13):cum y m+dim y m<=cum y k:=by
 rw[<-cum_succ h1 'o']
 have:=zml (y:=y) h1 (k - (m+1)).toNat 'o';rw[show m+1+((k - (m+1)).toNat:Int)=k by omega] at this;exact this
theorem vH{d:Int}(h:Valid y m d):0<=cum y m+d - 1/\cum y m+d<=365+lp y:=by
 obtain⟨_,_,h3,h4,h5,h6⟩:=h;have a:=ziZ y m;have b:=jG (y:=y) h3 (show m<13 by omega) 'o';rw[cum_13] at b;omega
theorem num_inj{d z k e:Int}(h:Valid y m d)(g:Valid z k e)(q:num y m d=num z k e):y=z/\m=k/\d=e:=by
 have a:=vH h;have b:=vH g;obtain⟨_,_,h3,h4,h5,h6⟩:=h;obtain⟨_,_,g3,g4,g5,g6⟩:=g;unfold num at q;have yz:y=z:=by
  rcases Int.lt_trichotomy y z with c|c|c
  ·have:=jF c;omega
  ·exact c
  ·have:=jF c;omega
 subst yz;have mk:m=k:=by
  rcases Int.lt_trichotomy m k with c|c|c
  ·have:=jG (y:=y) h3 c 'o';omega
  ·exact c
  ·have:=jG (y:=y) g3 c 'o';omega
 subst mk;exact⟨rfl,rfl,'o'⟩
theorem num_range{d:Int}(h:Valid y m d):0<=num y m d/\num y m d<=3652058:=by
 have a:=vH h;obtain⟨h1,h2,_⟩:=h;have e1:ahead 1=0:=by decide
 have e2:ahead 10000=3652059:=by decide
 have b:=jF (y:=y) (z:=10000) 'o';have c:ahead 1<=ahead y:=by unfold ahead;omega
 unfold num;omega
theorem zrp{R f:Int}(f0:0<=f)(f1:f<24):lp (R*400+h*100+f*4+3+1)=1:=by
 unfold lp;rw[Jg];exact⟨'o',Or.inl 'o'⟩
theorem zqd(R:Int):lp (R*400+3*100+24*4+3+1)=1:=by
 unfold lp;rw[Jg];exact⟨'o',Or.inr 'o'⟩
def yearOf(n:Int):Int:=
 let r:=n % 146097
 let h:=min (r / 36524) 3
 let r2:=r - h*36524
 let c:=r2 % 1461
 n / 146097*400+h*100+r2 / 1461*4+min (c / 365) 3+1
theorem zrT{a:Int}(a0:0<=a)(a1:a<146097)(eh:h=min (a / 36524) 3)(eb:b=a - h*36524):0<=h/\h<=3/\0<=b/\b<=36524/\(h<3->b<36524):=by
 have q:=Int.emod_add_mul_ediv a 36524;have r:=JN a (by decide:(36524:Int)≠0);have t:=JL a (by decide:(0:Int)<36524);generalize a / 36524=u at*;generalize a % 36524=v at*;by_cases c:u<=3
 ·rw[Int.min_eq_left c] at eh;subst eh;refine⟨'o',c,'o','o',λ_=>by omega⟩
 ·rw[Int.min_eq_right 'o'] at eh;subst eh;refine⟨'d','d','o','o',λh=>absurd h 'd'⟩
theorem zrU{f c:Int}(b0:0<=b)(b1:b<=36524)(ef:f=b / 1461)(ec:c=b % 1461):0<=f/\f<=24/\0<=c/\c<1461/\b=1461*f+c:=by
 have q:=Int.emod_add_mul_ediv b 1461;have r:=JN b (by decide:(1461:Int)≠0);have t:=JL b (by decide:(0:Int)<1461);rw[<-ef,<-ec] at q;rw[<-ec] at r t;clear ef ec;refine⟨'o','o',r,t,'o'⟩
theorem zrV{c o:Int}(c0:0<=c)(eo:o=min (c / 365) 3):0<=o/\o<=3/\365*o<=c/\(o<3->c<365*o+365):=by
 have q:=Int.emod_add_mul_ediv c 365;have r:=JN c (by decide:(365:Int)≠0);have t:=JL c (by decide:(0:Int)<365);generalize c / 365=u at*;generalize c % 365=v at*;by_cases d:u<=3
 ·rw[Int.min_eq_left d] at eo;subst eo;refine⟨'o',d,'o',λ_=>by omega⟩
 ·rw[Int.min_eq_right 'o'] at eo;subst eo;refine⟨'d','d','o',λh=>absurd h 'd'⟩
theorem zmm{x d q:Int}(e:x=r+d*q)(r0:0<=r)(r1:r<d):x / d=q:=by
 rw[e,Int.add_mul_ediv_left _ _ 'o',Int.ediv_eq_zero_of_lt r0 r1,JS]
theorem zn6{R f o:Int}(h0:0<=h)(h3:h<=3)(f0:0<=f)(f1:f<=24)(o0:0<=o)(o3:o<=3):ahead (R*400+h*100+f*4+o+1)=146097*R+36524*h+1461*f+365*o:=by
 unfold ahead;rw[Int.add_sub_cancel,zmm (d:=4) (q:=100*R+25*h+f) (r:=o) (by clear h0 h3 f0 f1 o0 o3;omega) o0 'o',
  zmm (d:=100) (q:=4*R+h) (r:=f*4+o) (by clear h0 h3 f0 f1 o0 o3;omega) (by clear h0 h3;omega) (by clear h0 h3;omega),
  zmm (d:=400) (q:=R) (r:=h*100+f*4+o) (by clear h0 h3 f0 f1 o0 o3;omega) 'o' 'o']
 clear h0 h3 f0 f1 o0 o3;omega
theorem zrq(R h f:Int):146097*R+36524*h+1461*f+1460<146097*R+36524*h+1461*f+365*3+365+1:=by omega
theorem yearOf_spec{n:Int}(h0:0<=n)(h1:n<=3652058):1<=yearOf n/\yearOf n<=9999/\ahead (yearOf n)<=n/\n<ahead (yearOf n)+365+lp (yearOf n):=by
 have a0:=JN n (by decide:(146097:Int)≠0);have a1:=JL n (by decide:(0:Int)<146097);have en:=Int.emod_add_mul_ediv n 146097;obtain⟨H,eh⟩: ∃h,h=min (n % 146097 / 36524) 3:=⟨_,rfl⟩
 obtain⟨b,eb⟩: ∃b,b=n % 146097 - H*36524:=⟨_,rfl⟩
 obtain⟨o,eo⟩: ∃o,o=min (b % 1461 / 365) 3:=⟨_,rfl⟩
 have ey:yearOf n=n / 146097*400+H*100+b / 1461*4+o+1:=by
  rw[eo,eb,eh];rfl
 obtain⟨p1,p2,p3,p4,p5⟩:=zrT a0 a1 eh eb;obtain⟨r1,r2,r3,r4,r5⟩:=zrU p3 p4 rfl rfl;obtain⟨t1,t2,t3,t4⟩:=zrV r3 eo;rw[ey,zn6 p1 p2 r1 r2 t1 t2];clear ey eo eh;generalize n / 146097=R at*;generalize n % 146097=a at*;generalize b / 1461=f at*;generalize b % 1461=c at*;have R0:0<=R:=by clear p1 p2 p3 p4 p5 r1 r2 r3 r4 r5 t1 t2 t3 t4 eb;omega
 have R1:R<=24:=by clear p1 p2 p3 p4 p5 r1 r2 r3 r4 r5 t1 t2 t3 t4 eb;omega
 have e2:n=146097*R+36524*H+1461*f+c:=by clear p1 p2 p3 p4 p5 r1 r2 r3 r4 t1 t2 t3 t4;omega
 clear h0 a0 a1 en eb p3 p4;have l:=(lp_01 (R*400+H*100+f*4+o+1)).1;refine⟨by clear h1 e2 t3 t4 r5 p5 l R1 p2 r2 t2 r3 r4;omega,by clear R0 p1 r1 t1 l t4 p5 r5 r3 r4;omega,by rw[e2];exact Int.add_le_add_left t3 _,?_⟩;clear h1;by_cases z:o<3
 ·have:=t4 z;clear t4 p5 p1 p2 r1 r2;omega
 ·by_cases z2:c<1460
  ·clear t4 p5 p1 p2 r1 r2;omega
  ·obtain rfl:o=3:=Int.le_antisymm t2 (Int.not_lt.mp z);have c0:c=1460:=by clear p5 e2 r5 t3 t4;omega
   by_cases z3:f<24
   ·rw[zrp r1 z3,e2,c0];exact zrq R H f
   ·obtain rfl:f=24:=Int.le_antisymm r2 (Int.not_lt.mp z3);obtain rfl:H=3:=by
     rcases Int.lt_or_le H 3 with d|d
     ·have:=p5 d;clear p5 t4;omega
     ·exact Int.le_antisymm p2 d
    rw[zqd,e2,c0];exact zrq R 3 24
theorem zeK{y r:Int}(h0:0<=r): ∀k:Nat,k<13->r<cum y ((k:Int)+1)-> ∃m,1<=m/\m<=12/\cum y m<=r/\r<cum y m+dim y m
 |0,_,h=>by
  have e:cum y (((0:Nat):Int)+1)=0:=rfl;omega
 |k+1,hk,h=>by
  by_cases c:r<cum y ((k:Int)+1)
  ·exact zeK h0 k 'o' c
  ·have s:=cum_succ (y:=y) (m:=(k:Int)+1) 'o' 'o';have e:((k+1:Nat):Int)+1=(k:Int)+1+1:=by omega
   rw[e,s] at h;exact⟨(k:Int)+1,'o','o','o',h⟩
theorem zg9(h0:0<=r)(h1:r<365+lp y): ∃m,1<=m/\m<=12/\cum y m<=r/\r<cum y m+dim y m:=
 zeK h0 12 'd' (by
                  have e:cum y (((12:Nat):Int)+1)=365+lp y:=cum_13 y;omega)
theorem date_exists{n:Int}(h0:0<=n)(h1:n<=3652058): ∃y m d,Valid y m d/\num y m d=n:=by
 obtain⟨a,b,c,d⟩:=yearOf_spec h0 h1;obtain⟨m,m1,m2,m3,m4⟩:=zg9 (y:=yearOf n) (r:=n - ahead (yearOf n)) 'o' 'o';exact⟨yearOf n,m,n - ahead (yearOf n) - cum (yearOf n) m+1,⟨a,b,m1,m2,'o','o'⟩,by unfold num;omega⟩
end Cal
namespace Cal
end Cal
namespace Cal
def MonOk(y m k:Int):Prop:=1<=(y*12+m - 1+k) / 12/\(y*12+m - 1+k) / 12<=9999
def monY(y m k:Int):Int:=(y*12+m - 1+k) / 12
def monM(y m k:Int):Int:=(y*12+m - 1+k) % 12+1
def monD(y m d k:Int):Int:=if dim (monY y m k) (monM y m k)<d then dim (monY y m k) (monM y m k) else d
theorem mon_valid{y m d k:Int}(h:Valid y m d)(g:MonOk y m k):Valid (monY y m k) (monM y m k) (monD y m d k):=by
 obtain⟨_,_,_,_,h5,h6⟩:=h;obtain⟨g1,g2⟩:=g;have b:=zfv (monY y m k) (monM y m k);refine⟨g1,g2,by unfold monM;omega,by unfold monM;omega,?_,?_⟩
 ·unfold monD;split<;>omega
 ·unfold monD;split<;>omega
end Cal
namespace Cal
variable{y m n c:Int}{dy:Bool}
theorem zqe{d z k e:Int}(h:Valid y m d)(g:Valid z k e)(q:y*12+m<z*12+k):num y m d<num z k e:=by
 have a:=vH h;have b:=vH g;obtain⟨h1,h2,h3,h4,h5,h6⟩:=h;obtain⟨g1,g2,g3,g4,g5,g6⟩:=g;unfold num;by_cases c:y<z
 ·have:=jF c;omega
 ·obtain rfl:y=z:=by omega
  have:=jG (y:=y) h3 (show m<k by omega) 'o';omega
theorem zn7{d:Int}(h:Valid y m d)(g:num y m d<=3500000):y<=9600:=by
 have a:=vH h;unfold num at g;unfold ahead at g;omega
theorem mon_ok{d k:Int}(h:Valid y m d)(g:num y m d<=3500000)(k0:0<=k)(k1:k<=720):MonOk y m k:=by
 have:=zn7 h g;obtain⟨h1,h2,h3,h4,h5,h6⟩:=h;exact⟨'o','o'⟩
open Classical in
noncomputable def mon(n k:Int):Int:=
 if h: ∃p:Int×Int×Int,Valid p.1 p.2.1 p.2.2/\num p.1 p.2.1 p.2.2=n then
  num (monY (choose h).1 (choose h).2.1 k) (monM (choose h).1 (choose h).2.1 k) (monD (choose h).1 (choose h).2.1 (choose h).2.2 k) else 0
theorem mon_eq{d k:Int}(h:Valid y m d):mon (num y m d) k=num (monY y m k) (monM y m k) (monD y m d k):=by
 have ex: ∃p:Int×Int×Int,Valid p.1 p.2.1 p.2.2/\num p.1 p.2.1 p.2.2=num y m d:=⟨(y,m,d),h,rfl⟩
 unfold mon;rw[dif_pos ex];obtain⟨v,e⟩:=Classical.choose_spec ex;obtain⟨e1,e2,e3⟩:=num_inj v h e;rw[e1,e2,e3]
theorem zmn(h0:0<=n)(h1:n<=3652058):mon n 0=n:=by
 obtain⟨y,m,d,va,rfl⟩:=date_exists h0 h1;rw[mon_eq va];obtain⟨v1,v2,v3,v4,v5,v6⟩:=id va;have e1:monY y m 0=y:=by unfold monY;omega
 have e2:monM y m 0=m:=by unfold monM;omega
 have e3:monD y m d 0=d:=by unfold monD;rw[e1,e2,Jf 'o']
 rw[e1,e2,e3]
theorem zi1{k:Int}(h0:0<=n)(h1:n<=3500000)(k0:0<=k)(k1:k<=720):0<=mon n k/\mon n k<=3652058:=by
 obtain⟨y,m,d,va,rfl⟩:=date_exists h0 'o';rw[mon_eq va];exact num_range (mon_valid va (mon_ok va h1 k0 k1))
theorem zqf{k j:Int}(h0:0<=n)(h1:n<=3500000)(k0:0<=k)(kj:k<j)(j1:j<=720):mon n k<mon n j:=by
 obtain⟨y,m,d,va,rfl⟩:=date_exists h0 'o';rw[mon_eq va,mon_eq va];refine zqe (mon_valid va (mon_ok va h1 k0 'o')) (mon_valid va (mon_ok va h1 'o' j1)) ?_;unfold monY monM;omega
noncomputable def beg(f:Int)(dy:Bool)(c k:Int):Int:=if dy=true then f+k*c else mon f (k*c)
def CycOk(dy:Bool)(c:Int):Prop:=1<=c/\c<=if dy=true then 400 else 12
theorem beg_zero{f:Int}(h0:0<=f)(h1:f<=3500000):beg f dy c 0=f:=by
 unfold beg;rw[Int.zero_mul];split
 ·omega
 ·exact zmn h0 'o'
theorem mul_bound{k:Int}(c0:1<=c)(c1:c<=12)(k0:0<=k)(k1:k<=60):0<=k*c/\k*c<=720:=by
 constructor
 ·exact Int.mul_nonneg k0 'o'
 ·have:=Int.mul_le_mul k1 c1 'o' 'o';omega
theorem beg_lt{f k j:Int}(h0:0<=f)(h1:f<=3500000)(hc:CycOk dy c)(k0:0<=k)(kj:k<j)(j1:j<=60):beg f dy c k<beg f dy c j:=by
 obtain⟨c0,c1⟩:=hc;have m:=Int.mul_lt_mul_of_pos_right kj (show 0<c by omega);unfold beg;cases dy with
 |true=>rw[Jg rfl,Jg rfl];omega
 |false=>
  rw[Jf 'd'] at c1;rw[Jf 'd',Jf 'd'];exact zqf h0 h1 (mul_bound c0 c1 k0 'o').1 m (mul_bound c0 c1 'o' j1).2
theorem beg_range{f k:Int}(h0:0<=f)(h1:f<=3500000)(hc:CycOk dy c)(k0:0<=k)(k1:k<=60):0<=beg f dy c k/\beg f dy c k<=3652058:=by
 obtain⟨c0,c1⟩:=hc;unfold beg;cases dy with
 |true=>
  rw[Jg rfl] at c1;rw[Jg rfl];have a:=Int.mul_nonneg k0 (show 0<=c by omega);have b:=Int.mul_le_mul k1 c1 'o' 'o';omega
 |false=>
  rw[Jf 'd'] at c1;rw[Jf 'd'];obtain⟨m0,m1⟩:=mul_bound c0 c1 k0 k1;exact zi1 h0 h1 m0 m1
theorem cyc_days(a:1<=c)(b:c<=400):CycOk true c:=⟨a,by rw[Jg rfl];exact b⟩
theorem cyc_months(a:1<=c)(b:c<=12):CycOk false c:=⟨a,by rw[Jf 'd'];exact b⟩
theorem beg_le{f k j:Int}(h0:0<=f)(h1:f<=3500000)(hc:CycOk dy c)(k0:0<=k)(kj:k<=j)(j1:j<=60):beg f dy c k<=beg f dy c j:=by
 by_cases e:k=j
 ·rw[e];exact Jz _
 ·exact Int.le_of_lt (beg_lt h0 h1 hc k0 'o' j1)
theorem beg_ge{f k:Int}(h0:0<=f)(h1:f<=3500000)(hc:CycOk dy c)(k0:0<=k)(k1:k<=60):f<=beg f dy c k:=by
 have:=beg_le h0 h1 hc (Jz 0) k0 k1;rw[beg_zero h0 h1] at this;exact this
theorem beg_one{f k j d:Int}(h0:0<=f)(h1:f<=3500000)(hc:CycOk dy c)(k0:0<=k)(k1:k<60)(j0:0<=j)(j1:j<60)(a:beg f dy c k<=d)(b:d<beg f dy c (k+1))(a':beg f dy c j<=d)(b':d<beg f dy c (j+1)):k=j:=by
 rcases Int.lt_trichotomy k j with q|q|q
 ·have:=beg_le (k:=k+1) (j:=j) h0 h1 hc 'o' 'o' 'o';omega
 ·exact q
 ·have:=beg_le (k:=j+1) (j:=k) h0 h1 hc 'o' 'o' 'o';omega
end Cal
namespace L2
open PySem
variable{c a day y x:Int}{G:Int->List D}{z:Int×Int}{H H':Hp}{ys zs:List En}{i C B:Nat}{s s':Pt}{cs:List Int}{T:Tab}{ds:List (Int×Nat×Bool)}
abbrev Rt:=Nat×Int×Int×D
def Bst(rs:List Rt)(day:Int)(kd:Nat):Option Rt->Prop
 |none=> ∀t∈rs,t.1=kd->day<t.2.1
 |some t=>t∈rs/\t.1=kd/\t.2.1<=day/\ ∀u∈rs,u.1=kd->u.2.1<=day->u.2.2.1<=t.2.2.1
section
variable {rs rs':List Rt} {day:Int} {kd:Nat} {o o':Option Rt} {r t:Rt}
theorem Bst.one(inj: ∀t∈rs,∀u∈rs,t.2.2.1=u.2.2.1->t=u)(m: ∀t,t∈rs'↔t∈rs)(h:Bst rs day kd o)(h':Bst rs' day kd o'):o=o':=by
 match o,o',h,h' with
 |none,none,_,_=>rfl
 |none,some t,h,h'=>have:=h t ((m t).mp h'.1) h'.2.1;have:=h'.2.2.1;omega
 |some t,none,h,h'=>have:=h' t ((m t).mpr h.1) h.2.1;have:=h.2.2.1;omega
 |some t,some u,h,h'=>
  have a:=h.2.2.2 u ((m u).mp h'.1) h'.2.1 h'.2.2.1;have b:=h'.2.2.2 t ((m t).mpr h.1) h.2.1 h.2.2.1;rw[inj t h.1 u ((m u).mp h'.1) 'o']
theorem Bst.skip(h:Bst rs day kd o)(n:r.1=kd->day<r.2.1):Bst (rs++ [r]) day kd o:=by
 match o,h with
 |none,h=>
  intro t ht e;rcases Jr.mp ht with z|z
  ·exact h t z e
  ·rw[Jm.mp z] at e ⊢;exact n e
 |some t,h=>
  refine⟨List.mem_append_left _ h.1,h.2.1,h.2.2.1,λu hu e l=> ?_⟩;rcases Jr.mp hu with z|z
  ·exact h.2.2.2 u z e l
  ·rw[Jm.mp z] at e l;have:=n e;omega
theorem Bst.last(h:Bst rs day kd o)(e:r.1=kd)(l:r.2.1<=day)(b: ∀t,o=some t->t.2.2.1<=r.2.2.1):Bst (rs++ [r]) day kd (some r):=by
 refine⟨List.mem_append_right _ Jq,e,l,λu hu eu lu=> ?_⟩;rcases Jr.mp hu with z|z
 ·match o,h with
  |none,h=>have:=h u z eu;omega
  |some t,h=>
   have a:=h.2.2.2 u z eu lu
   have:=b t rfl;omega
 ·rw[Jm.mp z];exact Jz _
theorem Bst.more(h:Bst rs day kd o)(s: ∀t∈rs,t∈rs')(n: ∀t∈rs',t∉rs->day<t.2.1):Bst rs' day kd o:=by
 match o,h with
 |none,h=>
  intro t ht e;by_cases z:t∈rs
  ·exact h t z e
  ·exact n t ht z
 |some t,h=>
  refine⟨s t h.1,h.2.1,h.2.2.1,λu hu e l=> ?_⟩;by_cases z:u∈rs
  ·exact h.2.2.2 u z e l
  ·have:=n u hu z;omega
end
def stV(o:Option Rt)(d:D):D:=(o.map λt=>t.2.2.2).getD d
def chK:Ch->Nat
 | .plan _ _=>0
 | .seats _ _=>1
 |_=>2
def ql:Ch->Int
 | .plan d _=>d
 | .seats d _=>d
 | .word _ d=>d
 |_=>0
def vJ:Nat->List Nat
 |0=> [104,101,108,100]
 |1=> [111,110]
 |_=> [111,102,102]
def vK:Ch->D
 | .plan _ nm=> .str nm
 | .seats _ n=> .int n
 | .word w _=> .str (vJ w)
 |_=> .non
def zmo:Ch->Bool
 | .word w _=>decide (3<=w)
 |_=>false
noncomputable def nb(f:Int)(dy:Bool)(c d:Int):Int:=open Classical in if h: ∃k:Int,0<=k/\k<60/\Cal.beg f dy c k<=d/\d<Cal.beg f dy c (k+1) then Cal.beg f dy c (h.choose+1) else 0
theorem zoD{f d k:Int}{dy:Bool}(f0:0<=f)(f1:f<=3500000)(hc:Cal.CycOk dy c)(k0:0<=k)(k1:k<60)(a:Cal.beg f dy c k<=d)(b:d<Cal.beg f dy c (k+1)):nb f dy c d=Cal.beg f dy c (k+1):=by
 unfold nb;have h: ∃k:Int,0<=k/\k<60/\Cal.beg f dy c k<=d/\d<Cal.beg f dy c (k+1):=⟨k,k0,k1,a,b⟩
 rw[dif_pos h];obtain⟨x1,x2,x3,x4⟩:=h.choose_spec;rw[Cal.beg_one f0 f1 hc x1 x2 k0 k1 x3 x4 a b]
noncomputable def cntF(f:Int)(dy:Bool)(c:Int)(ch:Ch):Int:=if zmo ch=true then nb f dy c (ql ch) else ql ch
noncomputable def rtF(f:Int)(dy:Bool)(c:Int)(n:Int)(ch:Ch):Rt:=(chK ch,cntF f dy c ch,(cntF f dy c ch*4000000+ql ch)*64+n,vK ch)
section
variable {rs rs':List Rt} {day d2:Int} {kd:Nat} {o:Option Rt}
theorem Bst.mem(m: ∀t,t∈rs'↔t∈rs)(h:Bst rs day kd o):Bst rs' day kd o:=by
 match o,h with
 |none,h=>exact λt ht=>h t ((m t).mp ht)
 |some t,h=>exact⟨(m t).mpr h.1,h.2.1,h.2.2.1,λu hu=>h.2.2.2 u ((m u).mp hu)⟩
theorem Bst.on(h:Bst rs day kd o)(le:day<=d2)(n: ∀t∈rs,t.2.1<=day\/d2<t.2.1):Bst rs d2 kd o:=by
 match o,h with
 |none,h=>intro t ht e;have:=h t ht e;rcases n t ht with z|z<;>omega
 |some t,h=>exact⟨h.1,h.2.1,by have:=h.2.2.1;omega,λu hu e l=>h.2.2.2 u hu e (by rcases n u hu with z|z<;>omega)⟩
end
abbrev Rw:=Int×Int×List D
def Rws(G:Int->List D):Int->List Rw->Int->Prop
 |b, [],e=>b=e
 |b,x::r,e=>x.1=b/\b<x.2.1/\(∀d,b<=d->d<x.2.1->G d=x.2.2)/\(∀y,r.head? =some y->x.2.2≠y.2.2)/\Rws G x.2.1 r e
theorem Rws.le{G:Int->List D}: ∀{xs:List Rw} {b e:Int},Rws G b xs e->b<=e
 | [],_,_,h=>Int.le_of_eq h
 |x::r,b,e,h=>by have:=Rws.le h.2.2.2.2;have:=h.2.1;omega
theorem Rws.snoc{G:Int->List D}{z:Rw}: ∀{xs:List Rw} {b o:Int},Rws G b xs o->z.1=o->o<z.2.1->(∀d,o<=d->d<z.2.1->G d=z.2.2)->(∀x,xs.getLast? =some x->x.2.2≠z.2.2)->Rws G b (xs++ [z]) z.2.1
 | [],b,o,h,h1,h2,h3,_=>by
  obtain rfl:b=o:=h;exact⟨h1,h2,h3,(λ_ h=>nomatch h),rfl⟩
 |x::r,b,o,h,h1,h2,h3,h4=>by
  refine⟨h.1,h.2.1,h.2.2.1,λy hy=> ?_,Rws.snoc h.2.2.2.2 h1 h2 h3 λy hy=>h4 y ?_⟩
  ·cases r with
   |nil=>cases hy;exact h4 x rfl
   |cons y' r'=>exact h.2.2.2.1 y hy
  ·cases r with
   |nil=>cases hy
   |cons a b=>rw[List.getLast?_cons_cons];exact hy
theorem Rws.in{G:Int->List D}: ∀{zs:List (Addr×Rw)} {b e:Int} {j:Nat} {z:Addr×Rw},zs[j]? =some z->Rws G b (zs.map (·.2)) e->b<=z.2.1/\z.2.1<z.2.2.1/\z.2.2.1<=e
 | [],_,_,_,_,h,_=>by rw[List.getElem?_nil] at h;cases h
 |x::r,b,e,0,_,h,g=>by
  cases h;obtain⟨h1,h2,_,_,h5⟩:=g;have h1':x.2.1=b:=h1;have h2':b<x.2.2.1:=h2;exact⟨'o','o',Rws.le h5⟩
 |x::r,b,e,j+1,z,h,g=>by
  obtain⟨h1,h2,_,_,h5⟩:=g;have h2':b<x.2.2.1:=h2;obtain⟨i1,i2,i3⟩:=Rws.in (zs:=r) (j:=j) h h5;have i1':x.2.2.1<=z.2.1:=i1;exact⟨'o',i2,i3⟩
def ScD(d:D):Prop:=d= .non\/(∃i,d= .int i)\/ ∃cs,d= .str cs
theorem zrr{K:Fg}{n:Nat}{d:D}(h:ScD d):Dp K H n d (sv d):=by
 rcases h with rfl|⟨i,rfl⟩|⟨cs,rfl⟩
 ·exact zpi
 ·exact qx
 ·exact xx
def StD(d:List D):Prop:= ∃d0 n wd,ScD d0/\d= [d0, .int n, .str wd]
theorem StD.dp{K:Fg}{n:Nat}{a:Addr}{d:List D}(h:StD d)(e:H a=some (.tup (d.map sv))):Dp K H (n+1) (.tup d) (.ref a):=by
 obtain⟨d0,n,wd,h0,rfl⟩:=h;exact vz (SqT.of e) ⟨zrr h0,qx,xx,trivial⟩
theorem sc_seq{d:D}(h:ScD d):xU d=false:=by rcases h with rfl|⟨i,rfl⟩|⟨cs,rfl⟩<;>rfl
theorem zqg{d e:D}(h:ScD d)(g:ScD e):yJ 0 d e:=by
 unfold yJ;exact⟨sc_seq h,sc_seq g⟩
theorem StD.sc{d:List D}(h:StD d): ∀x∈d,ScD x:=by
 obtain⟨d0,n,wd,h0,rfl⟩:=h;intro x hx;simp only[JD,List.not_mem_nil,or_false] at hx;rcases hx with rfl|rfl|rfl
 ·exact h0
 ·exact .inr (.inl ⟨_,rfl⟩)
 ·exact .inr (.inr ⟨_,rfl⟩)
theorem StD.cmp{d e:List D}(h:StD d)(g:StD e):yJ 1 (.tup d) (.tup e):=by
 unfold yJ;intro j x y hx hy;exact zqg (h.sc x (Ji hx)) (g.sc y (Ji hy))
theorem zha{d e:D}(h:ScD d)(g:ScD e):eqb 0 d e=true↔d=e:=by
 rcases h with rfl|⟨i,rfl⟩|⟨cs,rfl⟩<;>rcases g with rfl|⟨j,rfl⟩|⟨cs',rfl⟩<;>unfold eqb<;>simp
theorem StD.eqb{d e:List D}(h:StD d)(g:StD e):eqb 1 (.tup d) (.tup e)=true↔d=e:=by
 obtain⟨d0,n,wd,h0,rfl⟩:=h;obtain⟨e0,m,we,g0,rfl⟩:=g;show (L2.eqb 0 d0 e0 && (L2.eqb 0 (.int n) (.int m) && (L2.eqb 0 (.str wd) (.str we) && true)))=true↔_;rw[Bool.and_eq_true,Bool.and_eq_true,Bool.and_eq_true,zha h0 g0,zha (.inr (.inl ⟨_,rfl⟩)) (.inr (.inl ⟨_,rfl⟩)),zha (.inr (.inr ⟨_,rfl⟩)) (.inr (.inr ⟨_,rfl⟩))];simp
def vf(H:Hp)(z:Addr×Rw):Prop:= ∃s,H z.1=some (.tup [.int z.2.1, .int z.2.2.1, .ref s])/\H s=some (.tup (z.2.2.2.map sv))/\StD z.2.2.2
def vL(H:Hp)(r:Addr)(zs:List (Addr×Rw)):Prop:=H r=some (.lst (zs.map λz=>V.ref z.1))/\ ∀z∈zs,vf H z
theorem vf.same{z:Addr×Rw}(h:vf H z)(s:zh H H'):vf H' z:=let ⟨a,h1,h2,h3⟩:=h;⟨a,s _ _ h1,s _ _ h2,h3⟩
theorem vf.put{z:Addr×Rw}{l:Addr}{xs ys:List V}(h:vf H z)(e:H l=some (.lst xs)):vf (upd H l (.lst ys)) z:=by
 obtain⟨a,h1,h2,h3⟩:=h;refine⟨a,?_,?_,h3⟩
 ·rw[zu (λy=>by rw[y,e] at h1;cases h1)];exact h1
 ·rw[zu (λy=>by rw[y,e] at h2;cases h2)];exact h2
theorem vL.same{H H':Hp}{r:Addr}{zs:List (Addr×Rw)}(h:vL H r zs)(s:zh H H'):vL H' r zs:=⟨s _ _ h.1,λz hz=>(h.2 z hz).same s⟩
theorem zh.none{H H':Hp}{a:Addr}(s:zh H H')(h:H' a=none):H a=none:=by
 rcases hh:H a with _|o
 ·rfl
 ·rw[s _ _ hh] at h;cases h
abbrev Tab:=List (Int×Int×Int)
def zr:Tab->Int->Int×Int
 | [],_=>(0,0)
 |z::r,k=>if z.1=k then z.2 else zr r k
def yc(T:Tab)(k:Int)(v:Int×Int):Tab:=if (T.any λz=>decide (z.1=k))=true then T.map (λz=>if z.1=k then (z.1,v) else z) else T++ [(k,v)]
abbrev Pt:=Int×Int×Tab
abbrev Ln:=Int×List Nat×Int×Int×Int×Int×Int
def qh:List Nat:= [103,114,97,110,116]
def zR:List Nat:= [114,105,103,104,116]
def zL:List Nat:= [98,105,108,108]
def qi:List Nat:= [98,97,99,107]
def tkX(s:Pt)(a:Int):Int:=if s.1<a then s.1 else a
def tkY(s:Pt)(a:Int):Int:=if s.2.1<a - tkX s a then s.2.1 else a - tkX s a
def gvY(s:Pt)(k a:Int):Int:=if (zr s.2.2 k).2<a then (zr s.2.2 k).2 else a
def yq(s:Pt)(k a:Int):Pt:=(s.1 - tkX s a,s.2.1 - tkY s a,yc s.2.2 k ((zr s.2.2 k).1+tkX s a,(zr s.2.2 k).2+a - tkX s a))
def qC(s:Pt)(k a:Int):Pt:=(s.1+(a - gvY s k a),s.2.1+gvY s k a,yc s.2.2 k ((zr s.2.2 k).1 - (a - gvY s k a),(zr s.2.2 k).2 - gvY s k a))
def xc(s:Pt)(day k a:Int):Ln:=(day,zR,k, -a, -(a - gvY s k a), -(gvY s k a),0)
def yE(s:Pt)(day:Int)(w:List Nat)(k a:Int):Ln:=(day,w,k,a,tkX s a,tkY s a,a - tkX s a - tkY s a)
def zG(day:Int):List (Int×Int)->Pt->List Ln×Pt
 | [],s=>([],s)
 |z::r,s=>if z.2<0 then (xc s day z.1 (-z.2)::(zG day r (qC s z.1 (-z.2))).1,(zG day r (qC s z.1 (-z.2))).2) else zG day r s
def zM(day:Int):List (Int×Int)->Pt->List Ln×Pt
 | [],s=>([],s)
 |z::r,s=>if 0<z.2 then (yE s day zR z.1 z.2::(zM day r (yq s z.1 z.2)).1,(zM day r (yq s z.1 z.2)).2) else zM day r s
def zU(s:Pt)(cs:List Int):List (Int×Int):=cs.zipIdx.map λz=>((z.2:Int),z.1 - ((zr s.2.2 z.2).1+(zr s.2.2 z.2).2))
def yG(day:Int)(cs:List Int)(s:Pt):List Ln×Pt:=((zG day (zU s cs) s).1++(zM day (zU s cs) (zG day (zU s cs) s).2).1,(zM day (zU s cs) (zG day (zU s cs) s).2).2)
def zX(day:Int):Nat->List En->List Ln
 |_, []=> []
 |n,z::r=>(match z.2.2.2 with| .grant a=>if z.2.2.1=day then [(day,qh,(n:Int),a,0,0,0)] else []|_=> [])++zX day (n+1) r
def zF(day:Int):List En->Int
 | []=>0
 |z::r=>(match z.2.2.2 with| .grant a=>if z.2.2.1=day then a else 0|_=>0)+zF day r
def vM(day:Int)(ys:List En):Bool:=ys.any λz=>decide (z.2.2.1=day) && (match z.2.2.2 with| .back=>true|_=>false)
def yk(day:Int)(ys:List En)(s:Pt):List Ln×Pt:=if vM day ys=true then (if s.2.1=0 then [] else [(day,qi, -1,s.2.1,0,0,0)],(s.1,0,s.2.2)) else ([],s)
def yd(cst:Int->Int->Int)(ys:List En)(day:Int)(k:Nat)(isb:Bool)(s:Pt):List Ln×Pt:=
 let s1:Pt:=(s.1+zF day ys,s.2)
 let r:=if (ys.any λz=>decide (z.2.2.1=day))=true then yG day ((List.range (if isb=true then k else k+1)).map λi:Nat=>cst day i) s1 else ([],s1)
 let b:=if isb=true then ([yE r.2 day zL k (cst day k)],yq r.2 k (cst day k)) else ([],r.2)
 let e:=yk day ys b.2
 (zX day 0 ys++r.1++b.1++e.1,e.2)
structure SpAt (f:Int) (dy:Bool) (c day:Int) (k:Nat) (isb:Bool):Prop where
 k60:k<60
 lo:Cal.beg f dy c k<=day
 hi:day<Cal.beg f dy c ((k:Int)+1)
 ib:isb=decide (Cal.beg f dy c k=day)
def zJ(cst:Int->Int->Int)(ys:List En):List (Int×Nat×Bool)->Pt->List Ln×Pt
 | [],s=>([],s)
 |z::r,s=>((yd cst ys z.1 z.2.1 z.2.2 s).1++(zJ cst ys r (yd cst ys z.1 z.2.1 z.2.2 s).2).1,(zJ cst ys r (yd cst ys z.1 z.2.1 z.2.2 s).2).2)
structure WDays (f:Int) (dy:Bool) (c:Int) (ys:List En) (day:Int) (ds:List (Int×Nat×Bool)):Prop where
 up:(ds.map (·.1)).Pairwise (· < ·)
 sp: ∀z∈ds,SpAt f dy c z.1 z.2.1 z.2.2
 mem: ∀x,x∈ds.map (·.1)↔x<=day/\((∃j:Nat,j<60/\x=Cal.beg f dy c j)\/ ∃z∈ys,z.2.2.1=x)
theorem zfw(day:Int): ∀(a b:List En) (n:Nat),zX day n (a++b)=zX day n a++zX day (n+a.length) b
 | [],b,n=>rfl
 |z::r,b,n=>by
  rw[List.cons_append,zX,zX,zfw day r b (n+1),Jp,JM,Nat.add_right_comm,Nat.add_assoc]
theorem zfx(day:Int): ∀(a b:List En),zF day (a++b)=zF day a+zF day b
 | [],b=>by rw[List.nil_append,zF,JS]
 |z::r,b=>by rw[List.cons_append,zF,zF,zfx day r b,Int.add_assoc]
theorem zi3{z:En}(h:ys[i]? =some z):zX day 0 (ys.take (i+1))=zX day 0 (ys.take i)++(match z.2.2.2 with| .grant a=>if z.2.2.1=day then [(day,qh,(i:Int),a,0,0,0)] else []|_=> [])/\zF day (ys.take (i+1))=zF day (ys.take i)+(match z.2.2.2 with| .grant a=>if z.2.2.1=day then a else 0|_=>0):=by
 have hi:=(Jc.mp h).1;have e:ys.take (i+1)=ys.take i++ [z]:=by rw[JH,h];rfl
 have l:0+(ys.take i).length=i:=by rw[JB];omega
 rw[e,zfw,zfx,l];refine⟨?_,?_⟩
 ·rw[zX,zX,Jt]
 ·rw[zF,zF,JJ]
theorem zmp(h:cs[i]? =some c):(zU s cs)[i]? =some ((i:Int),c - ((zr s.2.2 i).1+(zr s.2.2 i).2)):=by
 unfold zU;rw[Jh,List.getElem?_zipIdx,h];simp
theorem vN(s:Pt)(cs:List Int):(zU s cs).length=cs.length:=by
 unfold zU;rw[Ja,List.length_zipIdx]
theorem zew(day:Int): ∀(a b:List (Int×Int)) (s:Pt),zG day (a++b) s=((zG day a s).1++(zG day b (zG day a s).2).1,(zG day b (zG day a s).2).2)
 | [],b,s=>rfl
 |z::r,b,s=>by
  rw[List.cons_append,zG,zG];split
  ·rw[zew day r b];rfl
  ·exact zew day r b s
theorem zex(day:Int): ∀(a b:List (Int×Int)) (s:Pt),zM day (a++b) s=((zM day a s).1++(zM day b (zM day a s).2).1,(zM day b (zM day a s).2).2)
 | [],b,s=>rfl
 |z::r,b,s=>by
  rw[List.cons_append,zM,zM];split
  ·rw[zex day r b];rfl
  ·exact zex day r b s
theorem zfy(T:Tab)(k:Int)(v:Int×Int):(yc T k v).length<=T.length+1:=by
 unfold yc;split
 ·rw[Ja];exact Nat.le_succ _
 ·rw[Jj];exact Je _
theorem vO(day:Int): ∀(a:List (Int×Int)) (s:Pt),(zG day a s).2.2.2.length<=s.2.2.length+a.length/\(zG day a s).1.length<=a.length
 | [],s=>⟨Je _,Je _⟩
 |z::r,s=>by
  rw[zG,Jp];split
  ·have h:=vO day r (qC s z.1 (-z.2))
   have:=zfy s.2.2 z.1 ((zr s.2.2 z.1).1 - ((-z.2) - gvY s z.1 (-z.2)),(zr s.2.2 z.1).2 - gvY s z.1 (-z.2));have e:(qC s z.1 (-z.2)).2.2=yc s.2.2 z.1 ((zr s.2.2 z.1).1 - ((-z.2) - gvY s z.1 (-z.2)),(zr s.2.2 z.1).2 - gvY s z.1 (-z.2)):=rfl;rw[e] at h;simp only[Jp];omega
  ·have h:=vO day r s;omega
theorem uw(day:Int): ∀(a:List (Int×Int)) (s:Pt),(zM day a s).2.2.2.length<=s.2.2.length+a.length/\(zM day a s).1.length<=a.length
 | [],s=>⟨Je _,Je _⟩
 |z::r,s=>by
  rw[zM,Jp];split
  ·have h:=uw day r (yq s z.1 z.2)
   have:=zfy s.2.2 z.1 ((zr s.2.2 z.1).1+tkX s z.2,(zr s.2.2 z.1).2+z.2 - tkX s z.2);have e:(yq s z.1 z.2).2.2=yc s.2.2 z.1 ((zr s.2.2 z.1).1+tkX s z.2,(zr s.2.2 z.1).2+z.2 - tkX s z.2):=rfl;rw[e] at h;simp only[Jp];omega
  ·have h:=uw day r s;omega
theorem ux(day:Int): ∀(a:List En) (n:Nat),(zX day n a).length<=a.length
 | [],n=>Je _
 |(v,ad,e,ch)::r,n=>by
  have h:=ux day r (n+1);rw[zX,Jj,Jp];cases ch with
  |grant a=>
   by_cases q:e=day
   ·simp only[q,if_true,Jp,List.length_nil];omega
   ·simp only[q,if_false,List.length_nil];omega
  |_=>simp only[List.length_nil];omega
theorem zjO(h:(zU s cs)[i]? =some z):z.1=i:=by
 have hi:=(Jc.mp h).1;rw[vN] at hi;rw[zmp (Jb hi)] at h;cases h;rfl
theorem zkH{D:List (Int×Int)}(h:D[i]? =some z):zG day (D.take (i+1)) s=if z.2<0 then ((zG day (D.take i) s).1++ [xc (zG day (D.take i) s).2 day z.1 (-z.2)],qC (zG day (D.take i) s).2 z.1 (-z.2)) else zG day (D.take i) s:=by
 rw[show D.take (i+1)=D.take i++ [z] by rw[JH,h];rfl,zew,zG];split
 ·rw[zG]
 ·rw[zG,Jt]
theorem zkI{D:List (Int×Int)}(h:D[i]? =some z):zM day (D.take (i+1)) s=if 0<z.2 then ((zM day (D.take i) s).1++ [yE (zM day (D.take i) s).2 day zR z.1 z.2],yq (zM day (D.take i) s).2 z.1 z.2) else zM day (D.take i) s:=by
 rw[show D.take (i+1)=D.take i++ [z] by rw[JH,h];rfl,zex,zM];split
 ·rw[zM]
 ·rw[zM,Jt]
theorem zdR(day:Int)(cs:List Int)(s:Pt):(yG day cs s).1.length<=2*cs.length:=by
 unfold yG;have h1:=(vO day (zU s cs) s).2;have h2:=(uw day (zU s cs) (zG day (zU s cs) s).2).2;rw[vN] at h1 h2;rw[Jj];omega
theorem zi4(day:Int)(cs:List Int)(s:Pt):(yG day cs s).2.2.2.length<=s.2.2.length+2*cs.length:=by
 unfold yG;have h1:=(vO day (zU s cs) s).1;have h2:=(uw day (zU s cs) (zG day (zU s cs) s).2).1;rw[vN] at h1 h2;show (zM day (zU s cs) (zG day (zU s cs) s).2).2.2.2.length<=_;omega
theorem zgv(day:Int)(ys:List En)(s:Pt):(yk day ys s).1.length<=1:=by
 unfold yk;split
 ·split<;>simp
 ·exact Jv _
def yX(T:Tab):Prop:=(T.map (·.1)).Nodup/\ ∀x∈T.map (·.1),0<=x/\x<60
theorem zgw: ∀(n:Nat) (l:List Int),l.Nodup->(∀x∈l,0<=x/\x<(n:Int))->l.length<=n
 |0,l,_,h=>by
  cases l with
  |nil=>exact Je _
  |cons x r=>have:=h x Jq;omega
 |n+1,l,d,h=>by
  have h1:=zgw n (l.erase (n:Int)) (d.erase _) λx hx=>by
   have:=d.mem_erase_iff.mp hx;have h2:=h x this.2;have h3:=this.1;omega
  by_cases c:(n:Int)∈l
  ·rw[List.length_erase_of_mem c] at h1;omega
  ·rw[List.erase_of_not_mem c] at h1;omega
theorem yX.len(h:yX T):T.length<=60:=by
 have:=zgw 60 _ h.1 h.2;rw[Ja] at this;exact this
theorem yX.put(h:yX T){k:Int}(v:Int×Int)(k0:0<=k)(k1:k<60):yX (yc T k v):=by
 unfold yc;split
 ·have e:(T.map (λz=>if z.1=k then (z.1,v) else z)).map (·.1)=T.map (·.1):=by
   rw[List.map_map];refine List.map_congr_left λz _=> ?_;show (if z.1=k then (z.1,v) else z).1=z.1;split<;>rfl
  unfold yX;rw[e];exact h
 ·rename_i hn;have nk:k∉T.map (·.1):=λhk=>by
   obtain⟨z,hz,e⟩:=Jw.mp hk;exact hn (List.any_eq_true.mpr ⟨z,hz,JO e⟩)
  unfold yX;rw[Jd];refine⟨List.nodup_append.mpr ⟨h.1,List.nodup_cons.mpr ⟨nofun,List.Pairwise.nil⟩,λx hx y hy=> ?_⟩,λx hx=> ?_⟩
  ·obtain rfl:=Jm.mp hy;rintro rfl;exact nk hx
  ·rcases Jr.mp hx with hx|hx
   ·exact h.2 x hx
   ·obtain rfl:=Jm.mp hx;exact⟨k0,k1⟩
theorem zfz(day:Int): ∀(ps:List (Int×Int)) (s:Pt),(∀z∈ps,0<=z.1/\z.1<60)->yX s.2.2->yX (zG day ps s).2.2.2
 | [],_,_,h=>h
 |z::r,s,hp,h=>by
  unfold zG;have hr: ∀z∈r,0<=z.1/\z.1<60:=λx hx=>hp x (Jl _ hx);have hz:=hp z Jq;split
  ·exact zfz day r _ hr (h.put _ hz.1 hz.2)
  ·exact zfz day r _ hr h
theorem zfA(day:Int): ∀(ps:List (Int×Int)) (s:Pt),(∀z∈ps,0<=z.1/\z.1<60)->yX s.2.2->yX (zM day ps s).2.2.2
 | [],_,_,h=>h
 |z::r,s,hp,h=>by
  unfold zM;have hr: ∀z∈r,0<=z.1/\z.1<60:=λx hx=>hp x (Jl _ hx);have hz:=hp z Jq;split
  ·exact zfA day r _ hr (h.put _ hz.1 hz.2)
  ·exact zfA day r _ hr h
theorem zkJ(day:Int)(hc:cs.length<=60)(h:yX s.2.2):yX (yG day cs s).2.2.2:=by
 have hd: ∀z∈zU s cs,0<=z.1/\z.1<60:=λz hz=>by
  obtain⟨w,hw,rfl⟩:=Jw.mp hz
  have:=List.mem_zipIdx hw;exact⟨Int.natCast_nonneg _,by show ((w.2:Nat):Int)<60;omega⟩
 exact zfA day _ _ hd (zfz day _ _ hd h)
theorem zmq(day:Int)(ys:List En)(h:yX s.2.2):yX (yk day ys s).2.2.2:=by
 unfold yk;split<;>exact h
theorem zn8(day:Int){k:Nat}(isb:Bool)(a:Int){r:List Ln×Pt}(hk:k<60)(h:yX r.2.2.2):yX (if isb=true then ([yE r.2 day zL k a],yq r.2 k a) else ([],r.2)).2.2.2:=by
 split
 ·exact h.put _ (Int.natCast_nonneg k) 'o'
 ·exact h
theorem zmr(cst:Int->Int->Int)(ys:List En)(day:Int){k:Nat}(isb:Bool)(hk:k<60)(h:yX s.2.2):yX (yd cst ys day k isb s).2.2.2:=by
 unfold yd;refine zmq day ys ?_;have hr:yX (if (ys.any λz=>decide (z.2.2.1=day))=true then yG day ((List.range (if isb=true then k else k+1)).map λi:Nat=>cst day i) (s.1+zF day ys,s.2) else ([],(s.1+zF day ys,s.2))).2.2.2:=by
  split
  ·exact zkJ day (by rw[Ja,JI];split<;>omega) h
  ·exact h
 exact zn8 day isb (cst day k) hk hr
theorem zgx(cst:Int->Int->Int)(day:Int){k:Nat}(isb:Bool)(s:Pt)(hk:k<60)(h40:ys.length<=40):(yd cst ys day k isb s).1.length<=200:=by
 unfold yd;dsimp only;rw[Jj,Jj,Jj];have h1:=zgv day ys (if isb=true then ([yE (if (ys.any λz=>decide (z.2.2.1=day))=true then yG day ((List.range (if isb=true then k else k+1)).map λi:Nat=>cst day i) (s.1+zF day ys,s.2) else ([],(s.1+zF day ys,s.2))).2 day zL k (cst day k)],yq (if (ys.any λz=>decide (z.2.2.1=day))=true then yG day ((List.range (if isb=true then k else k+1)).map λi:Nat=>cst day i) (s.1+zF day ys,s.2) else ([],(s.1+zF day ys,s.2))).2 k (cst day k)) else ([],(if (ys.any λz=>decide (z.2.2.1=day))=true then yG day ((List.range (if isb=true then k else k+1)).map λi:Nat=>cst day i) (s.1+zF day ys,s.2) else ([],(s.1+zF day ys,s.2))).2)).2;have h2:(if (ys.any λz=>decide (z.2.2.1=day))=true then yG day ((List.range (if isb=true then k else k+1)).map λi:Nat=>cst day i) (s.1+zF day ys,s.2) else ([],(s.1+zF day ys,s.2))).1.length<=120:=by
  split
  ·refine JE (zdR _ _ _) ?_;rw[Ja,JI];split<;>omega
  ·exact Jv _
 have h3:=JE (ux day ys 0) h40;generalize (if (ys.any λz=>decide (z.2.2.1=day))=true then yG day ((List.range (if isb=true then k else k+1)).map λi:Nat=>cst day i) (s.1+zF day ys,s.2) else ([],(s.1+zF day ys,s.2)))=r at h1 h2 ⊢;have h4:(if isb=true then ([yE r.2 day zL k (cst day k)],yq r.2 k (cst day k)) else ([],r.2)).1.length<=1:=by
  split<;>simp
 omega
theorem zey(cst:Int->Int->Int)(ys:List En): ∀(a b:List (Int×Nat×Bool)) (s:Pt),zJ cst ys (a++b) s=((zJ cst ys a s).1++(zJ cst ys b (zJ cst ys a s).2).1,(zJ cst ys b (zJ cst ys a s).2).2)
 | [],_,_=>rfl
 |z::a,b,s=>by
  rw[List.cons_append,zJ,zey cst ys a b,<-JM];rfl
theorem zh1(cst:Int->Int->Int)(ys:List En): ∀(a:List (Int×Nat×Bool)) (s:Pt),(∀z∈a,z.2.1<60)->yX s.2.2->yX (zJ cst ys a s).2.2.2
 | [],_,_,h=>h
 |z::a,s,hk,h=>zh1 cst ys a _ (λx hx=>hk x (Jl _ hx)) (zmr cst ys z.1 z.2.2 (hk z Jq) h)
theorem uy(cst:Int->Int->Int){ys:List En}(h40:ys.length<=40): ∀(a:List (Int×Nat×Bool)) (s:Pt),(∀z∈a,z.2.1<60)->(zJ cst ys a s).1.length<=200*a.length
 | [],_,_=>Jv _
 |z::a,s,hk=>by
  have h1:=uy cst h40 a (yd cst ys z.1 z.2.1 z.2.2 s).2 (λx hx=>hk x (Jl _ hx));have h2:=zgx cst z.1 z.2.2 s (hk z Jq) h40;show ((yd cst ys z.1 z.2.1 z.2.2 s).1++(zJ cst ys a (yd cst ys z.1 z.2.1 z.2.2 s).2).1).length<=200*(a.length+1);rw[Jj];omega
theorem zkK(cst:Int->Int->Int)(ys:List En){z:Int×Nat×Bool}(s:Pt)(h:ds[i]? =some z):zJ cst ys (ds.take (i+1)) s=((zJ cst ys (ds.take i) s).1++(yd cst ys z.1 z.2.1 z.2.2 (zJ cst ys (ds.take i) s).2).1,(yd cst ys z.1 z.2.1 z.2.2 (zJ cst ys (ds.take i) s).2).2):=by
 rw[JH,h,zey];show ((zJ cst ys (ds.take i) s).1++((yd cst ys z.1 z.2.1 z.2.2 (zJ cst ys (ds.take i) s).2).1++ []),_)=_;rw[Jt];rfl
def zV(ks:List (List Nat))(ls:List Ln):Int:=((ls.filter λz=>decide (z.2.1∈ks)).map λz=>z.2.2.2.1).sum
def xB(ls:List Ln):Int:=(ls.map λz=>z.2.2.2.2.2.2).sum
theorem zh2(k j:Int)(v:Int×Int): ∀T:Tab,(T.any λz=>decide (z.1=k))=false->zr (T++ [(k,v)]) j=if j=k then v else zr T j
 | [],_=>by
  rw[List.nil_append];unfold zr;by_cases h:j=k
  ·rw[Jg h,Jg h.symm]
  ·rw[Jf h,Jf (λz=>h z.symm)];rfl
 |z::r,h=>by
  rw[List.any_cons,Bool.or_eq_false_iff] at h;rw[List.cons_append,zr,zr];by_cases e:z.1=j
  ·rw[Jg e,Jg e,Jf (λq=>of_decide_eq_false h.1 (e.trans q))]
  ·rw[Jf e,Jf e];exact zh2 k j v r h.2
theorem zfB(k j:Int)(v:Int×Int): ∀T:Tab,(j=k->(T.any λz=>decide (z.1=k))=true)->zr (T.map (λz=>if z.1=k then (z.1,v) else z)) j=if j=k then v else zr T j
 | [],h=>by
  by_cases e:j=k
  ·exact absurd (h e) (by rw[List.any_nil];exact Ju)
  ·rw[Jf e];rfl
 |z::r,h=>by
  rw[JA,zr,zr];by_cases e:z.1=k
  ·rw[Jg e];by_cases g:j=k
   ·rw[Jg (show z.1=j from e.trans g.symm),Jg g]
   ·rw[Jf (show¬z.1=j from λq=>g (q.symm.trans e)),Jf (show¬z.1=j from λq=>g (q.symm.trans e)),zfB k j v r (λq=>absurd q g),Jf g]
  ·rw[Jf e];by_cases q:z.1=j
   ·rw[Jg q,Jg q,Jf (λx=>e (q.trans x))]
   ·rw[Jf q,Jf q];refine zfB k j v r λx=> ?_
    have:=h x;rw[List.any_cons,Bool.or_eq_true] at this;exact this.resolve_left (λy=>e (of_decide_eq_true y))
theorem jH(T:Tab)(k:Int)(v:Int×Int)(j:Int):zr (yc T k v) j=if j=k then v else zr T j:=by
 unfold yc;by_cases h:(T.any λz=>decide (z.1=k))=true
 ·rw[Jg h];exact zfB k j v T λ_=>h
 ·rw[Jf h];exact zh2 k j v T (Bool.eq_false_iff.mpr h)
def tkS(s:Pt)(i:Int):Int:=(zr s.2.2 i).1+(zr s.2.2 i).2
theorem jI(s:Pt)(k a j:Int):tkS (yq s k a) j=tkS s j+if j=k then a else 0:=by
 show (zr (yc s.2.2 k _) j).1+(zr (yc s.2.2 k _) j).2=_;rw[jH];unfold tkS;by_cases h:j=k
 ·subst h;rw[Jg rfl,Jg rfl];show (zr s.2.2 j).1+tkX s a+((zr s.2.2 j).2+a - tkX s a)=_;omega
 ·rw[Jf h,Jf h];omega
theorem zhb(s:Pt)(k a j:Int):tkS (qC s k a) j=tkS s j - if j=k then a else 0:=by
 show (zr (yc s.2.2 k _) j).1+(zr (yc s.2.2 k _) j).2=_;rw[jH];unfold tkS;by_cases h:j=k
 ·subst h;rw[Jg rfl,Jg rfl];show (zr s.2.2 j).1 - (a - gvY s j a)+((zr s.2.2 j).2 - gvY s j a)=_;omega
 ·rw[Jf h,Jf h];omega
def uz(i:Int):List (Int×Int)->Int
 | []=>0
 |z::r=>(if i=z.1/\z.2<0 then z.2 else 0)+uz i r
def uA(i:Int):List (Int×Int)->Int
 | []=>0
 |z::r=>(if i=z.1/\0<z.2 then z.2 else 0)+uA i r
def uB(i:Int):List (Int×Int)->Int
 | []=>0
 |z::r=>(if i=z.1 then z.2 else 0)+uB i r
theorem zjP(i:Int): ∀ps,uz i ps+uA i ps=uB i ps
 | []=>rfl
 |z::r=>by
  have h:=zjP i r;show (if i=z.1/\z.2<0 then z.2 else 0)+uz i r+((if i=z.1/\0<z.2 then z.2 else 0)+uA i r)=(if i=z.1 then z.2 else 0)+uB i r;by_cases e:i=z.1
  ·by_cases n:z.2<0
   ·rw[Jg ⟨e,n⟩,Jf (λq=>by have:=q.2;omega),Jg e];omega
   ·by_cases p:0<z.2
    ·rw[Jf (λq=>n q.2),Jg ⟨e,p⟩,Jg e];omega
    ·rw[Jf (λq=>n q.2),Jf (λq=>p q.2),Jg e];omega
  ·rw[Jf (λq=>e q.1),Jf (λq=>e q.1),Jf e];omega
theorem zhc(day i:Int): ∀(ps:List (Int×Int)) (s:Pt),tkS (zG day ps s).2 i=tkS s i+uz i ps
 | [],s=>(JJ _).symm
 |z::r,s=>by
  rw[zG,uz];by_cases n:z.2<0
  ·rw[Jg n];show tkS (zG day r (qC s z.1 (-z.2))).2 i=_;rw[zhc day i r,zhb];by_cases e:i=z.1
   ·rw[Jg e,Jg ⟨e,n⟩];omega
   ·rw[Jf e,Jf (λq=>e q.1)];omega
  ·rw[Jf n,Jf (λq=>n q.2),zhc day i r];omega
theorem zhd(day i:Int): ∀(ps:List (Int×Int)) (s:Pt),tkS (zM day ps s).2 i=tkS s i+uA i ps
 | [],s=>(JJ _).symm
 |z::r,s=>by
  rw[zM,uA];by_cases n:0<z.2
  ·rw[Jg n];show tkS (zM day r (yq s z.1 z.2)).2 i=_;rw[zhd day i r,jI];by_cases e:i=z.1
   ·rw[Jg e,Jg ⟨e,n⟩];omega
   ·rw[Jf e,Jf (λq=>e q.1)];omega
  ·rw[Jf n,Jf (λq=>n q.2),zhd day i r];omega
theorem zjQ(s:Pt)(i:Int): ∀(cs:List Int) (n:Nat),uB i ((cs.zipIdx n).map λz=>((z.2:Int),z.1 - ((zr s.2.2 z.2).1+(zr s.2.2 z.2).2)))=if (n:Int)<=i/\i<n+cs.length then cs.getD (i - n).toNat 0 - tkS s i else 0
 | [],n=>by
  rw[Jf (λh=>by have:=h.1;have:=h.2;simp only[List.length_nil] at this;omega)];rfl
 |c::r,n=>by
  rw[List.zipIdx_cons,JA,uB,zjQ s i r (n+1)];by_cases e:i=n
  ·subst e;rw[Jg rfl,Jf 'o',Jg ⟨'o',by simp only[Jp];omega⟩,Int.sub_self];show c - ((zr s.2.2 n).1+(zr s.2.2 n).2)+0=c - ((zr s.2.2 n).1+(zr s.2.2 n).2);omega
  ·rw[Jf e];by_cases g:(n:Int)<=i/\i<n+(c::r).length
   ·rw[Jg g,Jg ⟨'o',by have:=g.2;simp only[Jp] at this;omega⟩];have t:(i - (n:Int)).toNat=(i - ((n+1:Nat):Int)).toNat+1:=by omega
    rw[t,List.getD_cons_succ];omega
   ·rw[Jf g,Jf (λq=>g ⟨'o',by simp only[Jp];omega⟩)];rfl
theorem zmv(day:Int)(cs:List Int)(s:Pt)(i:Int):tkS (yG day cs s).2 i=if 0<=i/\i<cs.length then cs.getD i.toNat 0 else tkS s i:=by
 show tkS (zM day (zU s cs) (zG day (zU s cs) s).2).2 i=_;rw[zhd,zhc];have h1:=zjP i (zU s cs);have h2:=zjQ s i cs 0;have h3:(cs.zipIdx 0).map (λz=>((z.2:Int),z.1 - ((zr s.2.2 z.2).1+(zr s.2.2 z.2).2)))=zU s cs:=rfl;rw[h3] at h2;by_cases g:0<=i/\i<cs.length
 ·rw[Jg (show ((0:Nat):Int)<=i/\i<((0:Nat):Int)+cs.length from⟨g.1,'o'⟩),show i - ((0:Nat):Int)=i by omega] at h2;rw[Jg g];omega
 ·rw[Jf (λq=>g ⟨by have:=q.1;omega,by have:=q.2;omega⟩)] at h2;rw[Jf g];omega
def qP(g:Nat->Int):Nat->Int
 |0=>0
 |n+1=>qP g n+g n
theorem zdS{g h:Nat->Int}: ∀{n:Nat},(∀i,i<n->g i=h i)->qP g n=qP h n
 |0,_=>rfl
 |n+1,e=>by
  rw[qP,qP,zdS λi hi=>e i 'o',e n 'o']
theorem zez{g:Nat->Int}(n:Nat): ∀m:Nat,(∀i,n<=i->i<n+m->g i=0)->qP g (n+m)=qP g n
 |0,_=>rfl
 |m+1,e=>by
  show qP g (n+m)+g (n+m)=_;rw[zez n m λi h1 h2=>e i h1 'o',e (n+m) 'o' 'o',JJ]
def tot(s:Pt)(n:Nat):Int:=qP (λi=>tkS s i) n
theorem jJ{s s':Pt}{k a:Int}(h: ∀j,tkS s' j=tkS s j+if j=k then a else 0): ∀n:Nat,tot s' n=tot s n+if 0<=k/\k<n then a else 0
 |0=>by
  rw[Jf 'o'];rfl
 |n+1=>by
  have ih:=jJ h n;unfold tot at ih ⊢;rw[qP,qP,ih,h n];by_cases e:(n:Int)=k
  ·rw[Jg e,Jf 'o',Jg 'o'];omega
  ·rw[Jf e];by_cases g:0<=k/\k<n
   ·rw[Jg g,Jg 'o'];omega
   ·rw[Jf g,Jf 'o'];omega
theorem vg(ks:List (List Nat)):zV ks []=0:=rfl
theorem wf(ks:List (List Nat))(l:Ln)(ls:List Ln):zV ks (l::ls)=(if l.2.1∈ks then l.2.2.2.1 else 0)+zV ks ls:=by
 unfold zV;rw[JU];by_cases h:l.2.1∈ks
 ·rw[Jg (JO h),Jg h,JA,List.sum_cons]
 ·rw[Jf (by simpa using h),Jf h,JS]
theorem xC(ks:List (List Nat))(a b:List Ln):zV ks (a++b)=zV ks a+zV ks b:=by
 unfold zV;rw[JT,Jd,List.sum_append]
theorem zhe(day:Int): ∀(ps:List (Int×Int)) (s:Pt),(∀z∈ps,0<=z.1/\z.1<60)->tot (zG day ps s).2 60=tot s 60+zV [zL,zR] (zG day ps s).1
 | [],s,_=>(JJ _).symm
 |z::r,s,h=>by
  have hr: ∀z∈r,0<=z.1/\z.1<60:=λx hx=>h x (Jl _ hx);have hz:=h z Jq;rw[zG];by_cases n:z.2<0
  ·rw[Jg n];show tot (zG day r (qC s z.1 (-z.2))).2 60=tot s 60+zV [zL,zR] (xc s day z.1 (-z.2)::(zG day r (qC s z.1 (-z.2))).1);rw[zhe day r _ hr,wf,Jg (show (xc s day z.1 (-z.2)).2.1∈ [zL,zR] from Jl _ Jq)];have t:=jJ (s:=s) (s':=qC s z.1 (-z.2)) (k:=z.1) (a:=z.2) (λj=>by rw[zhb];split<;>omega) 60;rw[Jg (show 0<=z.1/\z.1<((60:Nat):Int) from⟨hz.1,'o'⟩)] at t;show _=tot s 60+(-(-z.2)+_);omega
  ·rw[Jf n];exact zhe day r s hr
theorem zhf(day:Int): ∀(ps:List (Int×Int)) (s:Pt),(∀z∈ps,0<=z.1/\z.1<60)->tot (zM day ps s).2 60=tot s 60+zV [zL,zR] (zM day ps s).1
 | [],s,_=>(JJ _).symm
 |z::r,s,h=>by
  have hr: ∀z∈r,0<=z.1/\z.1<60:=λx hx=>h x (Jl _ hx);have hz:=h z Jq;rw[zM];by_cases n:0<z.2
  ·rw[Jg n];show tot (zM day r (yq s z.1 z.2)).2 60=tot s 60+zV [zL,zR] (yE s day zR z.1 z.2::(zM day r (yq s z.1 z.2)).1);rw[zhf day r _ hr,wf,Jg (show (yE s day zR z.1 z.2).2.1∈ [zL,zR] from Jl _ Jq)];have t:=jJ (s:=s) (s':=yq s z.1 z.2) (k:=z.1) (a:=z.2) (λj=>jI s z.1 z.2 j) 60;rw[Jg (show 0<=z.1/\z.1<((60:Nat):Int) from⟨hz.1,'o'⟩)] at t;show _=tot s 60+(z.2+_);omega
  ·rw[Jf n];exact zhf day r s hr
theorem zmw(hc:cs.length<=60): ∀z∈zU s cs,0<=z.1/\z.1<60:=λz hz=>by
 obtain⟨w,hw,rfl⟩:=Jw.mp hz
 have:=List.mem_zipIdx hw;exact⟨Int.natCast_nonneg _,by show ((w.2:Nat):Int)<60;omega⟩
theorem zmx(day:Int)(cs:List Int)(s:Pt)(hc:cs.length<=60):tot (yG day cs s).2 60=tot s 60+zV [zL,zR] (yG day cs s).1:=by
 show tot (zM day (zU s cs) (zG day (zU s cs) s).2).2 60=tot s 60+zV [zL,zR] ((zG day (zU s cs) s).1++(zM day (zU s cs) (zG day (zU s cs) s).2).1);rw[zhf day _ _ (zmw hc),zhe day _ _ (zmw hc),xC,Int.add_assoc]
theorem zh3(day:Int): ∀(ys:List En) (n:Nat),zV [zL,zR] (zX day n ys)=0
 | [],_=>rfl
 |z::r,n=>by
  rw[zX,xC,zh3 day r (n+1),JJ];split
  ·split
   ·rw[wf,vg,Jf (show¬qh∈ [zL,zR] by decide)];rfl
   ·rfl
  ·rfl
theorem zjR(day:Int)(ys:List En)(s:Pt):zV [zL,zR] (yk day ys s).1=0/\(yk day ys s).2.2.2=s.2.2:=by
 unfold yk;split
 ·refine⟨?_,rfl⟩;dsimp only;split
  ·rfl
  ·rw[wf,vg,Jf (show¬qi∈ [zL,zR] by decide)];rfl
 ·exact⟨rfl,rfl⟩
theorem jK(h:s'.2.2=s.2.2)(i:Int):tkS s' i=tkS s i:=by unfold tkS;rw[h]
theorem zi5(h:s'.2.2=s.2.2)(n:Nat):tot s' n=tot s n:=zdS λi _=>jK h i
theorem zn9(cst:Int->Int->Int)(ys:List En)(day:Int)(k:Nat)(isb:Bool)(s:Pt)(hk:k<60):tot (yd cst ys day k isb s).2 60=tot s 60+zV [zL,zR] (yd cst ys day k isb s).1:=by
 unfold yd;dsimp only;obtain⟨r,hr⟩: ∃r,r=(if (ys.any λz=>decide (z.2.2.1=day))=true then yG day ((List.range (if isb=true then k else k+1)).map λi:Nat=>cst day i) (s.1+zF day ys,s.2) else ([],(s.1+zF day ys,s.2))):=⟨_,rfl⟩
 rw[<-hr];have h1:tot r.2 60=tot s 60+zV [zL,zR] r.1:=by
  rw[hr];split
  ·rw[zmx _ _ _ (by rw[Ja,JI];split<;>omega),zi5 (s:=s) (s':=(s.1+zF day ys,s.2)) rfl]
  ·show tot _ 60=_;rw[zi5 (s:=s) rfl];exact(JJ _).symm
 obtain⟨b,hb⟩: ∃b,b=(if isb=true then ([yE r.2 day zL k (cst day k)],yq r.2 k (cst day k)) else ([],r.2)):=⟨_,rfl⟩
 rw[<-hb];have h2:tot b.2 60=tot r.2 60+zV [zL,zR] b.1:=by
  rw[hb];split
  ·have t:=jJ (s:=r.2) (s':=yq r.2 k (cst day k)) (k:=k) (a:=cst day k) (λj=>jI _ _ _ j) 60;rw[Jg (show 0<=(k:Int)/\(k:Int)<((60:Nat):Int) by omega)] at t;show tot (yq r.2 k (cst day k)) 60=tot r.2 60+zV [zL,zR] [yE r.2 day zL k (cst day k)];rw[t,wf,Jg (show (yE r.2 day zL k (cst day k)).2.1∈ [zL,zR] from Jq),vg];show _=_+(cst day k+0);omega
  ·exact(JJ _).symm
 obtain⟨h3,h4⟩:=zjR day ys b.2;rw[xC,xC,xC,zh3,h3,zi5 h4];omega
theorem zoa(cst:Int->Int->Int)(ys:List En)(day:Int)(k:Nat)(isb:Bool)(s:Pt)(i:Nat):tkS (yd cst ys day k isb s).2 i=(if (ys.any λz=>decide (z.2.2.1=day))=true/\i<(if isb=true then k else k+1) then cst day i else tkS s i)+(if isb=true/\i=k then cst day k else 0):=by
 unfold yd;dsimp only;obtain⟨r,hr⟩: ∃r,r=(if (ys.any λz=>decide (z.2.2.1=day))=true then yG day ((List.range (if isb=true then k else k+1)).map λi:Nat=>cst day i) (s.1+zF day ys,s.2) else ([],(s.1+zF day ys,s.2))):=⟨_,rfl⟩
 rw[<-hr];have h1:tkS r.2 i=if (ys.any λz=>decide (z.2.2.1=day))=true/\i<(if isb=true then k else k+1) then cst day i else tkS s i:=by
  rw[hr];generalize (if isb=true then k else k+1)=n;by_cases g:(ys.any λz=>decide (z.2.2.1=day))=true
  ·rw[Jg g,zmv,Ja,JI];by_cases l:i<n
   ·rw[Jg ⟨'o','o'⟩,Jg ⟨g,l⟩,JF,Jo,Jh,List.getElem?_range l];rfl
   ·rw[Jf 'o',Jf (λq=>l q.2)];exact jK rfl _
  ·rw[Jf g,Jf (λq=>g q.1)];exact jK rfl _
 obtain⟨b,hb⟩: ∃b,b=(if isb=true then ([yE r.2 day zL k (cst day k)],yq r.2 k (cst day k)) else ([],r.2)):=⟨_,rfl⟩
 rw[<-hb];have h2:tkS b.2 i=tkS r.2 i+(if isb=true/\i=k then cst day k else 0):=by
  rw[hb];by_cases g:isb=true
  ·rw[Jg g];show tkS (yq r.2 k (cst day k)) i=_;rw[jI];by_cases e:i=k
   ·rw[Jg 'o',Jg ⟨g,e⟩]
   ·rw[Jf 'o',Jf (λq=>e q.2)]
  ·rw[Jf g,Jf (λq=>g q.1)];exact(JJ _).symm
 rw[jK (zjR day ys b.2).2,h2,h1]
theorem zjT(cst:Int->Int->Int)(ys:List En): ∀(ds:List (Int×Nat×Bool)) (s:Pt),(∀z∈ds,z.2.1<60)->tot (zJ cst ys ds s).2 60=tot s 60+zV [zL,zR] (zJ cst ys ds s).1
 | [],s,_=>(JJ _).symm
 |z::r,s,h=>by
  rw[zJ];show tot (zJ cst ys r (yd cst ys z.1 z.2.1 z.2.2 s).2).2 60=tot s 60+zV [zL,zR] ((yd cst ys z.1 z.2.1 z.2.2 s).1++(zJ cst ys r (yd cst ys z.1 z.2.1 z.2.2 s).2).1);rw[zjT cst ys r _ (λx hx=>h x (Jl _ hx)),zn9 cst ys _ _ _ _ (h z Jq),xC,Int.add_assoc]
def vP(ys:List En)(y:Int)(C:Nat):Int->Nat->List (Int×Nat×Bool)->Prop
 |x,B, []=>B=C/\x<=y/\ ∀e∈ys,¬(x<e.2.2.1/\e.2.2.1<=y)
 |x,B,z::r=>x<z.1/\(∀e∈ys,¬(x<e.2.2.1/\e.2.2.1<z.1))/\(if z.2.2=true then z.2.1 else z.2.1+1)=B/\vP ys y C z.1 (z.2.1+1) r
theorem zhg(cst:Int->Int->Int){ys:List En}(hk: ∀x y,x<=y->(∀e∈ys,¬(x<e.2.2.1/\e.2.2.1<=y))-> ∀i,cst x i=cst y i){y:Int}{C:Nat}: ∀(ds:List (Int×Nat×Bool)) (s:Pt) (x:Int) (B:Nat),vP ys y C x B ds->(∀i:Nat,i<B->tkS s i=cst x i)->(∀i:Nat,B<=i->tkS s i=0)->(∀i:Nat,i<C->tkS (zJ cst ys ds s).2 i=cst y i)/\ ∀i:Nat,C<=i->tkS (zJ cst ys ds s).2 i=0
 | [],s,x,B,h,h1,h2=>by
  obtain⟨rfl,xy,no⟩:=h;exact⟨λi hi=>(h1 i hi).trans (hk x y xy no i),h2⟩
 |z::r,s,x,B,h,h1,h2=>by
  obtain⟨xz,no,eB,hr⟩:=h;have w:=zoa cst ys z.1 z.2.1 z.2.2 s;rw[eB] at w;refine zhg cst hk r (yd cst ys z.1 z.2.1 z.2.2 s).2 z.1 (z.2.1+1) hr (λi hi=> ?_) (λi hi=> ?_)
  ·rw[w i];by_cases l:i<B
   ·have nb: ¬(z.2.2=true/\i=z.2.1):=λq=>by rw[Jg q.1] at eB;omega
    rw[Jf nb,JJ];by_cases g:(ys.any λe=>decide (e.2.2.1=z.1))=true
    ·rw[Jg ⟨g,l⟩]
    ·rw[Jf (λq=>g q.1),h1 i l];refine hk x z.1 'o' (λe he q=> ?_) i;by_cases q2:e.2.2.1=z.1
     ·exact g (List.any_eq_true.mpr ⟨e,he,JO q2⟩)
     ·exact no e he ⟨q.1,'o'⟩
   ·have b:z.2.2=true/\i=z.2.1:=by
     by_cases q:z.2.2=true
     ·rw[Jg q] at eB;exact⟨q,'o'⟩
     ·rw[Jf q] at eB;omega
    rw[Jf (λq=>l q.2),Jg b,h2 i 'o',JS,b.2]
  ·have nl: ¬i<B:=by
    by_cases q:z.2.2=true
    ·rw[Jg q] at eB;omega
    ·rw[Jf q] at eB;omega
   rw[w i,Jf (λq=>nl q.2),Jf (λq=>by have:=q.2;omega),h2 i 'o'];rfl
theorem zh4{ys:List En}{y:Int}{C:Nat}{bg:Nat->Int}(hm: ∀i j,i<j->j<=60->bg i<bg j)(hC:C<=60)(c1:y<bg C)(c2: ∀j,j<C->bg j<=y): ∀(ds:List (Int×Nat×Bool)) (x:Int) (B:Nat),(ds.map (·.1)).Pairwise (· < ·)->(∀t,t∈ds.map (·.1)↔x<t/\t<=y/\((∃j,j<60/\t=bg j)\/ ∃e∈ys,e.2.2.1=t))->(∀z∈ds,z.2.1<60/\bg z.2.1<=z.1/\z.1<bg (z.2.1+1)/\(z.2.2=true↔bg z.2.1=z.1))->x<=y->B<=60->x<bg B->(∀j,j<B->bg j<=x)->vP ys y C x B ds
 | [],x,B,up,mem,sp,xy,B60,b1,b2=>by
  have no: ∀t,¬(x<t/\t<=y/\((∃j,j<60/\t=bg j)\/ ∃e∈ys,e.2.2.1=t)):=λt q=>nomatch (mem t).mpr q;refine⟨?_,xy,λe he q=>no e.2.2.1 ⟨q.1,q.2, .inr ⟨e,he,rfl⟩⟩⟩;rcases Nat.lt_trichotomy B C with h|h|h
  ·exact absurd ⟨b1,c2 B h, .inl ⟨B,'o',rfl⟩⟩ (no (bg B))
  ·exact h
  ·have:=b2 C h;omega
 |z::r,x,B,up,mem,sp,xy,B60,b1,b2=>by
  rw[JA] at up mem;obtain⟨u1,u2⟩:=List.pairwise_cons.mp up;obtain⟨k60,k1,k2,ib⟩:=sp z Jq;obtain⟨xz,zy,_⟩:=(mem z.1).mp Jq;have first: ∀t,x<t->t<z.1->((∃j,j<60/\t=bg j)\/ ∃e∈ys,e.2.2.1=t)->False:=λt h1 h2 h3=>by
   rcases JD.mp ((mem t).mpr ⟨h1,'o',h3⟩) with e|e
   ·omega
   ·have:=u1 t e;omega
  refine⟨xz,λe he q=>first e.2.2.1 q.1 q.2 (.inr ⟨e,he,rfl⟩),?_,?_⟩
  ·by_cases g:z.2.2=true
   ·rw[Jg g];have e:=ib.mp g;rcases Nat.lt_trichotomy z.2.1 B with h|h|h
    ·have:=b2 _ h;omega
    ·exact h
    ·exact(first (bg B) b1 (by have:=hm B z.2.1 h 'o';omega) (.inl ⟨B,'o',rfl⟩)).elim
   ·rw[Jf g];have e:bg z.2.1<z.1:=by
     rcases Int.lt_or_eq_of_le k1 with h|h
     ·exact h
     ·exact absurd (ib.mpr h) g
    rcases Nat.lt_trichotomy (z.2.1+1) B with h|h|h
    ·have:=b2 _ h;omega
    ·exact h
    ·refine(first (bg z.2.1) ?_ e (.inl ⟨z.2.1,k60,rfl⟩)).elim;rcases Nat.lt_or_ge B z.2.1 with q|q
     ·have:=hm B z.2.1 q 'o';omega
     ·have:z.2.1=B:=by omega
      rw[this];exact b1
  ·refine zh4 hm hC c1 c2 r z.1 (z.2.1+1) u2 (λt=> ?_) (λw hw=>sp w (Jl _ hw)) zy 'o' k2 (λj hj=> ?_)
   ·constructor
    ·intro h
     have:=(mem t).mp (Jl _ h);exact⟨u1 t h,this.2⟩
    ·intro h;rcases JD.mp ((mem t).mpr ⟨'o',h.2⟩) with e|e
     ·omega
     ·exact e
   ·rcases Nat.lt_or_ge j z.2.1 with q|q
    ·have:=hm j z.2.1 q 'o';omega
    ·have:j=z.2.1:=by omega
     rw[this];exact k1
theorem zkL(cst:Int->Int->Int)(hk: ∀x y,x<=y->(∀e∈ys,¬(x<e.2.2.1/\e.2.2.1<=y))-> ∀i,cst x i=cst y i)(hc:vP ys y C x 0 ds)(h60: ∀z∈ds,z.2.1<60)(C60:C<=60):zV [zL,zR] (zJ cst ys ds (0,0, [])).1=qP (λi=>cst y i) C:=by
 obtain⟨h1,h2⟩:=zhg cst hk ds (0,0, []) x 0 hc (λi h=>absurd h 'o') (λi _=>rfl);have h3:=zjT cst ys ds (0,0, []) h60;have h4:tot (0,0, []) 60=0:=zez (g:=λi=>tkS (0,0, []) i) 0 60 λi _ _=>rfl;rw[h4,JS] at h3;rw[<-h3];unfold tot;rw[<-zdS h1]
 have:=zez (g:=λi=>tkS (zJ cst ys ds (0,0, [])).2 i) C (60 - C) λi hi _=>h2 i hi;rw[show C+(60 - C)=60 by omega] at this;exact this
def s4F(ls:List Ln):Int:=(ls.map λz=>z.2.2.2.2.1).sum
def s5F(ls:List Ln):Int:=(ls.map λz=>z.2.2.2.2.2.1).sum
theorem zmy(a b:List Ln):s4F (a++b)=s4F a+s4F b:=by unfold s4F;rw[Jd,List.sum_append]
theorem zmz(a b:List Ln):s5F (a++b)=s5F a+s5F b:=by unfold s5F;rw[Jd,List.sum_append]
theorem zh5(a b:List Ln):xB (a++b)=xB a+xB b:=by unfold xB;rw[Jd,List.sum_append]
structure Led (s:Pt) (ls:List Ln) (s':Pt):Prop where
 gv:s'.1=s.1+zV [qh] ls - s4F ls
 ow:s'.2.1=s.2.1 - s5F ls - zV [qi] ls
 eq:zV [zL,zR] ls=s4F ls+s5F ls+xB ls
 pd:0<=xB ls
 gr:0<=zV [qh] ls
 bk:0<=zV [qi] ls
theorem Led.nil(s:Pt):Led s [] s:=⟨by show s.1=s.1+0 - 0;omega,by show s.2.1=s.2.1 - 0 - 0;omega,rfl,Jz _,Jz _,Jz _⟩
theorem Led.app{s2:Pt}{a b:List Ln}(h:Led s a s')(g:Led s' b s2):Led s (a++b) s2:=by
 obtain⟨h1,h2,h3,h4,h5,h6⟩:=h;obtain⟨g1,g2,g3,g4,g5,g6⟩:=g;constructor
 ·rw[xC,zmy];omega
 ·rw[xC,zmz];omega
 ·rw[xC,zmy,zmz,zh5];omega
 ·rw[zh5];omega
 ·rw[xC];omega
 ·rw[xC];omega
structure Pos (s:Pt):Prop where
 g:0<=s.1
 o:0<=s.2.1
 t: ∀i,0<=(zr s.2.2 i).1/\0<=(zr s.2.2 i).2
theorem Pos.zero:Pos (0,0, []):=⟨Jz _,Jz _,λ_=>⟨Jz _,Jz _⟩⟩
theorem zh6(h:Pos s)(day:Int){w:List Nat}(hw:w=zL\/w=zR)(k:Int)(a0:0<=a):Led s [yE s day w k a] (yq s k a)/\Pos (yq s k a):=by
 have x0:0<=tkX s a/\tkX s a<=s.1/\tkX s a<=a:=by have:=h.g;unfold tkX;split<;>omega
 have y0:0<=tkY s a/\tkY s a<=s.2.1/\tkY s a<=a - tkX s a:=by have:=h.o;unfold tkY;split<;>omega
 have am: ∀ks:List (List Nat),zV ks [yE s day w k a]=if w∈ks then a else 0:=λks=>by
  rw[wf,vg,JJ];rfl
 have i1:w∈ [zL,zR]:=by rcases hw with rfl|rfl<;>decide
 have i2: ¬w∈ [qh]:=by rcases hw with rfl|rfl<;>decide
 have i3: ¬w∈ [qi]:=by rcases hw with rfl|rfl<;>decide
 have e4:s4F [yE s day w k a]=tkX s a:=JJ _;have e5:s5F [yE s day w k a]=tkY s a:=JJ _;have e6:xB [yE s day w k a]=a - tkX s a - tkY s a:=JJ _;refine⟨⟨?_,?_,?_,?_,?_,?_⟩,⟨?_,?_,λi=> ?_⟩⟩
 ·rw[am,Jf i2,e4];show s.1 - tkX s a=_;omega
 ·rw[am,Jf i3,e5];show s.2.1 - tkY s a=_;omega
 ·rw[am,Jg i1,e4,e5,e6];omega
 ·rw[e6];omega
 ·rw[am,Jf i2];exact Jz _
 ·rw[am,Jf i3];exact Jz _
 ·show 0<=s.1 - tkX s a;omega
 ·show 0<=s.2.1 - tkY s a;omega
 ·show 0<=(zr (yc s.2.2 k _) i).1/\0<=(zr (yc s.2.2 k _) i).2;rw[jH]
  have:=h.t k;split
  ·show 0<=(zr s.2.2 k).1+tkX s a/\0<=(zr s.2.2 k).2+a - tkX s a;omega
  ·exact h.t i
theorem zmA(h:Pos s)(day k:Int)(a0:0<=a)(a1:a<=tkS s k):Led s [xc s day k a] (qC s k a)/\Pos (qC s k a):=by
 have hk:=h.t k;unfold tkS at a1;have y0:0<=gvY s k a/\gvY s k a<=(zr s.2.2 k).2/\gvY s k a<=a/\a - gvY s k a<=(zr s.2.2 k).1:=by unfold gvY;split<;>omega
 have am: ∀ks:List (List Nat),zV ks [xc s day k a]=if zR∈ks then -a else 0:=λks=>by
  rw[wf,vg,JJ];rfl
 have e4:s4F [xc s day k a]= -(a - gvY s k a):=JJ _;have e5:s5F [xc s day k a]= -(gvY s k a):=JJ _;have e6:xB [xc s day k a]=0:=rfl;refine⟨⟨?_,?_,?_,?_,?_,?_⟩,⟨?_,?_,λi=> ?_⟩⟩
 ·rw[am,Jf 'd',e4];show s.1+(a - gvY s k a)=_;omega
 ·rw[am,Jf 'd',e5];show s.2.1+gvY s k a=_;omega
 ·rw[am,Jg 'd',e4,e5,e6];omega
 ·rw[e6];exact Jz _
 ·rw[am,Jf 'd'];exact Jz _
 ·rw[am,Jf 'd'];exact Jz _
 ·have:=h.g;show 0<=s.1+(a - gvY s k a);omega
 ·have:=h.o;show 0<=s.2.1+gvY s k a;omega
 ·show 0<=(zr (yc s.2.2 k _) i).1/\0<=(zr (yc s.2.2 k _) i).2;rw[jH];split
  ·show 0<=(zr s.2.2 k).1 - (a - gvY s k a)/\0<=(zr s.2.2 k).2 - gvY s k a;omega
  ·exact h.t i
theorem zfC(day:Int): ∀(ps:List (Int×Int)) (s:Pt),Pos s->(ps.map (·.1)).Nodup->(∀z∈ps, -z.2<=tkS s z.1)->Led s (zG day ps s).1 (zG day ps s).2/\Pos (zG day ps s).2
 | [],s,h,_,_=>⟨Led.nil s,h⟩
 |z::r,s,h,nd,hz=>by
  rw[JA,List.nodup_cons] at nd;have hr: ∀y∈r, -y.2<=tkS s y.1:=λy hy=>hz y (Jl _ hy);rw[zG];by_cases n:z.2<0
  ·rw[Jg n];obtain⟨l1,p1⟩:=zmA h day z.1 (a:= -z.2) 'o' (hz z Jq);have hr2: ∀y∈r, -y.2<=tkS (qC s z.1 (-z.2)) y.1:=λy hy=>by
    rw[zhb,Jf (λe=>nd.1 (by rw[<-e];exact Jw.mpr ⟨y,hy,rfl⟩)),Int.sub_zero];exact hr y hy
   obtain⟨l2,p2⟩:=zfC day r _ p1 nd.2 hr2;exact⟨l1.app l2,p2⟩
  ·rw[Jf n];exact zfC day r s h nd.2 hr
theorem zfD(day:Int): ∀(ps:List (Int×Int)) (s:Pt),Pos s->Led s (zM day ps s).1 (zM day ps s).2/\Pos (zM day ps s).2
 | [],s,h=>⟨Led.nil s,h⟩
 |z::r,s,h=>by
  rw[zM];by_cases n:0<z.2
  ·rw[Jg n];obtain⟨l1,p1⟩:=zh6 h day (w:=zR) (.inr rfl) z.1 (a:=z.2) 'o';obtain⟨l2,p2⟩:=zfD day r _ p1;exact⟨l1.app l2,p2⟩
  ·rw[Jf n];exact zfD day r s h
theorem zkM(day:Int)(cs:List Int)(s:Pt)(h:Pos s)(c0: ∀x∈cs,0<=x):Led s (yG day cs s).1 (yG day cs s).2/\Pos (yG day cs s).2:=by
 obtain⟨l1,p1⟩:=zfC day (zU s cs) s h (by
  unfold zU;rw[List.map_map];have e:cs.zipIdx.map ((λz:Int×Int=>z.1) ∘ λz:Int×Nat=>((z.2:Int),z.1 - ((zr s.2.2 z.2).1+(zr s.2.2 z.2).2)))=(List.range cs.length).map λi:Nat=>(i:Int):=by
   rw[show ((λz:Int×Int=>z.1) ∘ λz:Int×Nat=>((z.2:Int),z.1 - ((zr s.2.2 z.2).1+(zr s.2.2 z.2).2)))=(λi:Nat=>(i:Int)) ∘ Prod.snd from rfl,<-List.map_map,List.zipIdx_map_snd,List.range_eq_range']
  rw[e];refine List.pairwise_map.mpr (List.nodup_range.imp λh e=>h 'o')) (λz hz=>by
  obtain⟨w,hw,rfl⟩:=Jw.mp hz
  have:=c0 w.1 (List.fst_mem_of_mem_zipIdx hw);show -(w.1 - tkS s w.2)<=tkS s w.2;omega)
 obtain⟨l2,p2⟩:=zfD day (zU s cs) _ p1;exact⟨l1.app l2,p2⟩
theorem zgz(day:Int): ∀(ys:List En) (n:Nat) (s:Pt),Pos s->(∀z∈ys,∀a,z.2.2.2= .grant a->0<=a)->Led s (zX day n ys) (s.1+zF day ys,s.2)/\Pos (s.1+zF day ys,s.2)
 | [],n,s,h,_=>by
  have e:(s.1+zF day [],s.2)=s:=by show (s.1+0,s.2)=s;rw[JJ]
  rw[e];exact⟨Led.nil s,h⟩
 |z::r,n,s,h,hg=>by
  have hr: ∀y∈r,∀a,y.2.2.2= .grant a->0<=a:=λy hy=>hg y (Jl _ hy);have hz:=hg z Jq;obtain⟨a,l,ea,el,a0,l1⟩: ∃(a:Int) (l:List Ln),zF day (z::r)=a+zF day r/\zX day n (z::r)=l++zX day (n+1) r/\0<=a/\Led s l (s.1+a,s.2):=by
   have no:Led s [] (s.1+0,s.2):=by rw[JJ];exact Led.nil s
   obtain⟨v,ad,en,ch⟩:=z;cases ch with
   |grant a=>
    have a0:=hz a rfl;by_cases d:en=day
    ·refine⟨a, [(day,qh,(n:Int),a,0,0,0)],by rw[zF];simp only[d,if_true],by rw[zX];simp only[d,if_true],a0,?_⟩;have am: ∀ks:List (List Nat),zV ks [((day,qh,(n:Int),a,0,0,0):Ln)]=if qh∈ks then a else 0:=λks=>by
      rw[wf,vg,JJ]
     refine⟨?_,?_,?_,Jz _,?_,?_⟩
     ·rw[am,Jg 'd'];show s.1+a=s.1+a - 0;omega
     ·rw[am,Jf 'd'];show s.2.1=s.2.1 - 0 - 0;omega
     ·rw[am,Jf 'd'];rfl
     ·rw[am,Jg 'd'];exact a0
     ·rw[am,Jf 'd'];exact Jz _
    ·exact⟨0, [],by rw[zF];simp only[d,if_false],by rw[zX];simp only[d,if_false],Jz _,no⟩
   |_=>exact⟨0, [],rfl,rfl,Jz _,no⟩
  rw[ea,el];have p1:Pos (s.1+a,s.2):=⟨by have:=h.g;show 0<=s.1+a;omega,h.o,h.t⟩
  obtain⟨l2,p2⟩:=zgz day r (n+1) _ p1 hr;have e:((s.1+a,s.2).1+zF day r,(s.1+a,s.2).2)=(s.1+(a+zF day r),s.2):=by rw[Int.add_assoc]
  rw[e] at l2 p2;exact⟨l1.app l2,p2⟩
theorem zmB(day:Int)(ys:List En)(s:Pt)(h:Pos s):Led s (yk day ys s).1 (yk day ys s).2/\Pos (yk day ys s).2:=by
 unfold yk;split
 ·refine⟨?_,⟨h.g,Jz _,h.t⟩⟩;dsimp only;split
  ·rename_i z;exact⟨by show s.1=s.1+0 - 0;omega,by show 0=s.2.1 - 0 - 0;omega,rfl,Jz _,Jz _,Jz _⟩
  ·have am: ∀ks:List (List Nat),zV ks [((day,qi, -1,s.2.1,0,0,0):Ln)]=if qi∈ks then s.2.1 else 0:=λks=>by
    rw[wf,vg,JJ]
   refine⟨?_,?_,?_,Jz _,?_,?_⟩
   ·rw[am,Jf 'd'];show s.1=s.1+0 - 0;omega
   ·rw[am,Jg 'd'];show 0=s.2.1 - 0 - s.2.1;omega
   ·rw[am,Jf 'd'];rfl
   ·rw[am,Jf 'd'];exact Jz _
   ·rw[am,Jg 'd'];exact h.o
 ·exact⟨Led.nil s,h⟩
theorem zmC(cst:Int->Int->Int)(ys:List En)(day:Int)(k:Nat)(isb:Bool)(s:Pt)(h:Pos s)(hk:k<60)(c0: ∀i:Nat,i<60->0<=cst day i)(hg: ∀z∈ys,∀a,z.2.2.2= .grant a->0<=a):Led s (yd cst ys day k isb s).1 (yd cst ys day k isb s).2/\Pos (yd cst ys day k isb s).2:=by
 unfold yd;dsimp only;obtain⟨l1,p1⟩:=zgz day ys 0 s h hg;obtain⟨r,hr⟩: ∃r,r=(if (ys.any λz=>decide (z.2.2.1=day))=true then yG day ((List.range (if isb=true then k else k+1)).map λi:Nat=>cst day i) (s.1+zF day ys,s.2) else ([],(s.1+zF day ys,s.2))):=⟨_,rfl⟩
 rw[<-hr];obtain⟨l2,p2⟩:Led (s.1+zF day ys,s.2) r.1 r.2/\Pos r.2:=by
  rw[hr];split
  ·refine zkM day _ _ p1 λx hx=> ?_;obtain⟨i,hi,rfl⟩:=Jw.mp hx
   have:=List.mem_range.mp hi;exact c0 i (by split at this<;>omega)
  ·exact⟨Led.nil _,p1⟩
 obtain⟨b,hb⟩: ∃b,b=(if isb=true then ([yE r.2 day zL k (cst day k)],yq r.2 k (cst day k)) else ([],r.2)):=⟨_,rfl⟩
 rw[<-hb];obtain⟨l3,p3⟩:Led r.2 b.1 b.2/\Pos b.2:=by
  rw[hb];split
  ·exact zh6 p2 day (.inl rfl) k (c0 k hk)
  ·exact⟨Led.nil _,p2⟩
 obtain⟨l4,p4⟩:=zmB day ys b.2 p3;exact⟨((l1.app l2).app l3).app l4,p4⟩
theorem zh7(cst:Int->Int->Int)(ys:List En)(hg: ∀z∈ys,∀a,z.2.2.2= .grant a->0<=a): ∀(ds:List (Int×Nat×Bool)) (s:Pt),Pos s->(∀z∈ds,z.2.1<60)->(∀z∈ds,∀i:Nat,i<60->0<=cst z.1 i)->Led s (zJ cst ys ds s).1 (zJ cst ys ds s).2/\Pos (zJ cst ys ds s).2
 | [],s,h,_,_=>⟨Led.nil s,h⟩
 |z::r,s,h,hk,c0=>by
  obtain⟨l1,p1⟩:=zmC cst ys z.1 z.2.1 z.2.2 s h (hk z Jq) (c0 z Jq) hg;obtain⟨l2,p2⟩:=zh7 cst ys hg r _ p1 (λx hx=>hk x (Jl _ hx)) (λx hx=>c0 x (Jl _ hx));exact⟨l1.app l2,p2⟩
theorem zfE(day:Int): ∀(ps:List (Int×Int)) (s:Pt),∀z∈(zG day ps s).1,z.1=day/\z.2.1=zR
 | [],s,z,h=>nomatch h
 |p::r,s,z,h=>by
  rw[zG] at h;split at h
  ·rcases JD.mp h with rfl|h
   ·exact⟨rfl,rfl⟩
   ·exact zfE day r _ z h
  ·exact zfE day r _ z h
theorem zfF(day:Int): ∀(ps:List (Int×Int)) (s:Pt),∀z∈(zM day ps s).1,z.1=day/\z.2.1=zR
 | [],s,z,h=>nomatch h
 |p::r,s,z,h=>by
  rw[zM] at h;split at h
  ·rcases JD.mp h with rfl|h
   ·exact⟨rfl,rfl⟩
   ·exact zfF day r _ z h
  ·exact zfF day r _ z h
theorem zkN(day:Int)(cs:List Int)(s:Pt): ∀z∈(yG day cs s).1,z.1=day/\z.2.1=zR:=λz h=>by
 rcases Jr.mp h with h|h
 ·exact zfE _ _ _ z h
 ·exact zfF _ _ _ z h
theorem zdT(cst:Int->Int->Int)(ys:List En)(day:Int)(k:Nat)(isb:Bool)(s:Pt): ∃r b:List Ln×Pt,(yd cst ys day k isb s).1=zX day 0 ys++r.1++b.1++(yk day ys b.2).1/\(yd cst ys day k isb s).2=(yk day ys b.2).2/\
  (r=yG day ((List.range (if isb=true then k else k+1)).map λi:Nat=>cst day i) (s.1+zF day ys,s.2)\/r=([],(s.1+zF day ys,s.2)))/\b=(if isb=true then ([yE r.2 day zL k (cst day k)],yq r.2 k (cst day k)) else ([],r.2)):=by
 refine⟨_,_,rfl,rfl,?_,rfl⟩;split
 ·exact .inl rfl
 ·exact .inr rfl
theorem zmD{k:Nat}{isb:Bool}{r b:List Ln×Pt}(h:b=(if isb=true then ([yE r.2 day zL k a],yq r.2 k a) else ([],r.2))): ∀z∈b.1,z.1=day/\z.2.1=zL/\z.2.2.1=k/\isb=true:=λz hz=>by
 subst h;split at hz
 ·rename_i q;rw[Jm.mp hz];exact⟨rfl,rfl,rfl,q⟩
 ·nomatch hz
theorem zob: ∀z∈zU s cs,0<=z.1/\z.1<cs.length:=λz hz=>by
 obtain⟨i,hi,rfl⟩:=List.mem_iff_getElem.mp hz
 have:=zjO (s:=s) (cs:=cs) (i:=i) (by rw[Jb hi]);rw[vN] at hi;omega
def tk1(s:Pt)(z:Ln):Pt:=if z.2.1=qh then (s.1+z.2.2.2.1,s.2) else if z.2.1=qi then (s.1,s.2.1 - z.2.2.2.1,s.2.2) else (s.1 - z.2.2.2.2.1,s.2.1 - z.2.2.2.2.2.1,yc s.2.2 z.2.2.1 ((zr s.2.2 z.2.2.1).1+z.2.2.2.2.1,(zr s.2.2 z.2.2.1).2+z.2.2.2.2.2.1+z.2.2.2.2.2.2))
def zqh(z:Ln):Prop:=z.2.1=qh\/z.2.1=qi\/((z.2.1=zR\/z.2.1=zL)/\z.2.2.2.1=z.2.2.2.2.1+z.2.2.2.2.2.1+z.2.2.2.2.2.2)
def Tkn(s:Pt)(ls:List Ln)(s':Pt):Prop:=ls.foldl tk1 s=s'/\ ∀z∈ls,zqh z
theorem Tkn.nil(s:Pt):Tkn s [] s:=⟨rfl,λ_ h=>nomatch h⟩
theorem Tkn.app{s1 s2:Pt}{a b:List Ln}(h:Tkn s a s1)(k:Tkn s1 b s2):Tkn s (a++b) s2:=⟨by rw[List.foldl_append,h.1,k.1],λz hz=>(Jr.mp hz).elim (h.2 z) (k.2 z)⟩
theorem zh8(s:Pt)(day:Int){w:List Nat}(hw:w=zR\/w=zL)(k a:Int):Tkn s [yE s day w k a] (yq s k a):=by
 refine⟨?_,λz hz=> ?_⟩
 ·show tk1 s (yE s day w k a)=_;unfold tk1 yE yq;dsimp only;rw[Jf (by rcases hw with rfl|rfl<;>decide),Jf (by rcases hw with rfl|rfl<;>decide)];congr 4;omega
 ·rw[Jm.mp hz];exact .inr (.inr ⟨hw,by show a=tkX s a+tkY s a+(a - tkX s a - tkY s a);omega⟩)
theorem zmE(s:Pt)(day k a:Int):Tkn s [xc s day k a] (qC s k a):=by
 refine⟨?_,λz hz=> ?_⟩
 ·show tk1 s (xc s day k a)=_;unfold tk1 xc qC;dsimp only;rw[Jf 'd',Jf 'd'];have e1:s.1 - -(a - gvY s k a)=s.1+(a - gvY s k a):=by omega
  have e2:s.2.1 - -(gvY s k a)=s.2.1+gvY s k a:=by omega
  have e3:(zr s.2.2 k).1+ -(a - gvY s k a)=(zr s.2.2 k).1 - (a - gvY s k a):=by omega
  have e4:(zr s.2.2 k).2+ -(gvY s k a)+0=(zr s.2.2 k).2 - gvY s k a:=by omega
  rw[e1,e2,e3,e4]
 ·rw[Jm.mp hz];exact .inr (.inr ⟨.inl rfl,by show -a= -(a - gvY s k a)+ -(gvY s k a)+0;omega⟩)
theorem zfG(day:Int): ∀(ps:List (Int×Int)) (s:Pt),Tkn s (zG day ps s).1 (zG day ps s).2
 | [],s=>Tkn.nil s
 |z::r,s=>by
  rw[zG];split
  ·exact(zmE s day z.1 (-z.2)).app (zfG day r _)
  ·exact zfG day r s
theorem zfH(day:Int): ∀(ps:List (Int×Int)) (s:Pt),Tkn s (zM day ps s).1 (zM day ps s).2
 | [],s=>Tkn.nil s
 |z::r,s=>by
  rw[zM];split
  ·exact(zh8 s day (.inl rfl) z.1 z.2).app (zfH day r _)
  ·exact zfH day r s
theorem zeA(day:Int): ∀(ys:List En) (n:Nat) (s:Pt),Tkn s (zX day n ys) (s.1+zF day ys,s.2)
 | [],n,s=>by show Tkn s [] (s.1+0,s.2);rw[JJ];exact Tkn.nil s
 |(v,ad,e,ch)::r,n,s=>by
  have no:Tkn s (zX day (n+1) r) (s.1+(0+zF day r),s.2):=by rw[JS];exact zeA day r (n+1) s
  rw[zX,zF];cases ch with
  |grant a=>
   by_cases d:e=day
   ·simp only[d,if_true]
    have:=zeA day r (n+1) (s.1+a,s.2);rw[show ((s.1+a,s.2).1+zF day r,(s.1+a,s.2).2)=(s.1+(a+zF day r),s.2) by rw[Int.add_assoc]] at this;refine Tkn.app (s1:=(s.1+a,s.2)) ⟨rfl,λz hz=> ?_⟩ this;rw[Jm.mp hz];exact .inl rfl
   ·simp only[d,if_false];exact no
  |_=>exact no
theorem zmF(day:Int)(ys:List En)(s:Pt):Tkn s (yk day ys s).1 (yk day ys s).2:=by
 unfold yk;split
 ·dsimp only;split
  ·rename_i z;rw[show (s.1,(0:Int),s.2.2)=s by rw[<-z]];exact Tkn.nil s
  ·refine⟨?_,λz hz=> ?_⟩
   ·show tk1 s (day,qi, -1,s.2.1,0,0,0)=_;unfold tk1;dsimp only;rw[Jf 'd',Jg rfl,Int.sub_self]
   ·rw[Jm.mp hz];exact .inr (.inl rfl)
 ·exact Tkn.nil s
theorem zmG(cst:Int->Int->Int)(ys:List En)(day:Int)(k:Nat)(isb:Bool)(s:Pt):Tkn s (yd cst ys day k isb s).1 (yd cst ys day k isb s).2:=by
 obtain⟨r,b,e1,e2,hr,hb⟩:=zdT cst ys day k isb s;rw[e1,e2];refine(((zeA day ys 0 s).app (?_:Tkn _ r.1 r.2)).app (?_:Tkn r.2 b.1 b.2)).app (zmF day ys b.2)
 ·rcases hr with rfl|rfl
  ·exact(zfG day _ _).app (zfH day _ _)
  ·exact Tkn.nil _
 ·subst hb;split
  ·exact zh8 _ day (.inr rfl) _ _
  ·exact Tkn.nil _
theorem zh9(cst:Int->Int->Int)(ys:List En): ∀(ds:List (Int×Nat×Bool)) (s:Pt),Tkn s (zJ cst ys ds s).1 (zJ cst ys ds s).2
 | [],s=>Tkn.nil s
 |z::r,s=>(zmG cst ys z.1 z.2.1 z.2.2 s).app (zh9 cst ys r _)
def y6(T:Tab)(B:Nat):Prop:=T.map (·.1)=(List.range B).map λi:Nat=>(i:Int)
theorem jL{k:Int}:(T.any λz=>decide (z.1=k))=true↔k∈T.map (·.1):=by
 rw[List.any_eq_true,Jw];exact⟨λ⟨z,h,e⟩=>⟨z,h,of_decide_eq_true e⟩,λ⟨z,h,e⟩=>⟨z,h,JO e⟩⟩
theorem zjU{k:Int}(v:Int×Int)(h:k∈T.map (·.1)):(yc T k v).map (·.1)=T.map (·.1):=by
 unfold yc;rw[Jg (jL.mpr h),List.map_map];refine List.map_congr_left λz _=> ?_;show (if z.1=k then (z.1,v) else z).1=z.1;split<;>rfl
theorem zjV{k:Int}(v:Int×Int)(h: ¬k∈T.map (·.1)):(yc T k v).map (·.1)=T.map (·.1)++ [k]:=by
 unfold yc;rw[Jf (λq=>h (jL.mp q)),Jd];rfl
theorem y6.mem(h:y6 T B){k:Int}:k∈T.map (·.1)↔0<=k/\k<B:=by
 rw[h,Jw];refine⟨λ⟨i,hi,e⟩=> ?_,λq=>⟨k.toNat,List.mem_range.mpr 'o','o'⟩⟩
 have:=List.mem_range.mp hi;omega
theorem y6.put(h:y6 T B){k:Int}(v:Int×Int)(k0:0<=k)(k1:k<B):y6 (yc T k v) B:=(zjU v (h.mem.mpr ⟨k0,k1⟩)).trans h
theorem y6.new(h:y6 T B)(v:Int×Int):y6 (yc T B v) (B+1):=by
 unfold y6;rw[zjV v (λq=>by have:=h.mem.mp q;omega),h,JQ,Jd];rfl
theorem y6.len(h:y6 T B):T.length=B:=by
 have:=congrArg List.length h;rwa[Ja,Ja,JI] at this
theorem zfI(day:Int){B:Nat}: ∀(ps:List (Int×Int)) (s:Pt),(∀z∈ps,0<=z.1/\z.1<(B:Int))->y6 s.2.2 B->y6 (zG day ps s).2.2.2 B
 | [],_,_,h=>h
 |z::r,s,hz,h=>by
  have hr:=λy hy=>hz y (Jl _ hy);rw[zG];split
  ·exact zfI day r _ hr (h.put _ (hz z Jq).1 (hz z Jq).2)
  ·exact zfI day r s hr h
theorem zfJ(day:Int){B:Nat}: ∀(ps:List (Int×Int)) (s:Pt),(∀z∈ps,0<=z.1/\z.1<(B:Int))->y6 s.2.2 B->y6 (zM day ps s).2.2.2 B
 | [],_,_,h=>h
 |z::r,s,hz,h=>by
  have hr:=λy hy=>hz y (Jl _ hy);rw[zM];split
  ·exact zfJ day r _ hr (h.put _ (hz z Jq).1 (hz z Jq).2)
  ·exact zfJ day r s hr h
theorem zmH(cst:Int->Int->Int)(ys:List En)(day:Int){k:Nat}{isb:Bool}(hB:(if isb=true then k else k+1)=B)(h:y6 s.2.2 B):y6 (yd cst ys day k isb s).2.2.2 (k+1):=by
 obtain⟨r,b,_,e2,hr,hb⟩:=zdT cst ys day k isb s;have h1:y6 r.2.2.2 B:=by
  rcases hr with rfl|rfl
  ·have hz: ∀z∈zU (s.1+zF day ys,s.2) ((List.range (if isb=true then k else k+1)).map λi:Nat=>cst day i),0<=z.1/\z.1<(B:Int):=λz hz=>by
    have:=zob z hz;rw[Ja,JI,hB] at this;exact this
   exact zfJ day _ _ hz (zfI day _ _ hz h)
  ·exact h
 have h2:y6 b.2.2.2 (k+1):=by
  subst hb;by_cases q:isb=true
  ·rw[Jg q] at hB ⊢;subst hB;exact h1.new _
  ·rw[Jf q] at hB ⊢;subst hB;exact h1
 rw[e2];unfold yk;split
 ·exact h2
 ·exact h2
theorem zia(cst:Int->Int->Int)(ys:List En){y:Int}{C:Nat}: ∀(ds:List (Int×Nat×Bool)) (s:Pt) (x:Int) (B:Nat),vP ys y C x B ds->y6 s.2.2 B->y6 (zJ cst ys ds s).2.2.2 C
 | [],s,x,B,h,k=>by rw[<-h.1];exact k
 |z::r,s,x,B,h,k=>zia cst ys r _ z.1 (z.2.1+1) h.2.2.2 (zmH cst ys z.1 h.2.2.1 k)
theorem zqi{f:Int}{dy:Bool}{e:Int}(wd:WDays f dy c ys day ds)(he:e<=day): ∃a b,ds=a++b/\WDays f dy c ys e a/\ ∀z∈b,e<z.1:=by
 have key: ∀l:List (Int×Nat×Bool),(l.map (·.1)).Pairwise (· < ·)-> ∃a b,l=a++b/\(∀z∈a,z.1<=e)/\ ∀z∈b,e<z.1:=by
  intro l;induction l with
  |nil=>exact λ_=>⟨[], [],rfl,⟨λ_ h=>(List.not_mem_nil h).elim,λ_ h=>(List.not_mem_nil h).elim⟩⟩
  |cons z r ih=>
   intro h;rw[JA,List.pairwise_cons] at h;by_cases q:z.1<=e
   ·obtain⟨a,b,e1,h1,h2⟩:=ih h.2;exact⟨z::a,b,by rw[e1];rfl,λy hy=>(JD.mp hy).elim (λe=>e ▸ q) (h1 y),h2⟩
   ·refine⟨[],z::r,rfl,⟨λ_ h=>(List.not_mem_nil h).elim,λy hy=> ?_⟩⟩;rcases JD.mp hy with rfl|hy
    ·omega
    ·have:=h.1 y.1 (Jw.mpr ⟨y,hy,rfl⟩);omega
 obtain⟨a,b,e1,h1,h2⟩:=key ds wd.up;subst e1;refine⟨a,b,rfl,⟨?_,λz hz=>wd.sp z (List.mem_append_left _ hz),λx=> ?_⟩,h2⟩
 ·have:=wd.up;rw[Jd] at this;exact(List.pairwise_append.mp this).1
 ·have m:=wd.mem x;rw[Jd,Jr] at m;refine⟨λh=> ?_,λh=> ?_⟩
  ·obtain⟨z,hz,rfl⟩:=Jw.mp h;exact⟨h1 z hz,(m.mp (.inl h)).2⟩
  ·rcases m.mpr ⟨'o',h.2⟩ with q|q
   ·exact q
   ·obtain⟨z,hz,rfl⟩:=Jw.mp q
    have:=h2 z hz;omega
def Zz(z:Ln):Prop:=(z.2.1=qh\/z.2.1=qi)->z.2.2.2.2.1=0/\z.2.2.2.2.2.1=0/\z.2.2.2.2.2.2=0
theorem zib(day:Int): ∀(ys:List En) (n:Nat),∀z∈zX day n ys,Zz z
 | [],n,z,h=>nomatch h
 |(v,ad,e,ch)::r,n,z,h=>by
  rw[zX] at h;rcases Jr.mp h with h|h
  ·cases ch with
   |grant a=>
    dsimp only at h;split at h
    ·rw[Jm.mp h];exact λ_=>⟨rfl,rfl,rfl⟩
    ·nomatch h
   |_=>nomatch h
  ·exact zib day r _ z h
theorem zoc(day:Int)(ys:List En)(s:Pt): ∀z∈(yk day ys s).1,Zz z:=λz h=>by
 unfold yk at h;split at h
 ·dsimp only at h;split at h
  ·nomatch h
  ·rw[Jm.mp h];exact λ_=>⟨rfl,rfl,rfl⟩
 ·nomatch h
theorem zjW(cst:Int->Int->Int)(ys:List En): ∀(ds:List (Int×Nat×Bool)) (s:Pt),∀z∈(zJ cst ys ds s).1,Zz z
 | [],s,z,h=>nomatch h
 |y::r,s,z,h=>by
  rcases Jr.mp h with h|h
  ·obtain⟨r,b,e1,_,hr,hb⟩:=zdT cst ys y.1 y.2.1 y.2.2 s;rw[e1] at h;rcases Jr.mp h with h|h
   ·rcases Jr.mp h with h|h
    ·rcases Jr.mp h with h|h
     ·exact zib _ _ _ z h
     ·rcases hr with rfl|rfl
      ·have:=(zkN _ _ _ z h).2;exact λq=>absurd q (by rw[this];decide)
      ·nomatch h
    ·have:=(zmD hb z h).2.1;exact λq=>absurd q (by rw[this];decide)
   ·exact zoc _ _ _ z h
  ·exact zjW cst ys r _ z h
def qQ(φ:Int×Int->Int)(T:Tab):Int:=(T.map λz=>φ z.2).sum
theorem zjX{k:Int}: ∀{T:Tab},¬k∈T.map (·.1)->zr T k=(0,0)
 | [],_=>rfl
 |z::r,h=>by
  rw[JA,JD,not_or] at h;rw[zr,Jf (λe=>h.1 e.symm)];exact zjX h.2
theorem zjY: ∀{T:Tab},(T.map (·.1)).Nodup-> ∀z∈T,zr T z.1=z.2
 |y::r,h,z,hz=>by
  rw[JA,List.nodup_cons] at h;rcases JD.mp hz with rfl|hz
  ·rw[zr,Jg rfl]
  ·rw[zr,Jf (λe=>h.1 (by rw[e];exact Jw.mpr ⟨z,hz,rfl⟩))];exact zjY h.2 z hz
theorem zic(φ:Int×Int->Int)(k:Int)(v:Int×Int): ∀{T:Tab},(T.map (·.1)).Nodup->k∈T.map (·.1)->qQ φ (T.map λz=>if z.1=k then (z.1,v) else z)=qQ φ T - φ (zr T k)+φ v
 |z::r,h,hk=>by
  rw[JA,List.nodup_cons] at h;unfold qQ;rw[JA,JA,List.sum_cons,JA,List.sum_cons];by_cases e:z.1=k
  ·have same:r.map (λz=>if z.1=k then (z.1,v) else z)=r:=by
    refine(List.map_congr_left λy hy=> ?_).trans (List.map_id r);exact Jf (λq=>h.1 (by rw[e,<-q];exact Jw.mpr ⟨y,hy,rfl⟩))
   rw[same,Jg e,zr,Jg e];show φ v+_=_;omega
  ·have ih:=zic φ k v h.2 ((JD.mp hk).resolve_left λq=>e q.symm);unfold qQ at ih;rw[Jf e,ih,zr,Jf e];omega
theorem zmI(φ:Int×Int->Int)(h0:φ (0,0)=0)(k:Int)(v:Int×Int)(h:(T.map (·.1)).Nodup):qQ φ (yc T k v)=qQ φ T - φ (zr T k)+φ v/\((yc T k v).map (·.1)).Nodup:=by
 by_cases hk:k∈T.map (·.1)
 ·refine⟨?_,by rw[zjU v hk];exact h⟩;unfold yc;rw[Jg (jL.mpr hk)];exact zic φ k v h hk
 ·refine⟨?_,by rw[zjV v hk];exact List.nodup_append.mpr ⟨h,List.nodup_cons.mpr ⟨nofun,List.Pairwise.nil⟩,λx hx y hy e=>by
   rw[Jm.mp hy] at e;exact hk (e ▸ hx)⟩⟩
  unfold yc qQ;rw[Jf (λq=>hk (jL.mp q)),zjX hk,h0,Jd,List.sum_append];show _+(φ v+0)=_;omega
theorem uC(φ:Int×Int->Int)(ψ:Ln->Int)(h0:φ (0,0)=0)(hφ: ∀(o:Int×Int) (z:Ln),φ (o.1+z.2.2.2.2.1,o.2+z.2.2.2.2.2.1+z.2.2.2.2.2.2)=φ o+ψ z)(hψ: ∀z,Zz z->z.2.1=qh\/z.2.1=qi->ψ z=0): ∀(ls:List Ln) (S:Pt),(S.2.2.map (·.1)).Nodup->(∀z∈ls,Zz z)->qQ φ (ls.foldl tk1 S).2.2=qQ φ S.2.2+(ls.map ψ).sum
 | [],S,_,_=>(JJ _).symm
 |z::r,S,hn,hz=>by
  have hr: ∀z∈r,Zz z:=λx hx=>hz x (Jl _ hx);have zz:=hz z Jq;rw[List.foldl_cons,JA,List.sum_cons];by_cases h1:z.2.1=qh
  ·have e:(tk1 S z).2.2=S.2.2:=by unfold tk1;rw[Jg h1]
   rw[uC φ ψ h0 hφ hψ r _ (by rw[e];exact hn) hr,e,hψ z zz (.inl h1),JS]
  ·by_cases h2:z.2.1=qi
   ·have e:(tk1 S z).2.2=S.2.2:=by unfold tk1;rw[Jf h1,Jg h2]
    rw[uC φ ψ h0 hφ hψ r _ (by rw[e];exact hn) hr,e,hψ z zz (.inr h2),JS]
   ·have e:(tk1 S z).2.2=yc S.2.2 z.2.2.1 ((zr S.2.2 z.2.2.1).1+z.2.2.2.2.1,(zr S.2.2 z.2.2.1).2+z.2.2.2.2.2.1+z.2.2.2.2.2.2):=by unfold tk1;rw[Jf h1,Jf h2]
    obtain⟨p1,p2⟩:=zmI φ h0 z.2.2.1 ((zr S.2.2 z.2.2.1).1+z.2.2.2.2.1,(zr S.2.2 z.2.2.1).2+z.2.2.2.2.2.1+z.2.2.2.2.2.2) hn;rw[uC φ ψ h0 hφ hψ r _ (by rw[e];exact p2) hr,e,p1,hφ];omega
theorem jM{x:Int}: ∀(ys zs:List En) (n:Nat),(∀z∈zs,z.2.2.1≠x)->zX x n (ys++zs)=zX x n ys/\zF x (ys++zs)=zF x ys
 | [], [],n,_=>⟨rfl,rfl⟩
 | [],(v,ad,e,ch)::r,n,h=>by
  have ih:=jM (x:=x) [] r (n+1) λz hz=>h z (Jl _ hz);have hh:e≠x:=h (v,ad,e,ch) Jq;rw[List.nil_append] at ih ⊢;refine⟨?_,?_⟩
  ·rw[show zX x n ((v,ad,e,ch)::r)=_++zX x (n+1) r from rfl,ih.1];cases ch<;>simp [hh,zX]
  ·rw[show zF x ((v,ad,e,ch)::r)=_+zF x r from rfl,ih.2];cases ch<;>simp [hh,zF]
 |y::r,zs,n,h=>by
  have ih:=jM (x:=x) r zs (n+1) h;rw[List.cons_append,zX,zF,ih.1,ih.2];exact⟨rfl,rfl⟩
theorem zmJ{p:En->Bool}(h: ∀z∈zs,z.2.2.1≠x):((ys++zs).any λz=>decide (z.2.2.1=x) && p z)=ys.any λz=>decide (z.2.2.1=x) && p z:=by
 rw[List.any_append]
 have:(zs.any λz=>decide (z.2.2.1=x) && p z)=false:=List.any_eq_false.mpr λz hz q=>h z hz (of_decide_eq_true (Bool.and_eq_true _ _ ▸ q).1);rw[this,Bool.or_false]
theorem zod{c1 c2:Int->Int->Int}(k:Nat)(isb:Bool)(s:Pt)(h: ∀z∈zs,z.2.2.1≠x)(hc: ∀i,c1 x i=c2 x i):yd c1 (ys++zs) x k isb s=yd c2 ys x k isb s:=by
 have e1:((ys++zs).any λz=>decide (z.2.2.1=x))=ys.any λz=>decide (z.2.2.1=x):=by
  have:=zmJ (p:=λ_=>true) (ys:=ys) h;simpa using this
 have e2: ∀s,yk x (ys++zs) s=yk x ys s:=λs=>by
  unfold yk;rw[show vM x (ys++zs)=vM x ys from zmJ h]
 unfold yd;rw[e1,(jM ys zs 0 h).1,(jM ys zs 0 h).2];simp only[e2,hc]
theorem zjZ{c1 c2:Int->Int->Int}{ys zs:List En}: ∀(ds:List (Int×Nat×Bool)) (s:Pt),(∀d∈ds,(∀z∈zs,z.2.2.1≠d.1)/\ ∀i,c1 d.1 i=c2 d.1 i)->zJ c1 (ys++zs) ds s=zJ c2 ys ds s
 | [],s,_=>rfl
 |d::r,s,h=>by
  have hd:=h d Jq;rw[zJ,zJ,zod d.2.1 d.2.2 s hd.1 hd.2,zjZ r _ λx hx=>h x (Jl _ hx)]
end L2
namespace K90
open PySem L2
variable{G:Int->List D}{H H' H0:Hp}{Q:VK}{E:XK}{m c e day b sb se mo i x:Int}{K:Fg}{dy:Bool}{l pa a r dx la lr:Addr}{ch:Ch}{ts:List Tm}{α:Type}{zs:List (V×Pl)}{o0 o1 o2:Option Rt}{F:Int->Int}{xs:List V}{ys:List En}{nms:List (List Nat)}{s:Pt}{ws:List (Addr×Ln)}{ds:List (Int×Nat×Bool)}{Gm:Int->Int->List D}{cs:List Int}
theorem opq{G:Prop}(h: ∀X:Prop,(G->X)->X):G:=h G id
theorem gq{sp:Sp}{vs:List V}(h: ∀Q':VK,(∀v H,Q v H->Q' v H)->sp vs H Q' E):sp vs H Q E:=h Q λ_ _ x=>x
seal L2.PE L2.PA L2.PS L2.PSs L2.PT L2.PW L2.PG L2.PGs L2.PI L2.PO L2.PIf L2.PQ L2.PWQ
def top(i:Nat):Stmt:=PySem.Challenge.pw_paidspan_k90_whole_money_is_kept.main.body.getD i (.Pass ⟨0,0,0,0⟩)
def inner(s:Stmt)(j:Nat):Stmt:=match s with
 | .ClassDef _ _ _ b _ _ _ _ _ _ _=>b.getD j (.Pass ⟨0,0,0,0⟩)
 |_=> .Pass ⟨0,0,0,0⟩
abbrev s_00:Stmt:=top 13
abbrev s_01:Stmt:=top 14
abbrev s_02:Stmt:=top 15
abbrev s_03:Stmt:=top 16
abbrev s_04:Stmt:=top 17
abbrev s_05:Stmt:=top 18
abbrev s_06:Stmt:=top 19
abbrev s_07:Stmt:=top 22
abbrev s_08:Stmt:=top 23
abbrev s_09:Stmt:=top 25
abbrev s_0a:Stmt:=top 26
abbrev s_0b:Stmt:=top 27
abbrev s_0c:Stmt:=top 29
abbrev s_0d:Stmt:=top 32
abbrev s_0e:Stmt:=top 33
abbrev s_0f:Stmt:=top 34
abbrev s_0g:Stmt:=top 35
abbrev s_0h:Stmt:=top 36
abbrev s_0i:Stmt:=top 38
abbrev s_0j:Stmt:=top 39
abbrev s_0k:Stmt:=top 40
abbrev s_0l:Stmt:=top 41
abbrev s_0m:Stmt:=top 42
abbrev s_0n:Stmt:=top 43
abbrev s_0o:Stmt:=top 44
abbrev s_0p:Stmt:=top 45
abbrev s_0q:Stmt:=top 48
abbrev s_0r:Stmt:=top 49
abbrev s_0s:Stmt:=top 50
abbrev s_0t:Stmt:=top 54
abbrev s_0u:Stmt:=top 55
abbrev s_0v:Stmt:=top 56
abbrev s_0w:Stmt:=top 57
abbrev s_0x:Stmt:=top 58
abbrev s_0y:Stmt:=top 59
abbrev s_0z:Stmt:=top 60
abbrev s_10:Stmt:=top 61
abbrev s_11:Stmt:=top 62
abbrev s_12:Stmt:=top 63
abbrev s_13:Stmt:=top 64
abbrev s_14:Stmt:=top 65
abbrev s_15:Stmt:=top 66
abbrev s_16:Stmt:=top 67
abbrev s_17:Stmt:=top 69
abbrev s_18:Stmt:=top 70
abbrev s_19:Stmt:=top 71
abbrev s_1a:Stmt:=top 72
abbrev s_1b:Stmt:=top 73
abbrev s_1c:Stmt:=top 74
abbrev s_1d:Stmt:=top 75
abbrev s_1e:Stmt:=top 76
abbrev s_1f:Stmt:=top 77
abbrev s_1g:Stmt:=top 78
abbrev s_1h:Stmt:=top 79
abbrev s_1i:Stmt:=top 80
abbrev s_1j:Stmt:=top 81
abbrev s_1k:Stmt:=inner (top 52) 0
abbrev s_1l:Stmt:=inner (top 52) 1
abbrev s_1m:Stmt:=inner (top 52) 2
abbrev s_1n:Stmt:=inner (top 52) 3
abbrev s_1o:Stmt:=inner (top 52) 4
abbrev s_1p:Stmt:=inner (top 52) 5
abbrev s_1q:Stmt:=inner (top 52) 6
theorem st_4:Str.ofString "months"=SL [109,111,110,116,104,115]:=by decide+kernel
theorem st_9:Str.ofString "last"=SL [108,97,115,116]:=by decide+kernel
theorem st_10:Str.ofString "on"=SL [111,110]:=by decide+kernel
theorem st_11:Str.ofString "plan"=SL [112,108,97,110]:=by decide+kernel
theorem st_12:Str.ofString "seats"=SL [115,101,97,116,115]:=by decide+kernel
theorem st_13:Str.ofString "undo"=SL [117,110,100,111]:=by decide+kernel
theorem st_14:Str.ofString "grant"=SL [103,114,97,110,116]:=by decide+kernel
theorem st_15:Str.ofString "right"=SL [114,105,103,104,116]:=by decide+kernel
theorem st_16:Str.ofString "back"=SL [98,97,99,107]:=by decide+kernel
theorem st_17:Str.ofString "bill"=SL [98,105,108,108]:=by decide+kernel
theorem st_18:Str.ofString "abcdefghijklmnopqrstuvwxyz"=SL [97,98,99,100,101,102,103,104,105,106,107,108,109,110,111,112,113,114,115,116,117,118,119,120,121,122]:=by decide+kernel
theorem st_19:Str.ofString "abcdefgh"=SL [97,98,99,100,101,102,103,104]:=by decide+kernel
theorem st_20:Str.ofString "days"=SL [100,97,121,115]:=by decide+kernel
theorem st_21:Str.ofString "hold"=SL [104,111,108,100]:=by decide+kernel
theorem st_22:Str.ofString "go"=SL [103,111]:=by decide+kernel
theorem st_23:Str.ofString "stop"=SL [115,116,111,112]:=by decide+kernel
set_option genInjectivity false in
set_option genSizeOf false in
structure Adr where
 a_00:Addr
 d_00:FuncData
 a_01:Addr
 d_01:FuncData
 a_02:Addr
 d_02:FuncData
 a_03:Addr
 d_03:FuncData
 a_04:Addr
 d_04:FuncData
 a_05:Addr
 d_05:FuncData
 a_06:Addr
 d_06:FuncData
 a_07:Addr
 d_07:FuncData
 a_08:Addr
 d_08:FuncData
 a_09:Addr
 d_09:FuncData
 a_0a:Addr
 d_0a:FuncData
 a_0b:Addr
 d_0b:FuncData
 a_0c:Addr
 d_0c:FuncData
 a_0d:Addr
 d_0d:FuncData
 a_0e:Addr
 d_0e:FuncData
 a_0f:Addr
 d_0f:FuncData
 a_0g:Addr
 d_0g:FuncData
 a_0h:Addr
 d_0h:FuncData
 a_0i:Addr
 d_0i:FuncData
 a_0j:Addr
 d_0j:FuncData
 a_0k:Addr
 d_0k:FuncData
 a_0l:Addr
 d_0l:FuncData
 a_0m:Addr
 d_0m:FuncData
 a_0n:Addr
 d_0n:FuncData
 a_0o:Addr
 d_0o:FuncData
 a_0p:Addr
 d_0p:FuncData
 a_0q:Addr
 d_0q:FuncData
 a_0r:Addr
 d_0r:FuncData
 a_0s:Addr
 d_0s:FuncData
 a_0t:Addr
 d_0t:FuncData
 a_0u:Addr
 d_0u:FuncData
 a_0v:Addr
 d_0v:FuncData
 a_0w:Addr
 d_0w:FuncData
 a_0x:Addr
 d_0x:FuncData
 a_0y:Addr
 d_0y:FuncData
 a_0z:Addr
 d_0z:FuncData
 a_10:Addr
 d_10:FuncData
 a_11:Addr
 d_11:FuncData
 a_12:Addr
 d_12:FuncData
 a_13:Addr
 d_13:FuncData
 a_14:Addr
 d_14:FuncData
 a_15:Addr
 d_15:FuncData
 a_16:Addr
 d_16:FuncData
 a_17:Addr
 d_17:FuncData
 a_18:Addr
 d_18:FuncData
 a_19:Addr
 d_19:FuncData
 a_1a:Addr
 d_1a:FuncData
 a_1b:Addr
 d_1b:FuncData
 a_1c:Addr
 d_1c:FuncData
 a_1d:Addr
 d_1d:FuncData
 a_1e:Addr
 d_1e:FuncData
 a_1f:Addr
 d_1f:FuncData
 a_1g:Addr
 d_1g:FuncData
 a_1h:Addr
 d_1h:FuncData
 a_1i:Addr
 d_1i:FuncData
 a_1j:Addr
 d_1j:FuncData
 a_1k:Addr
 d_1k:FuncData
 a_1l:Addr
 d_1l:FuncData
 a_1m:Addr
 d_1m:FuncData
 a_1n:Addr
 d_1n:FuncData
 a_1o:Addr
 d_1o:FuncData
 a_1p:Addr
 d_1p:FuncData
 a_1q:Addr
 d_1q:FuncData
 c_Z0a:Addr
 c_Z05:Addr
 c_Z06:Addr
 c_Z0c:Addr
 c_Z07:Addr
structure Txt (w:World) (K:Fg) (mg:Str->Option Value) (t:Adr):Prop where
 F_00:DF K mg "has_leap_day" ["year"] s_00 t.a_00 t.d_00
 F_01:DF K mg "days_in" ["year","month"] s_01 t.a_01 t.d_01
 F_02:DF K mg "days_ahead_of_year" ["year"] s_02 t.a_02 t.d_02
 F_03:DF K mg "day_of" ["year","month","day"] s_03 t.a_03 t.d_03
 F_04:DF K mg "year_of" ["number"] s_04 t.a_04 t.d_04
 F_05:DF K mg "date_of" ["number"] s_05 t.a_05 t.d_05
 F_06:DF K mg "months_on" ["number","many"] s_06 t.a_06 t.d_06
 F_07:DF K mg "begin_of" ["first","cycle","k"] s_07 t.a_07 t.d_07
 F_08:DF K mg "span_on" ["first","cycle","day"] s_08 t.a_08 t.d_08
 F_09:DF K mg "end_of_account" ["account"] s_09 t.a_09 t.d_09
 F_0a:DF K mg "span_days" ["account","k"] s_0a t.a_0a t.d_0a
 F_0b:DF K mg "span_with" ["account","day"] s_0b t.a_0b t.d_0b
 F_0c:DF K mg "share" ["price","count","begin","end"] s_0c t.a_0c t.d_0c
 F_0d:DF K mg "counts_from" ["account","change"] s_0d t.a_0d t.d_0d
 F_0e:DF K mg "in_order" ["account","terms"] s_0e t.a_0e t.d_0e
 F_0f:DF K mg "state_by" ["ordered","day"] s_0f t.a_0f t.d_0f
 F_0g:DF K mg "state_on" ["account","terms","day"] s_0g t.a_0g t.d_0g
 F_0h:DF K mg "stretches_by" ["ordered","begin","end"] s_0h t.a_0h t.d_0h
 F_0i:DF K mg "price_and_count" ["account","name"] s_0i t.a_0i t.d_0i
 F_0j:DF K mg "stretch_cost" ["account","span","stretch"] s_0j t.a_0j t.d_0j
 F_0k:DF K mg "day_cost" ["account","terms","day"] s_0k t.a_0k t.d_0k
 F_0l:DF K mg "lines_ahead" ["account","ordered","span","day"] s_0l t.a_0l t.d_0l
 F_0m:DF K mg "cost_of" ["lines"] s_0m t.a_0m t.d_0m
 F_0n:DF K mg "span_lines" ["account","terms","k"] s_0n t.a_0n t.d_0n
 F_0o:DF K mg "span_cost" ["account","terms","k"] s_0o t.a_0o t.d_0o
 F_0p:DF K mg "earned" ["account","terms","day"] s_0p t.a_0p t.d_0p
 F_0q:DF K mg "is_term" ["change"] s_0q t.a_0q t.d_0q
 F_0r:DF K mg "standing_terms" ["entries"] s_0r t.a_0r t.d_0r
 F_0s:DF K mg "terms_at" ["entries","moment"] s_0s t.a_0s t.d_0s
 F_0t:DF K mg "costs_by" ["account","entries","many","moment"] s_0t t.a_0t t.d_0t
 F_0u:DF K mg "days_entered" ["entries"] s_0u t.a_0u t.d_0u
 F_0v:DF K mg "work_days" ["account","entries","day"] s_0v t.a_0v t.d_0v
 F_0w:DF K mg "grant_lines" ["pots","entries","day"] s_0w t.a_0w t.d_0w
 F_0x:DF K mg "line_of_less" ["pots","day","k","amount"] s_0x t.a_0x t.d_0x
 F_0y:DF K mg "line_of_more" ["pots","day","kind","k","amount"] s_0y t.a_0y t.d_0y
 F_0z:DF K mg "right_lines" ["pots","day","costs"] s_0z t.a_0z t.d_0z
 F_10:DF K mg "back_lines" ["pots","entries","day"] s_10 t.a_10 t.d_10
 F_11:DF K mg "work_of_day" ["account","entries","pots","day"] s_11 t.a_11 t.d_11
 F_12:DF K mg "keep_book" ["account","entries","day"] s_12 t.a_12 t.d_12
 F_13:DF K mg "book_lines" ["account","entries","day"] s_13 t.a_13 t.d_13
 F_14:DF K mg "amount_of" ["lines","kinds"] s_14 t.a_14 t.d_14
 F_15:DF K mg "book_sums" ["account","entries","day"] s_15 t.a_15 t.d_15
 F_16:DF K mg "owed" ["account","entries","day"] s_16 t.a_16 t.d_16
 F_17:DF K mg "_law_mixed" ["_law_cell","_law_k"] s_17 t.a_17 t.d_17
 F_18:DF K mg "_law_draw" ["_law_script","_law_k"] s_18 t.a_18 t.d_18
 F_19:DF K mg "_law_names" ["_law_cell"] s_19 t.a_19 t.d_19
 F_1a:DF K mg "_law_plans" ["_law_cell","_law_names_here"] s_1a t.a_1a t.d_1a
 F_1b:DF K mg "_law_account" ["_law_script"] s_1b t.a_1b t.d_1b
 F_1c:DF K mg "_law_reach" ["_law_account_here","_law_far"] s_1c t.a_1c t.d_1c
 F_1d:DF K mg "_law_change" ["_law_x","_law_number","_law_entered","_law_account_here","_law_reach_here","_law_open_terms"] s_1d t.a_1d t.d_1d
 F_1e:DF K mg "_law_entries" ["_law_script","_law_account_here","_law_reach_here","_law_start","_law_many"] s_1e t.a_1e t.d_1e
 F_1f:DF K mg "_law_took" ["_law_lines"] s_1f t.a_1f t.d_1f
 F_1g:DF K mg "_law_costs_right" ["_law_account_here","_law_terms","_law_took_here"] s_1g t.a_1g t.d_1g
 F_1h:DF K mg "_law_kept" ["_law_account_here","_law_entries_here","_law_day","_law_lines"] s_1h t.a_1h t.d_1h
 F_1i:DF K mg "_law_folded" ["_law_script"] s_1i t.a_1i t.d_1i
 F_1j:DF K mg "law" ["_law_script"] s_1j t.a_1j t.d_1j
 me_1k:Meth K t.c_Z07 "__init__" t.a_1k
 fn_1k:Fun K "__init__" "Pots.__init__" s_1k t.a_1k t.d_1k
 b_1k:qf K t.d_1k ["self"] []
 me_1l:Meth K t.c_Z07 "grant" t.a_1l
 fn_1l:Fun K "grant" "Pots.grant" s_1l t.a_1l t.d_1l
 b_1l:qf K t.d_1l ["self","amount"] []
 me_1m:Meth K t.c_Z07 "take" t.a_1m
 fn_1m:Fun K "take" "Pots.take" s_1m t.a_1m t.d_1m
 b_1m:qf K t.d_1m ["self","k","amount"] []
 me_1n:Meth K t.c_Z07 "give" t.a_1n
 fn_1n:Fun K "give" "Pots.give" s_1n t.a_1n t.d_1n
 b_1n:qf K t.d_1n ["self","k","amount"] []
 me_1o:Meth K t.c_Z07 "pay_back" t.a_1o
 fn_1o:Fun K "pay_back" "Pots.pay_back" s_1o t.a_1o t.d_1o
 b_1o:qf K t.d_1o ["self"] []
 me_1p:Meth K t.c_Z07 "took" t.a_1p
 fn_1p:Fun K "took" "Pots.took" s_1p t.a_1p t.d_1p
 b_1p:qf K t.d_1p ["self","k"] []
 me_1q:Meth K t.c_Z07 "left" t.a_1q
 fn_1q:Fun K "left" "Pots.left" s_1q t.a_1q t.d_1q
 b_1q:qf K t.d_1q ["self"] []
 mg_Z0a:mg "SpanError"=some (.ref t.c_Z0a)
 mg_Z05:mg "NoDate"=some (.ref t.c_Z05)
 mg_Z06:mg "NoSpan"=some (.ref t.c_Z06)
 mg_Z0c:mg "TooLong"=some (.ref t.c_Z0c)
 mg_Z07:mg "Pots"=some (.ref t.c_Z07)
 cs_Z07:Cls K t.c_Z07
 mk_Z07:Mk K t.c_Z07 t.a_1k
 na_Pots_given:xH K t.c_Z07 "given"
 na_Pots_own:xH K t.c_Z07 "own"
 na_Pots_taken:xH K t.c_Z07 "taken"
 ex_Z05:Exc K t.c_Z05
 ex_Z06:Exc K t.c_Z06
 ex_Z0c:Exc K t.c_Z0c
 k_Z03: ∃u,mg "LAST_YEAR"=some u/\zt (.int 9999) u
 k_Z02: ∃u,mg "LAST_DAY"=some u/\zt (.int 3652058) u
 k_Z04: ∃a,mg "MONTH_DAYS"=some (.ref a)/\ ∀H,SqT K H a [.int 31, .int 28, .int 31, .int 30, .int 31, .int 30, .int 31, .int 31, .int 30, .int 31, .int 30, .int 31]
 k_Z08: ∃u,mg "ROUND_DAYS"=some u/\zt (.int 146097) u
 k_Z01: ∃u,mg "HUNDRED_YEARS_DAYS"=some u/\zt (.int 36524) u
 k_Z00: ∃u,mg "FOUR_YEARS_DAYS"=some u/\zt (.int 1461) u
 k_Z0e: ∃u,mg "YEAR_DAYS"=some u/\zt (.int 365) u
 k_Z09: ∃u,mg "SPANS"=some u/\zt (.int 60) u
 k_Z0d:zrb w K mg "WORDS" [(SL [104,111,108,100], .str (SL [104,101,108,100])),(SL [103,111], .str (SL [111,110])),(SL [115,116,111,112], .str (SL [111,102,102])),(SL [108,97,115,116], .str (SL [111,102,102]))]
 k_Z0b: ∃a,mg "TERMS"=some (.ref a)/\ ∀H,SqT K H a [.str (SL [112,108,97,110]), .str (SL [115,101,97,116,115]), .str (SL [104,111,108,100]), .str (SL [103,111]), .str (SL [115,116,111,112]), .str (SL [108,97,115,116])]
 no_range:mg "range"=none
 no_divmod:mg "divmod"=none
 no_min:mg "min"=none
 no_sorted:mg "sorted"=none
 no_sum:mg "sum"=none
 no_enumerate:mg "enumerate"=none
 no_list:mg "list"=none
 no_set:mg "set"=none
 no_len:mg "len"=none
 no_int:mg "int"=none
 no_max:mg "max"=none
 cl_Z0a:ClsOk K t.c_Z0a
 cl_Z05:ClsOk K t.c_Z05
 cl_Z06:ClsOk K t.c_Z06
 cl_Z0c:ClsOk K t.c_Z0c
 cl_Z07:ClsOk K t.c_Z07
 xc_NoSpan:ExcCls K t.c_Z06
 xc_TooLong:ExcCls K t.c_Z0c
 m_NoSpan_SpanError:PySem.W.mroIn K t.c_Z06 (.ref t.c_Z0a)=some true
 m_NoSpan_NoDate:PySem.W.mroIn K t.c_Z06 (.ref t.c_Z05)=some false
 m_NoSpan_NoSpan:PySem.W.mroIn K t.c_Z06 (.ref t.c_Z06)=some true
 m_NoSpan_TooLong:PySem.W.mroIn K t.c_Z06 (.ref t.c_Z0c)=some false
 m_NoSpan_Pots:PySem.W.mroIn K t.c_Z06 (.ref t.c_Z07)=some false
 m_NoSpan_ValueError:PySem.W.mroIn K t.c_Z06 (.type "ValueError")=some true
 m_TooLong_SpanError:PySem.W.mroIn K t.c_Z0c (.ref t.c_Z0a)=some true
 m_TooLong_NoDate:PySem.W.mroIn K t.c_Z0c (.ref t.c_Z05)=some false
 m_TooLong_NoSpan:PySem.W.mroIn K t.c_Z0c (.ref t.c_Z06)=some false
 m_TooLong_TooLong:PySem.W.mroIn K t.c_Z0c (.ref t.c_Z0c)=some true
 m_TooLong_Pots:PySem.W.mroIn K t.c_Z0c (.ref t.c_Z07)=some false
 m_TooLong_ValueError:PySem.W.mroIn K t.c_Z0c (.type "ValueError")=some true
 m_SpanError_BaseException:PySem.W.mroIn K t.c_Z0a (.type "BaseException")=some true
section
local macro_rules| `(tactic|lge_open0)=> `(tactic|dsimp only[vE,rJ,rJ0,rUJ,vd,zl7,zoA,zoB,ipJ,zl8,asT,tQ,tQN,jx,jy,jz,jA,jB,jC,jD,ju,jv,ziW,zmc,jw,zri,zrj,zkA,zkB,zhY,zl6,zrl,zrm,zpV,zpW,zpX,zpY,zpZ,zp0,zp1,zp2,zp3,zp4,zp5,zp6,zp7,zp8,zp9,zqa,zpO,zpP,zpQ,zpR,zpS,zpT,zn0,zpU,zlL,zqP,zqQ,zjm,kG,zot,zqR,zqS,zlJ,zow,zlH,zlG,zlC,tDc,zpf,xw,uR,List.replicate,Option.join_some,Option.join_none,zjn,tSl,zqT,zrK,uM,Int.reduceToNat,Int.reduceNeg,Int.reduceAdd,Int.reduceSub,Int.reduceMul,zqI,zoo,zqJ,zop,vY,xE,wN,vX,tC,tOp,tUn,tB,tOr,zos,uP,kR,tCB,rEq,rNe,L2.start,List.length_cons,List.length_nil,List.cons_append,List.nil_append,List.replicate_succ,List.replicate_zero,Nat.reduceAdd,Nat.reduceSub,List.getElem?_cons_zero,List.getElem?_cons_succ,List.set_cons_zero,List.set_cons_succ,Bool.not_true,Bool.not_false])
local macro_rules| `(tactic|lgec_open0)=> `(tactic|simp only[jp,wI,jq,zmg,zmh,jt,zhZ,zjI,znI,zlq,zlr,ww,slT,Int.reduceLT,Int.reduceLE,forall_const,znD,znE,znF,znG,znH,List.append_nil,Option.some.injEq,V.int.injEq,V.bl.injEq,V.ref.injEq,V.str.injEq,exists_eq_left',exists_eq_left,exists_eq',exists_and_left,List.cons.injEq,and_true,true_and,and_self,and_assoc,decide_eq_true_eq,if_true,if_false,Bool.true_eq_false,Bool.false_eq_true,Bool.not_eq_true',decide_eq_false_iff_not,ite_true,ite_false,reduceCtorEq,false_and,exists_false,false_or,or_false,and_false,Nat.reduceLeDiff])
local macro_rules| `(tactic|open_k0)=> `(tactic|((try lge_open0);(try (lgec_open0;(try lge_open0);(try lgec_open0)))))
local macro_rules| `(tactic|kdl_open)=> `(tactic|(intro vs H Q E h;(repeat (rcases h with⟨_,h⟩));subst_vars;rfl))
local macro_rules| `(tactic|sl_open)=> `(tactic|exact⟨rfl,rfl,rfl,by decide+kernel,rfl,by decide+kernel,by decide+kernel⟩)
variable {P:Program} {w:World} {K:Fg} {mg:Str->Option Value} {base:Heap} {t:Adr}
def zqj:Sp:=λvs H Q _=> ∃y:Int,vs= [.int y]/\Q (.bl (decide (Cal.lp y=1))) H
theorem sc_00:FnScope ["year"] ["year"] (zC s_00):=by sl_open
theorem ok_00(T:Txt w K mg t):FnOk P w K mg base (CXE P w) 1 t.a_00 t.d_00 ["year"] zqj:=by
 refine T.F_00.fn.okX sc_00 (λvs H Q E h=> ?_) (λcdv A outer s H vs Q E L hr h=> ?_)
 ·obtain⟨y,rfl,_⟩:=h;rfl
 obtain⟨y,rfl,q⟩:=h;have nd:=sc_00.nd;refine⟨_,(zk (zB (znZ (xh qR (zg zO (pvJ 0) zc) zc (yF _)) (zk2 (zpM (xh zoq (zg zO (pvJ 0) zc) zc (yF _)) (zk2 (xh qR (zg zO (pvJ 0) zc) zc (yF _)))))))),?_⟩;open_k0;have e: ∀b,b=decide (Cal.lp y=1)->Q (.bl b) H:=λb z=>by rw[z];exact q
 split
 ·split
  ·exact e _ (by simp [Cal.lp, *])
  ·refine e _ ?_;by_cases c:y % 400=0<;>simp [Cal.lp, *]
 ·exact e _ (by simp [Cal.lp, *])
def zi6(y m:Int):Prop:=1<=y/\y<=9999/\1<=m/\m<=12
def zqk(t:Adr):Sp:=λvs H Q E=> ∃y m:Int,vs= [.int y, .int m]/\(zi6 y m->Q (.int (Cal.dim y m)) H)/\(¬zi6 y m->E (.ref t.c_Z05) none H)
theorem zfK(h1:1<=m)(h2:m<=12):atI [V.int 31,V.int 28,V.int 31,V.int 30,V.int 31,V.int 30,V.int 31,V.int 31,V.int 30,V.int 31,V.int 30,V.int 31] (m - 1)=some (.int (if m=2 then 28 else if m=4\/m=6\/m=9\/m=11 then 30 else 31)):=by
 have q:m=1\/m=2\/m=3\/m=4\/m=5\/m=6\/m=7\/m=8\/m=9\/m=10\/m=11\/m=12:=by omega
 rcases q with rfl|rfl|rfl|rfl|rfl|rfl|rfl|rfl|rfl|rfl|rfl|rfl<;>rfl
theorem sc_01:FnScope ["year","month"] ["year","month"] (zC s_01):=by sl_open
theorem ok_01(T:Txt w K mg t):FnOk P w K mg base (CXE P w) 2 t.a_01 t.d_01 ["year","month"] (zqk t):=by
 refine T.F_01.fn.okX sc_01 (λvs H Q E h=> ?_) (λcdv A outer s H vs Q E L hr h=> ?_)
 ·refine opq λ_ kq=> ?_;obtain⟨y,m,rfl,_⟩:=h;apply kq;rfl
 refine opq λ_ kq=> ?_;obtain⟨y,m,rfl,q1,q2⟩:=h;have nd:=sc_01.nd;obtain⟨a_Z04,h_Z04,q_Z04⟩:=T.k_Z04;have r_Z04:zt (.ref a_Z04) (.ref a_Z04):=rfl;obtain⟨u_Z03,h_Z03,r_Z03⟩:=T.k_Z03;apply kq;refine⟨_,(zj (zP (PWQ.pq (xN (yu qo (pvJ 0) zc) (wc (yu xt (pvJ 0) (qF (by rfl) h_Z03 r_Z03))))) (zk (wJ L T.ex_Z05 (by rfl) (by rfl) T.mg_Z05 (zb xQ zd))) zQ) (zj (zP (PWQ.pq (xN (yu qo (pvJ 1) zc) (wc (yu xt (pvJ 1) zc)))) (zk (wJ L T.ex_Z05 (by rfl) (by rfl) T.mg_Z05 (zb xQ zd))) zQ) (zj (zP (PWQ.pq (wL (qg (pvJ 1) zc) (wK (q5 (vW (peD L.toLv (ok_00 T) hr T.F_00 (zb (pvJ 0) zd))))))) (zk (zB zc)) zQ) (zk (zB (ixJ zH (qF (by rfl) h_Z04 r_Z04) (zg yj (pvJ 1) zc))))))),?_⟩;open_k0;split
 ·exact q2 (λz=>by obtain⟨_,_,_,_⟩:=z;omega)
 split
 ·exact q2 (λz=>by obtain⟨_,_,_,_⟩:=z;omega)
 split
 ·exact q2 (λz=>by obtain⟨_,_,_,_⟩:=z;omega)
 split
 ·exact q2 (λz=>by obtain⟨_,_,_,_⟩:=z;omega)
 have ok:zi6 y m:=⟨'o','o','o','o'⟩
 have q:=q1 ok;split
 ·rename_i h2;subst h2;refine⟨y,rfl,_,rfl,?_⟩;have l:=Cal.lp_01 y;have e:Cal.dim y 2=28+Cal.lp y:=rfl;rw[e] at q;split
  ·rename_i c;have z:Cal.lp y=1:=of_decide_eq_true c;rw[z] at q;exact q
  ·rename_i c;have z:Cal.lp y≠1:=of_decide_eq_false (Bool.eq_false_iff.mpr c);refine ixT (q_Z04 _) (zfK 'o' 'o') ?_;have z0:Cal.lp y=0:=by omega
   rw[z0] at q;exact q
 ·rename_i h2;refine ixT (q_Z04 _) (zfK 'o' 'o') ?_;rw[Jf h2];unfold Cal.dim at q;rw[Jf h2] at q;exact q
def zoe:Sp:=λvs H Q _=> ∃y:Int,vs= [.int y]/\Q (.int (Cal.ahead y)) H
theorem sc_02:FnScope ["year","past"] ["year"] (zC s_02):=by sl_open
theorem ok_02(T:Txt w K mg t):FnOk P w K mg base (CXE P w) 1 t.a_02 t.d_02 ["year"] zoe:=by
 refine T.F_02.fn.okX sc_02 (λvs H Q E h=> ?_) (λcdv A outer s H vs Q E L hr h=> ?_)
 ·obtain⟨y,rfl,_⟩:=h;rfl
 refine opq λ_ kq=> ?_;obtain⟨y,rfl,q⟩:=h;have nd:=sc_02.nd;obtain⟨u_Z0e,h_Z0e,r_Z0e⟩:=T.k_Z0e;apply kq;refine⟨_,(zj (psJ 1 nd (zg yj (pvJ 0) zc)) (zk (zB (zg zI (zg yj (zg zI (zg qA (pvJ 1) (qF (by rfl) h_Z0e r_Z0e)) (zg yL (pvJ 1) zc)) (zg yL (pvJ 1) zc)) (zg yL (pvJ 1) zc))))),?_⟩;open_k0;exact⟨Or.inr ⟨'d','d'⟩,q⟩
def zof(t:Adr):Sp:=λvs H Q E=> ∃y m d:Int,vs= [.int y, .int m, .int d]/\(Cal.Valid y m d->Q (.int (Cal.num y m d)) H)/\(¬Cal.Valid y m d->E (.ref t.c_Z05) none H)
theorem sc_03:FnScope ["year","month","day","ahead","earlier"] ["year","month","day"] (zC s_03):=by sl_open
theorem ok_03(T:Txt w K mg t):FnOk P w K mg base (CXE P w) 3 t.a_03 t.d_03 ["year","month","day"] (zof t):=by
 refine T.F_03.fn.okX sc_03 (λvs H Q E h=> ?_) (λcdv A outer s H vs Q E L hr h=> ?_)
 ·refine opq λ_ kq=> ?_;obtain⟨y,m,d,rfl,_⟩:=h;apply kq;rfl
 refine opq λ_ kq=> ?_;obtain⟨y,m,d,rfl,q1,q2⟩:=h;apply kq;have nd:=sc_03.nd;refine⟨_,(zj (zP (PWQ.pq (xN (yu qo (pvJ 2) zc) (wc (yu xt (pvJ 2) (peD L.toLv (ok_01 T) hr T.F_01 (zb (pvJ 0) (zb (pvJ 1) zd ze) ze)))))) (zk (wJ L T.ex_Z05 (by rfl) (by rfl) T.mg_Z05 (zb xQ zd))) zQ) (zj (psJ 3 nd (peD L.toLv (ok_02 T) hr T.F_02 (zb (pvJ 0) zd))) (zj (qj (by passes_own) rfl (ke (by rfl) T.no_range (zb zc (zb (pvJ 1) zd ze) zE)) (zq (i:=4) nd rfl (Or.inl rfl)) (zk (uv (i:=3) nd rfl (Or.inl rfl) (peD L.toLv (ok_01 T) hr T.F_01 (zb (pvJ 0) (zb (pvJ 4) zd ze) ze)) zg8))) (zk (zB (zg yj (zg zI (pvJ 3) (pvJ 2)) zc)))))),?_⟩;open_k0;split
 ·exact q2 (λz=>by obtain⟨_,_,_,_,_,_⟩:=z;omega)
 refine⟨y,m,rfl,λok=> ?_,λno=>q2 (λz=>no ⟨z.1,z.2.1,z.2.2.1,z.2.2.2.1⟩)⟩;refine opq λ_ kq=> ?_;obtain⟨o1,o2,o3,o4⟩:=ok;apply kq;open_k0;split
 ·exact q2 (λz=>by obtain⟨_,_,_,_,_,_⟩:=z;omega)
 have va:Cal.Valid y m d:=⟨o1,o2,o3,o4,'o','o'⟩
 have q:=q1 va;refine⟨y,rfl,?_⟩;first|refine⟨_,rfl,1,m,rfl,⟨'d','d','o','o'⟩,?_⟩|refine⟨1,m,rfl,⟨'d','d','o','o'⟩,?_⟩
 refine wk (λi σ1 H1=>H1=H/\ ∃e,σ1= [some (.int y),some (.int m),some (.int d),some (.int (Cal.ahead y+Cal.cum y ((i:Int)+1))),e]) ⟨rfl,none,?_⟩ (λi σ1 H1 hi h=> ?_) (λσ1 H1 h=> ?_)
 ·have e:Cal.ahead y+Cal.cum y (((0:Nat):Int)+1)=Cal.ahead y:=by
   rw[show (((0:Nat):Int)+1)=1 from rfl,Cal.cum_one];omega
  rw[e]
 ·obtain⟨rfl,e,rfl⟩:=h;open_k0;refine⟨y,1+(i:Int),rfl,λ_=> ?_,λno=>absurd ⟨o1,o2,'o','o'⟩ no⟩;refine⟨_,rfl,rfl,?_⟩;have s:=Cal.cum_succ (y:=y) (m:=(i:Int)+1) 'o' 'o';have e1:((i+1:Nat):Int)+1=(i:Int)+1+1:=by omega
  have e2:(1:Int)+(i:Int)=(i:Int)+1:=by omega
  rw[e1,s,e2,Int.add_assoc]
 ·obtain⟨rfl,e,rfl⟩:=h;open_k0;have e1:(((m - 1).toNat:Nat):Int)+1=m:=by omega
  rw[e1];exact q
def zmK:Sp:=λvs H Q _=> ∃n:Int,vs= [.int n]/\ ∀H',zh H H'->Q (.int (Cal.yearOf n)) H'
theorem sc_04:FnScope ["number","rounds","rest","hundreds","fours","ones"] ["number"] (zC s_04):=by sl_open
theorem ok_04(T:Txt w K mg t):FnOk P w K mg base (CXE P w) 1 t.a_04 t.d_04 ["number"] zmK:=by
 refine T.F_04.fn.okX sc_04 (λvs H Q E h=> ?_) (λcdv A outer s H vs Q E L hr h=> ?_)
 ·obtain⟨n,rfl,_⟩:=h;rfl
 refine opq λ_ kq=> ?_;obtain⟨n,rfl,q⟩:=h;have nd:=sc_04.nd;obtain⟨u_Z08,h_Z08,r_Z08⟩:=T.k_Z08;obtain⟨u_Z01,h_Z01,r_Z01⟩:=T.k_Z01;obtain⟨u_Z00,h_Z00,r_Z00⟩:=T.k_Z00;obtain⟨u_Z0e,h_Z0e,r_Z0e⟩:=T.k_Z0e;apply kq;refine⟨_,(zj (yv (zY zeD (by rfl) T.no_divmod zf6 (zb (pvJ 0) (zb (qF (by rfl) h_Z08 r_Z08) zd ze) ze)) (z7 (n:=2) rfl (zD (zq (i:=1) nd rfl (Or.inl rfl)) (zD (zq (i:=2) nd rfl (Or.inl rfl)) yD)))) (zj (psJ 3 nd (zY (xG (by rfl)) (by rfl) T.no_min xK (zb (zg yL (pvJ 2) (qF (by rfl) h_Z01 r_Z01)) (zb zc zd zE) zT))) (zj (uv (i:=2) nd rfl (Or.inl rfl) (zg qA (pvJ 3) (qF (by rfl) h_Z01 r_Z01)) zjH) (zj (yv (zY zeD (by rfl) T.no_divmod zf6 (zb (pvJ 2) (zb (qF (by rfl) h_Z00 r_Z00) zd ze) ze)) (z7 (n:=2) rfl (zD (zq (i:=4) nd rfl (Or.inl rfl)) (zD (zq (i:=2) nd rfl (Or.inl rfl)) yD)))) (zj (psJ 5 nd (zY (xG (by rfl)) (by rfl) T.no_min xK (zb (zg yL (pvJ 2) (qF (by rfl) h_Z0e r_Z0e)) (zb zc zd zE) zT))) (zk (zB (zg zI (zg zI (zg zI (zg zI (zg qA (pvJ 1) zc) (zg qA (pvJ 3) zc)) (zg qA (pvJ 4) zc)) (pvJ 5)) zc)))))))),?_⟩;open_k0;intro p hp;refine⟨p,_,rfl,SqT.of zN,rfl,?_⟩;open_k0;refine⟨Or.inr ⟨'d','d'⟩,λp2 hp2=>⟨p2,_,rfl,SqT.of zN,rfl,?_⟩⟩;open_k0;refine⟨Or.inr ⟨'d','d'⟩,Or.inr ⟨'d','d'⟩,Or.inr ⟨'d','d'⟩,?_⟩;have e: ∀r:Int,r=Cal.yearOf n->Q (.int r) (upd (upd H p (.tup [.int (n / 146097), .int (n % 146097)])) p2 (.tup [.int ((n % 146097 - (if 3<n % 146097 / 36524 then 3 else n % 146097 / 36524)*36524) / 1461), .int ((n % 146097 - (if 3<n % 146097 / 36524 then 3 else n % 146097 / 36524)*36524) % 1461)])):=λr z=>by
  rw[z];exact q _ ((xL hp _).trans (xL hp2 _))
 refine e _ ?_;unfold Cal.yearOf;have m1: ∀a:Int,min a 3=if 3<a then 3 else a:=λa=>by split<;>omega
 simp only[m1]
def zmL(t:Adr):Sp:=λvs H Q E=> ∃n:Int,vs= [.int n]/\
 (0<=n/\n<=3652058-> ∀y m d p H',Cal.Valid y m d->Cal.num y m d=n->zh H H'->H' p=some (.tup [.int y, .int m, .int d])->Q (.ref p) H')/\(¬(0<=n/\n<=3652058)->E (.ref t.c_Z05) none H)
theorem sc_05:FnScope ["number","year","rest","month"] ["number"] (zC s_05):=by sl_open
theorem ok_05(T:Txt w K mg t):FnOk P w K mg base (CXE P w) 3 t.a_05 t.d_05 ["number"] (zmL t):=by
 refine T.F_05.fn.okX sc_05 (λvs H Q E h=> ?_) (λcdv A outer s H vs Q E L hr h=> ?_)
 ·obtain⟨n,rfl,_⟩:=h;rfl
 refine opq λ_ kq=> ?_;obtain⟨n,rfl,q1,q2⟩:=h;have nd:=sc_05.nd;obtain⟨u_Z02,h_Z02,r_Z02⟩:=T.k_Z02;apply kq;refine⟨_,(zj (zP (PWQ.pq (xN (yu qo (pvJ 0) zc) (wc (yu xt (pvJ 0) (qF (by rfl) h_Z02 r_Z02))))) (zk (wJ L T.ex_Z05 (by rfl) (by rfl) T.mg_Z05 (zb xQ zd))) zQ) (zj (psJ 1 nd (peD L.toLv (ok_04 T) hr T.F_04 (zb (pvJ 0) zd))) (zj (psJ 2 nd (zg yj (pvJ 0) (peD L.toLv (ok_02 T) hr T.F_02 (zb (pvJ 1) zd)))) (zj (psJ 3 nd zc) (zj (zhu (by passes_own) (qB zpL (pvJ 2) (peD L.toLv (ok_01 T) hr T.F_01 (zb (pvJ 1) (zb (pvJ 3) zd ze) ze)) (yF _)) (zj (uv (i:=2) nd rfl (Or.inl rfl) (peD L.toLv (ok_01 T) hr T.F_01 (zb (pvJ 1) (zb (pvJ 3) zd ze) ze)) zjH) (zk (uv (i:=3) nd rfl (Or.inl rfl) zc zg8)))) (zk (zB (zo5 (zb (pvJ 1) (zb (pvJ 3) (zb (zg zI (pvJ 2) zc) zd zT) ze) ze))))))))),?_⟩;open_k0;split
 ·exact q2 (λz=>by obtain⟨_,_⟩:=z;omega)
 split
 ·exact q2 (λz=>by obtain⟨_,_⟩:=z;omega)
 have n0:0<=n:=by omega
 have n1:n<=3652058:=by omega
 have q:=q1 ⟨n0,n1⟩;refine opq λ_ kq=> ?_;obtain⟨y1,y2,y3,y4⟩:=Cal.yearOf_spec n0 n1;apply kq;refine⟨n,rfl,λH1 sm=>⟨_,rfl,_,rfl,?_⟩⟩;refine⟨λk σ1 H2=>H2=H1/\ ∃m:Int,σ1= [some (.int n),some (.int (Cal.yearOf n)),some (.int (n - Cal.ahead (Cal.yearOf n) - Cal.cum (Cal.yearOf n) m)),some (.int m)]/\1<=m/\m<=12/\Cal.cum (Cal.yearOf n) m<=n - Cal.ahead (Cal.yearOf n)/\k=(13 - m).toNat,⟨12,rfl,1,?_,'d','d',by rw[Cal.cum_one];omega,'d'⟩,?_⟩
 ·rw[Cal.cum_one,Int.sub_zero]
 ·rintro k σ1 H2 ⟨rfl,m,rfl,m1,m2,m3,rfl⟩;open_k0;refine⟨_,m,rfl,λ_=> ?_,λno=>absurd ⟨y1,y2,m1,m2⟩ no⟩;open_k0;split
  ·rename_i c;have lt:m<12:=by
    apply Classical.byContradiction;intro z;obtain rfl:m=12:=by omega
    have s:=Cal.cum_succ (y:=Cal.yearOf n) (m:=12) 'd' 'd';have u:Cal.cum (Cal.yearOf n) (12+1)=365+Cal.lp (Cal.yearOf n):=Cal.cum_13 _;omega
   have s:=Cal.cum_succ (y:=Cal.yearOf n) m1 m2;refine⟨_,λσ2 H3 h=>h,?_⟩;refine⟨_,m,rfl,λ_=> ?_,λno=>absurd ⟨y1,y2,m1,m2⟩ no⟩;open_k0;exact⟨(13 - (m+1)).toNat,'o',m+1,'o',rfl,'o','o','o',rfl⟩
  ·rename_i c;open_k0;intro p hp;have s:=Cal.cum_succ (y:=Cal.yearOf n) m1 m2;refine q (Cal.yearOf n) m (n - Cal.ahead (Cal.yearOf n) - Cal.cum (Cal.yearOf n) m+1) p _ ⟨y1,y2,m1,m2,'o','o'⟩ (by unfold Cal.num;omega) (sm.trans (xL hp _)) zN
def zi7(t:Adr):Sp:=λvs H Q E=> ∃n k y m d:Int,vs= [.int n, .int k]/\Cal.Valid y m d/\Cal.num y m d=n/\
 (Cal.MonOk y m k-> ∀H',zh H H'->Q (.int (Cal.num (Cal.monY y m k) (Cal.monM y m k) (Cal.monD y m d k))) H')/\(¬Cal.MonOk y m k-> ∀H',zh H H'->E (.ref t.c_Z05) none H')
theorem sc_06:FnScope ["number","many","year","month","day","months","to_year","to_month"] ["number","many"] (zC s_06):=by sl_open
theorem ok_06(T:Txt w K mg t):FnOk P w K mg base (CXE P w) 4 t.a_06 t.d_06 ["number","many"] (zi7 t):=by
 refine T.F_06.fn.okX sc_06 ?_ λcdv A outer s H vs Q E L hr h=> ?_
 ·kdl_open
 refine opq λ_ kq=> ?_;obtain⟨n,k,y,m,d,rfl,va,hn,q1,q2⟩:=h;apply kq;have nd:=sc_06.nd;refine⟨_,(zj (yv (peD L.toLv (ok_05 T) hr T.F_05 (zb (pvJ 0) zd)) (z7 (n:=3) rfl (zD (zq (i:=2) nd rfl (Or.inl rfl)) (zD (zq (i:=3) nd rfl (Or.inl rfl)) (zD (zq (i:=4) nd rfl (Or.inl rfl)) yD))))) (zj (psJ 5 nd (zg zI (zg yj (zg zI (zg qA (pvJ 2) zc) (pvJ 3)) zc) (pvJ 1))) (zj (psJ 6 nd (zg yL (pvJ 5) zc)) (zj (psJ 7 nd (zg zI (zg zO (pvJ 5) zc) zc)) (zk (zB (peD L.toLv (ok_03 T) hr T.F_03 (zb (pvJ 6) (zb (pvJ 7) (zb (zY (xG (by rfl)) (by rfl) T.no_min xK (zb (pvJ 4) (zb (peD L.toLv (ok_01 T) hr T.F_01 (zb (pvJ 6) (zb (pvJ 7) zd ze) ze)) zd yB) ze)) zd yB) ze) ze)))))))),?_⟩;open_k0;have nr:=Cal.num_range va;refine⟨_,rfl,λ_ y' m' d' p H1 va' hn' s1 hp=> ?_,λno=>absurd 'o' no⟩;obtain⟨rfl,rfl,rfl⟩:=Cal.num_inj va' va (by rw[hn',hn]);refine⟨p,_,rfl,SqT.of hp,rfl,?_⟩;open_k0;refine⟨Or.inr ⟨'d','d'⟩,_,_,rfl,λok=> ?_,λno=>q2 (λz=>no ⟨z.1,z.2,'o','o'⟩) _ s1⟩;refine opq λ_ kq=> ?_;obtain⟨o1,o2,o3,o4⟩:=ok;apply kq;have mo:Cal.MonOk y' m' k:=⟨o1,o2⟩
 exact⟨_,rfl,_,_,_,rfl,λ_=>q1 mo _ s1,λno=>absurd (Cal.mon_valid va mo) no⟩
def vQ(K:Fg)(H:Hp)(p:Addr)(dy:Bool)(c:Int):Prop:=SqT K H p [.str (SL (if dy then [100,97,121,115] else [109,111,110,116,104,115])), .int c]/\Cal.CycOk dy c
theorem vQ.same{p:Addr}(h:vQ K H p dy c)(sm:zh H H'):vQ K H' p dy c:=⟨sm.sqT h.1,h.2⟩
def zj0(K:Fg)(t:Adr):Sp:=λvs H Q E=> ∃(f:Int) (p:Addr) (dy:Bool) (c k:Int),vs= [.int f, .ref p, .int k]/\0<=f/\f<=3500000/\vQ K H p dy c/\
 (0<=k->k<=60-> ∀H',zh H H'->Q (.int (Cal.beg f dy c k)) H')/\(k<0-> ∀H',zh H H'->E (.ref t.c_Z06) none H')/\(60<k-> ∀H',zh H H'->E (.ref t.c_Z0c) none H')
theorem sc_07:FnScope ["first","cycle","k","word","many"] ["first","cycle","k"] (zC s_07):=by sl_open
theorem ok_07(T:Txt w K mg t):FnOk P w K mg base (CXE P w) 5 t.a_07 t.d_07 ["first","cycle","k"] (zj0 K t):=by
 refine T.F_07.fn.okX sc_07 ?_ λcdv A outer s H vs Q E L hr h=> ?_
 ·kdl_open
 refine opq λ_ kq=> ?_;obtain⟨f,p,dy,c,k,rfl,f0,f1,hc,q1,q2,q3⟩:=h;have nd:=sc_07.nd;obtain⟨u_Z09,h_Z09,r_Z09⟩:=T.k_Z09;apply kq;refine⟨_,(zj (zP (yu qo (pvJ 2) zc) (zk (wJ L T.ex_Z06 (by rfl) (by rfl) T.mg_Z06 (zb xQ zd))) zQ) (zj (zP (yu xt (pvJ 2) (qF (by rfl) h_Z09 r_Z09)) (zk (wJ L T.ex_Z0c (by rfl) (by rfl) T.mg_Z0c (zb xQ zd))) zQ) (zj (yv (pvJ 1) (z7 (n:=2) rfl (zD (zq (i:=3) nd rfl (Or.inl rfl)) (zD (zq (i:=4) nd rfl (Or.inl rfl)) yD)))) (zj (zP (qg (pvJ 3) (zZ st_4)) (zk (zB (peD L.toLv (ok_06 T) hr T.F_06 (zb (pvJ 0) (zb (zg qA (pvJ 2) (pvJ 4)) zd zT) ze)))) zQ) (zk (zB (zg zI (pvJ 0) (zg qA (pvJ 2) (pvJ 4))))))))),?_⟩;open_k0;split
 ·rename_i h;exact q2 h _ (zh.refl _)
 rename_i h0;split
 ·rename_i h;exact q3 h _ (zh.refl _)
 rename_i h1;have q:=q1 'o' 'o';refine⟨p,_,rfl,hc.1,rfl,?_⟩;open_k0;obtain⟨c0,c1⟩:=hc.2;cases dy with
 |true=>
  rw[Jf 'd'];rw[Jg rfl] at c1;refine⟨.inl ⟨'o','o'⟩,?_⟩;exact q H (zh.refl _)
 |false=>
  rw[Jg 'd'];rw[Jf 'd'] at c1;refine opq λ_ kq=> ?_;obtain⟨y,m,d,va,hn⟩:=Cal.date_exists f0 (show f<=3652058 by omega);apply kq;have mb:=Cal.mul_bound c0 c1 (show 0<=k by omega) (show k<=60 by omega);have mo:=Cal.mon_ok va 'o' mb.1 mb.2;refine⟨.inl ⟨'o','o'⟩,f,k*c,y,m,d,rfl,va,hn,λ_ H' s'=> ?_,λno=>absurd mo no⟩;have e:Cal.beg f false c k=Cal.num (Cal.monY y m (k*c)) (Cal.monM y m (k*c)) (Cal.monD y m d (k*c)):=by
   unfold Cal.beg;rw[Jf 'd',<-hn,Cal.mon_eq va]
  rw[<-e];exact q H' s'
def zmM(K:Fg)(t:Adr):Sp:=λvs H Q E=> ∃(f:Int) (p:Addr) (dy:Bool) (c d:Int),vs= [.int f, .ref p, .int d]/\0<=f/\f<=3500000/\vQ K H p dy c/\
 (∀k:Int,0<=k->k<60->Cal.beg f dy c k<=d->d<Cal.beg f dy c (k+1)-> ∀p H',zh H H'->H' p=some (.tup [.int k, .int (Cal.beg f dy c k), .int (Cal.beg f dy c (k+1))])->Q (.ref p) H')/\
 (d<f-> ∀H',zh H H'->E (.ref t.c_Z06) none H')/\(Cal.beg f dy c 60<=d-> ∀H',zh H H'->E (.ref t.c_Z0c) none H')
def vI:Option (Option V)->Int
 |some (some (.int i))=>i
 |_=>0
theorem sc_08:FnScope ["first","cycle","day","low","high","middle"] ["first","cycle","day"] (zC s_08):=by sl_open
theorem ok_08(T:Txt w K mg t):FnOk P w K mg base (CXE P w) 6 t.a_08 t.d_08 ["first","cycle","day"] (zmM K t):=by
 refine T.F_08.fn.okX sc_08 ?_ λcdv A outer s H vs Q E L hr h=> ?_
 ·kdl_open
 refine opq λ_ kq=> ?_;obtain⟨f,p,dy,c,d,rfl,f0,f1,hc,q1,q2,q3⟩:=h;have nd:=sc_08.nd;obtain⟨u_Z09,h_Z09,r_Z09⟩:=T.k_Z09;apply kq;refine⟨_,(zj (zP (yu qo (pvJ 2) (pvJ 0)) (zk (wJ L T.ex_Z06 (by rfl) (by rfl) T.mg_Z06 (zb xQ zd))) zQ) (zj (zP (yu ko (pvJ 2) (peD L.toLv (ok_07 T) hr T.F_07 (zb (pvJ 0) (zb (pvJ 1) (zb (qF (by rfl) h_Z09 r_Z09) zd ze) ze) ze))) (zk (wJ L T.ex_Z0c (by rfl) (by rfl) T.mg_Z0c (zb xQ zd))) zQ) (zj (psJ 3 nd zc) (zj (psJ 4 nd (qF (by rfl) h_Z09 r_Z09)) (zj (zhu (by passes_own) (qB zpK (zg yj (pvJ 4) (pvJ 3)) zc (yF _)) (zj (psJ 5 nd (zg yL (zg zI (pvJ 3) (pvJ 4)) zc)) (zk (zP (yu qo (pvJ 2) (peD L.toLv (ok_07 T) hr T.F_07 (zb (pvJ 0) (zb (pvJ 1) (zb (pvJ 5) zd ze) ze) ze))) (zk (psJ 4 nd (pvJ 5))) (zk (psJ 3 nd (pvJ 5))))))) (zk (zB (zW (zb (pvJ 3) (zb (peD L.toLv (ok_07 T) hr T.F_07 (zb (pvJ 0) (zb (pvJ 1) (zb (pvJ 3) zd ze) ze) ze)) (zb (peD L.toLv (ok_07 T) hr T.F_07 (zb (pvJ 0) (zb (pvJ 1) (zb (pvJ 4) zd ze) ze) ze)) zd yB) yB) ze))))))))),?_⟩;open_k0;split
 ·rename_i h;exact q2 h _ (zh.refl _)
 rename_i h0;refine gq λ_ kq=>⟨f,p,dy,c,60,rfl,f0,f1,hc,λ_ _ H1 s1=>kq _ _ ?_,λz=>absurd z 'd',λz=>absurd z 'd'⟩
 try open_k0
 split
 ·rename_i h;exact q3 h _ s1
 rename_i h1;have b0:Cal.beg f dy c 0=f:=Cal.beg_zero f0 f1;obtain⟨Pv,hPv⟩: ∃Pv:St->Hp->Prop,Pv=λσ1 H2=>zh H H2/\ ∃(lo hi:Int) (x5:Option V),0<=lo/\lo<hi/\hi<=60/\Cal.beg f dy c lo<=d/\d<Cal.beg f dy c hi/\σ1= [some (.int f),some (.ref p),some (.int d),some (.int lo),some (.int hi),x5]:=⟨_,rfl⟩
 obtain⟨mu,hmu⟩: ∃mu:St->Hp->Nat,mu=λσ1 _=>(vI σ1[4]? - vI σ1[3]?).toNat:=⟨_,rfl⟩
 refine zk8 Pv mu (by rw[hPv];exact⟨s1,0,60,_,'d','d','d','o','o',rfl⟩) (λσ1 H2 h=> ?_) ?_
 ·rw[hPv] at h;refine opq λ_ kq=> ?_;obtain⟨s2,lo,hi,x5,l0,lh,l1,d0,d1,rfl⟩:=h;apply kq;open_k0;split
  ·rename_i c2;have m0:lo<(lo+hi) / 2/\(lo+hi) / 2<hi:=by omega
   generalize (lo+hi) / 2=mi at m0 ⊢;refine gq λ_ kq=>⟨f,p,dy,c,mi,rfl,f0,f1,hc.same s2,λ_ _ H3 s3=>kq _ _ ?_,λz=>absurd z 'o',λz=>absurd z 'o'⟩
   try open_k0
   split
   ·rename_i dm;rw[hPv,hmu];exact⟨⟨s2.trans s3,lo,mi,_,l0,m0.1,'o',d0,dm,rfl⟩,by show (mi - lo).toNat<(hi - lo).toNat;omega⟩
   ·rename_i dm;rw[hPv,hmu];exact⟨⟨s2.trans s3,mi,hi,_,'o',m0.2,l1,'o',d1,rfl⟩,by show (hi - mi).toNat<(hi - lo).toNat;omega⟩
  ·rename_i c2;obtain rfl:hi=lo+1:=by omega
   refine gq λ_ kq=>⟨f,p,dy,c,lo,rfl,f0,f1,hc.same s2,λ_ _ H3 s3=>kq _ _ ?_,λz=>absurd z 'o',λz=>absurd z 'o'⟩
   try open_k0
   refine gq λ_ kq=>⟨f,p,dy,c,lo+1,rfl,f0,f1,(hc.same s2).same s3,λ_ _ H4 s4=>kq _ _ ?_,λz=>absurd z 'o',λz=>absurd z 'o'⟩
   try open_k0
   intro p5 H5 _ s5 e5;exact q1 lo l0 'o' d0 d1 p5 H5 (((s2.trans s3).trans s4).trans s5) e5
 ·intro σ1 H1 Q1 Q2 hm h;first
   |(obtain⟨x,hx,y,hy,i,j,e1,e2,i2,j2,e3,e4,k,e5,r⟩:=h
     exact⟨x,hx,y,hy,i,j,e1,e2,i2,j2,e3,e4,k,e5,hm _ _ r⟩)
   |(dsimp only[vd,tOp,vE,tC,rJ0,zhY,zl6] at h ⊢
     simp only[jp,wI] at h ⊢;refine opq λ_ kq=> ?_;obtain⟨x,hx,y,hy,i,e1,j,e2,r⟩:=h;apply kq;exact⟨x,hx,y,hy,i,e1,j,e2,hm _ _ r⟩)
theorem yx(v:V)(r:List V):atI (v::r) 0=some v:=qp (j:=0) rfl
theorem y8(u v:V)(r:List V):atI (u::v::r) 1=some v:=qp (j:=1) rfl
theorem xO(u v x:V)(r:List V):atI (u::v::x::r) 2=some x:=qp (j:=2) rfl
theorem zql(u v x y:V)(r:List V):atI (u::v::x::y::r) 3=some y:=qp (j:=3) rfl
theorem jN{f c d:Int}{dy:Bool}(b0:Cal.beg f dy c 0<=d): ∀n:Nat,d<Cal.beg f dy c n-> ∃k:Int,0<=k/\k<n/\Cal.beg f dy c k<=d/\d<Cal.beg f dy c (k+1)
 |0,h=>absurd h (by have:Cal.beg f dy c ((0:Nat):Int)=Cal.beg f dy c 0:=rfl;omega)
 |n+1,h=>by
  by_cases z:d<Cal.beg f dy c n
  ·obtain⟨k,h1,h2,h3,h4⟩:=jN b0 n z;exact⟨k,h1,'o',h3,h4⟩
  ·exact⟨n,'o','o','o',h⟩
def qu(K:Fg)(H:Hp)(p:Addr)(l:Addr)(f:Int)(dy:Bool)(cc:Int):Prop:= ∃pc,0<=f/\f<=3500000/\vQ K H pc dy cc/\H p=some (.tup [.ref l, .int f, .ref pc])
theorem qu.same{K:Fg}{H H':Hp}{p l:Addr}{f:Int}{dy:Bool}{cc:Int}(h:qu K H p l f dy cc)(s:zh H H'):qu K H' p l f dy cc:=
 let ⟨pc,h1,h2,h3,h4⟩:=h;⟨pc,h1,h2,h3.same s,s _ _ h4⟩
theorem qu.cyc{p:Addr}{f:Int}{cc:Int}(h:qu K H p l f dy cc):0<=f/\f<=3500000/\Cal.CycOk dy cc:=let ⟨_,h1,h2,h3,_⟩:=h;⟨h1,h2,h3.2⟩
theorem vh{f k:Int}(f0:0<=f)(f1:f<=3500000)(hc:Cal.CycOk dy c)(k0:0<=k)(k1:k<60):0<=Cal.beg f dy c k/\Cal.beg f dy c k<Cal.beg f dy c (k+1)/\Cal.beg f dy c (k+1)<4000000:=by
 have a1:=Cal.beg_lt (k:=k) (j:=k+1) f0 f1 hc k0 'o' 'o';have a2:=Cal.beg_ge (k:=k) f0 f1 hc k0 'o';have a3:=Cal.beg_range (k:=k+1) f0 f1 hc 'o' 'o';exact⟨'o',a1,'o'⟩
def zi8(K:Fg)(t:Adr):Sp:=λvs H Q E=> ∃(pa l:Addr) (f:Int) (dy:Bool) (c k:Int),vs= [.ref pa, .int k]/\qu K H pa l f dy c/\(0<=k->k<60-> ∀p H',zh H H'->H' p=some (.tup [.int (Cal.beg f dy c k), .int (Cal.beg f dy c (k+1))])->Q (.ref p) H')/\(k<0-> ∀H',zh H H'->E (.ref t.c_Z06) none H')/\(60<=k-> ∀H',zh H H'->E (.ref t.c_Z0c) none H')
theorem sc_0a:FnScope ["account","k","plans","first","cycle"] ["account","k"] (zC s_0a):=by sl_open
theorem ok_0a(T:Txt w K mg t):FnOk P w K mg base (CXE P w) 6 t.a_0a t.d_0a ["account","k"] (zi8 K t):=by
 refine T.F_0a.fn.okX sc_0a ?_ λcdv A outer s H vs Q E L hr h=> ?_
 ·kdl_open
 refine opq λ_ kq=> ?_;obtain⟨pa,l,f,dy,c,k,rfl,⟨pc,f0,f1,hc,ep⟩,q,q2,q3⟩:=h;apply kq;have nd:=sc_0a.nd;refine⟨_,(zj (yv (pvJ 0) (z7 (n:=3) rfl (zD (zq (i:=2) nd rfl (Or.inl rfl)) (zD (zq (i:=3) nd rfl (Or.inl rfl)) (zD (zq (i:=4) nd rfl (Or.inl rfl)) yD))))) (zk (zB (zW (zb (peD L.toLv (ok_07 T) hr T.F_07 (zb (pvJ 3) (zb (pvJ 4) (zb (pvJ 1) zd ze) ze) ze)) (zb (peD L.toLv (ok_07 T) hr T.F_07 (zb (pvJ 3) (zb (pvJ 4) (zb (zg zI (pvJ 1) zc) zd zT) ze) ze)) zd yB) yB))))),?_⟩;open_k0;refine⟨pa,_,rfl,SqT.of ep,rfl,?_⟩;open_k0;refine gq λ_ kq=>⟨f,pc,dy,c,k,rfl,f0,f1,hc,λk0 _ H1 s1=>kq _ _ ?_,q2,λz=>q3 'o'⟩
 refine gq λ_ kq=>⟨f,pc,dy,c,k+1,rfl,f0,f1,hc.same s1,λ_ k1 H2 s2=>kq _ _ ?_,λz=>by omega,λz H3 s3=>q3 'o' H3 (s1.trans s3)⟩
 exact λp H3 _ s3 e3=>q k0 'o' p H3 ((s1.trans s2).trans s3) e3
def zfL(K:Fg)(t:Adr):Sp:=λvs H Q E=> ∃(pa l:Addr) (f:Int) (dy:Bool) (c d:Int),vs= [.ref pa, .int d]/\qu K H pa l f dy c/\
 (∀k:Int,0<=k->k<60->Cal.beg f dy c k<=d->d<Cal.beg f dy c (k+1)-> ∀p H',zh H H'->H' p=some (.tup [.int k, .int (Cal.beg f dy c k), .int (Cal.beg f dy c (k+1))])->Q (.ref p) H')/\
 (d<f-> ∀H',zh H H'->E (.ref t.c_Z06) none H')/\(Cal.beg f dy c 60<=d-> ∀H',zh H H'->E (.ref t.c_Z0c) none H')
theorem sc_0b:FnScope ["account","day","plans","first","cycle"] ["account","day"] (zC s_0b):=by sl_open
theorem ok_0b(T:Txt w K mg t):FnOk P w K mg base (CXE P w) 7 t.a_0b t.d_0b ["account","day"] (zfL K t):=by
 refine T.F_0b.fn.okX sc_0b ?_ λcdv A outer s H vs Q E L hr h=> ?_
 ·kdl_open
 refine opq λ_ kq=> ?_;obtain⟨pa,l,f,dy,c,d,rfl,⟨pc,f0,f1,hc,ep⟩,q1,q2,q3⟩:=h;apply kq;have nd:=sc_0b.nd;refine⟨_,(zj (yv (pvJ 0) (z7 (n:=3) rfl (zD (zq (i:=2) nd rfl (Or.inl rfl)) (zD (zq (i:=3) nd rfl (Or.inl rfl)) (zD (zq (i:=4) nd rfl (Or.inl rfl)) yD))))) (zk (zB (peD L.toLv (ok_08 T) hr T.F_08 (zb (pvJ 3) (zb (pvJ 4) (zb (pvJ 1) zd ze) ze) ze))))),?_⟩;open_k0;refine⟨pa,_,rfl,SqT.of ep,rfl,?_⟩;open_k0;exact⟨f,pc,dy,c,d,rfl,f0,f1,hc,q1,q2,q3⟩
theorem zfM(ch:Ch)(h:yP ch=true): ∃r,(chD ch).map sv= .str (SL (chW ch)):: .int (ql ch)::r:=by
 cases ch with
 |plan d nm=>exact⟨_,rfl⟩
 |seats d n=>exact⟨_,rfl⟩
 |word w d=>exact⟨_,rfl⟩
 |undo k=>cases h
 |grant k=>cases h
 |back=>cases h
theorem zmN(h:yP ch=true)(w4: ∀w d,ch= .word w d->w<4):(chW ch= [108,97,115,116]↔zmo ch=true):=by
 cases ch with
 |plan d nm=>exact⟨λz=>absurd z (by show¬([112,108,97,110]:List Nat)=_;decide),λz=>by cases z⟩
 |seats d n=>exact⟨λz=>absurd z (by show¬([115,101,97,116,115]:List Nat)=_;decide),λz=>by cases z⟩
 |word w d=>
  have:=w4 w d rfl;match w,this with
  |0,_=>exact⟨λz=>absurd z (by show¬([104,111,108,100]:List Nat)=_;decide),λz=>by cases z⟩
  |1,_=>exact⟨λz=>absurd z (by show¬([103,111]:List Nat)=_;decide),λz=>by cases z⟩
  |2,_=>exact⟨λz=>absurd z (by show¬([115,116,111,112]:List Nat)=_;decide),λz=>by cases z⟩
  |3,_=>exact⟨λ_=>rfl,λ_=>rfl⟩
 |undo k=>cases h
 |grant k=>cases h
 |back=>cases h
def TmB(f e:Int)(ch:Ch):Prop:=yP ch=true/\f<=ql ch/\ql ch<e/\ ∀w d,ch= .word w d->w<4
def zmO(K:Fg):Sp:=λvs H Q _=> ∃(pa p l:Addr) (f:Int) (dy:Bool) (c:Int) (ch:Ch),vs= [.ref pa, .ref p]/\qu K H pa l f dy c/\SqT K H p ((chD ch).map sv)/\TmB f (Cal.beg f dy c 60) ch/\ ∀H',zh H H'->Q (.int (cntF f dy c ch)) H'
theorem sc_0d:FnScope ["account","change","own_day","k","begin","end"] ["account","change"] (zC s_0d):=by sl_open
theorem ok_0d(T:Txt w K mg t):FnOk P w K mg base (CXE P w) 8 t.a_0d t.d_0d ["account","change"] (zmO K):=by
 refine T.F_0d.fn.okX sc_0d ?_ λcdv A outer s H vs Q E L hr h=> ?_
 ·kdl_open
 refine opq λ_ kq=> ?_;obtain⟨pa,p,l,f,dy,c,ch,rfl,ha,hp,⟨tm,d0,d1,w4⟩,q⟩:=h;apply kq;have nd:=sc_0d.nd;refine⟨_,(zj (psJ 2 nd (ixJ zH (pvJ 1) zc)) (zj (zP (qg (ixJ zH (pvJ 1) zc) (zZ st_9)) (zj (yv (peD L.toLv (ok_0b T) hr T.F_0b (zb (pvJ 0) (zb (pvJ 2) zd ze) ze)) (z7 (n:=3) rfl (zD (zq (i:=3) nd rfl (Or.inl rfl)) (zD (zq (i:=4) nd rfl (Or.inl rfl)) (zD (zq (i:=5) nd rfl (Or.inl rfl)) yD))))) (zk (zB (pvJ 5)))) zQ) (zk (zB (pvJ 2))))),?_⟩;obtain⟨r,er⟩:=zfM ch tm;rw[er] at hp;have lw:=zmN tm w4;unfold cntF at q;open_k0;refine ixT hp (y8 _ _ _) (ixT hp (yx _ _) ⟨rfl,?_⟩);by_cases e:chW ch= [108,97,115,116]
 ·rw[Jg (lw.mp e)] at q;obtain⟨f0,f1,hc⟩:=ha.cyc;refine xW (by rw[e]) ⟨pa,l,f,dy,c,_,rfl,ha,λk k0 k1 a1 a2 p1 H1 s1 e1=> ?_,λz=>by omega,λz=>by omega⟩;rw[<-zoD f0 f1 hc k0 k1 a1 a2] at e1;refine⟨p1,_,rfl,SqT.of e1,rfl,?_⟩;open_k0;exact q H1 s1
 ·rw[Jf (λz=>e (lw.mpr z))] at q;exact yg (qc e) (q _ (zh.refl _))
theorem zqm{f:Int}(f0:0<=f)(f1:f<=3500000)(hc:Cal.CycOk dy c)(h:TmB f (Cal.beg f dy c 60) ch):0<=cntF f dy c ch/\cntF f dy c ch<4000000:=by
 obtain⟨tm,d0,d1,w4⟩:=h;have b6:=Cal.beg_range (k:=60) f0 f1 hc 'd' 'd';unfold cntF;split
 ·have b0:Cal.beg f dy c 0=f:=Cal.beg_zero f0 f1;obtain⟨k,k0,k1,a1,a2⟩:=jN (f:=f) (c:=c) (dy:=dy) (d:=ql ch) 'o' 60 d1;rw[zoD f0 f1 hc k0 k1 a1 a2]
  have:=Cal.beg_range (k:=k+1) f0 f1 hc 'o' 'o';omega
 ·omega
abbrev Tm:=Addr×Addr×Int×Ch
def jO(K:Fg)(H:Hp)(f e:Int)(t:Tm):Prop:=(H t.1=some (.tup [.int t.2.2.1, .ref t.2.1])/\SqT K H t.2.1 ((chD t.2.2.2).map sv))/\(0<=t.2.2.1/\t.2.2.1<64)/\TmB f e t.2.2.2
def xp(K:Fg)(H:Hp)(l:Addr)(f e:Int)(ts:List Tm):Prop:=H l=some (.lst (ts.map λt=>V.ref t.1))/\ts.length<64/\(∀t∈ts,jO K H f e t)/\ts.Pairwise (λx y=>x.2.2.1≠y.2.2.1)
theorem jO.same{f:Int}{t:Tm}(h:jO K H f e t)(s:zh H H'):jO K H' f e t:=⟨⟨s _ _ h.1.1,s.sqT h.1.2⟩,h.2⟩
theorem xp.same{K:Fg}{H H':Hp}{l:Addr}{f e:Int}{ts:List Tm}(h:xp K H l f e ts)(s:zh H H'):xp K H' l f e ts:=⟨s _ _ h.1,h.2.1,λt ht=>(h.2.2.1 t ht).same s,h.2.2.2⟩
theorem zmP{β:Type}{g:α->β}{ws l:List β}(h:ws.Perm l): ∀os:List α,l=os.map g-> ∃os':List α,os'.Perm os/\os'.map g=ws:=by
 induction h with
 |nil=>intro os e;exact⟨os, .refl _,e.symm⟩
 |cons x _ ih=>
  intro os e;match os,e with
  |o::r,e=>
   obtain⟨e1,e2⟩:=List.cons.inj e;obtain⟨r',p,m⟩:=ih r e2;exact⟨o::r',p.cons o,by rw[JA,m,e1]⟩
 |swap x y l=>
  intro os e;match os,e with
  |a::b::r,e=>
   obtain⟨e1,e2⟩:=List.cons.inj e;obtain⟨e3,e4⟩:=List.cons.inj e2;exact⟨b::a::r, .swap a b r,by rw[JA,JA,e1,e3,e4]⟩
 |trans _ _ ih1 ih2=>
  intro os e;obtain⟨os2,p2,m2⟩:=ih2 os e;obtain⟨os1,p1,m1⟩:=ih1 os2 m2.symm;exact⟨os1,p1.trans p2,m1⟩
noncomputable def rtT(f:Int)(dy:Bool)(c:Int)(t:Tm):Rt:=rtF f dy c t.2.2.1 t.2.2.2
abbrev Or':=Addr×Tm
def vi(K:Fg)(H:Hp)(l:Addr)(f:Int)(dy:Bool)(c:Int)(os:List Or'):Prop:=H l=some (.lst (os.map λo=>V.ref o.1))/\os.length<64/\(∀o∈os,H o.1=some (.tup [.int (cntF f dy c o.2.2.2.2), .int (ql o.2.2.2.2), .int o.2.2.2.1, .ref o.2.2.1])/\SqT K H o.2.2.1 ((chD o.2.2.2.2).map sv)/\TmB f (Cal.beg f dy c 60) o.2.2.2.2)/\os.Pairwise (λx y=>cntF f dy c x.2.2.2.2<=cntF f dy c y.2.2.2.2/\(rtT f dy c x.2).2.2.1<(rtT f dy c y.2).2.2.1)
def zkO(K:Fg):Sp:=λvs H Q _=> ∃(pa l la:Addr) (f:Int) (dy:Bool) (c:Int) (ts:List Tm),vs= [.ref pa, .ref l]/\qu K H pa la f dy c/\xp K H l f (Cal.beg f dy c 60) ts/\ ∀l' os H',zh H H'->vi K H' l' f dy c os->(∀t,t∈os.map (·.2)↔t∈ts)->Q (.ref l') H'
theorem sc_0e:FnScope ["account","terms"] ["account","terms"] (zC s_0e):=by sl_open
theorem ok_0e(T:Txt w K mg t):FnOk P w K mg base (CXE P w) 9 t.a_0e t.d_0e ["account","terms"] (zkO K):=by
 refine T.F_0e.fn.okX sc_0e ?_ λcdv A outer s H vs Q E L hr h=> ?_
 ·kdl_open
 refine opq λ_ kq=> ?_;obtain⟨pa,l,la,f,dy,c,ts,rfl,ha,ht,q⟩:=h;apply kq;have nd:=sc_0e.nd;refine⟨_,(zk (zB (zY zgY (by rfl) T.no_sorted uT (zb (qG (n:=2) (N:= ["number","change","account"]) (js:= [0]) (by rfl) rfl rfl (qb (pvJ 1)) (λa=>(z7 (n:=2) rfl (yR (zq (i:=0) (show List.Nodup (["number","change","account"]:List Str) from by decide+kernel) rfl (Or.inl rfl)) (yR (zq (i:=1) (show List.Nodup (["number","change","account"]:List Str) from by decide+kernel) rfl (Or.inl rfl)) xF)))) (λa=>qM) (λa=>(zW (zb (peD vv (ok_0d T) hr T.F_0d (zb (pvJ 2) (zb (pvJ 1) zd ze) ze)) (zb (ixJ zH (pvJ 1) zc) (zb (pvJ 0) (zb (pvJ 1) zd ze) ze) yH) yB)))) zd)))),?_⟩;refine opq λ_ kq=> ?_;obtain⟨f0,f1,hc⟩:=ha.cyc;have b6:=Cal.beg_range (k:=60) f0 f1 hc 'd' 'd';obtain⟨el,n64,hts,hn⟩:=id ht;apply kq;open_k0;first|refine⟨l,rfl,⟨_,SqL.of el⟩,λl2 hl2 aa=> ?_⟩|refine⟨_,rfl,l,rfl,⟨_,SqL.of el⟩,λl2 hl2 aa=> ?_⟩
 refine qr (λj xs H5=> ∃as:List Addr,xs=as.map V.ref/\as.length=j/\ ∀(i:Nat) (a:Addr) (t:Tm),as[i]? =some a->ts[i]? =some t->H5 a=some (.tup [.int (cntF f dy c t.2.2.2), .int (ql t.2.2.2), .int t.2.2.1, .ref t.2.1])) (qV (SqL.of el)) hl2 (by rw[Ja];exact qy 'o') (λ_ _=>⟨[],rfl,rfl,λi a t h=>by rw[List.getElem?_nil] at h;cases h⟩) (λj x xs H8 K1 K0 hx sm pv hl k1 k0=> ?_) (λxs H2 s2 pv _ w2=> ?_)
 ·obtain⟨u,hz,rfl⟩: ∃u,ts[j]? =some u/\x= .ref u.1:=by
   rw[Jh] at hx;obtain⟨u,e,rfl⟩:=Jk.mp hx;exact⟨u,e,rfl⟩
  refine opq λ_ kq=> ?_;obtain⟨⟨z1,z2⟩,zn,tb⟩:=hts u (Ji hz);obtain⟨as,rfl,al,pa'⟩:=pv;obtain⟨r,er⟩:=zfM u.2.2.2 tb.1;apply kq;open_k0;refine⟨_,_,rfl,SqT.of (sm _ _ z1),rfl,?_⟩;open_k0;refine gq λ_ kq=>⟨pa,u.2.1,la,f,dy,c,u.2.2.2,rfl,ha.same sm,sm.sqT z2,tb,λH9 s9=>kq _ _ ?_⟩
  rw[er] at z2;refine ixT (s9.sqT (sm.sqT z2)) (y8 _ _ _) (show New _ _ _ from λp H10 hp s10 e10=>k1 _ _ (s9.trans s10) λH5 h5=>⟨as++ [p],by rw[Jd];rfl,by rw[Jj,al];rfl,λi a t h1 h2=> ?_⟩);have s810:=s9.trans s10;have nl: ∀a xs,H10 a=some (.tup xs)->a≠l2:=λa xs h z=>by rw[z,s810 _ _ hl] at h;cases h
  rw[List.getElem?_append] at h1;by_cases hi:i<as.length
  ·rw[Jg hi] at h1
   have:=s810 _ _ (pa' i a t h1 h2);exact h5 _ _ (nl _ _ this) this
  ·rw[Jf hi] at h1;have i0:i - as.length=0:=by
    rcases Nat.lt_or_ge (i - as.length) 1 with z|z
    ·omega
    ·rw[List.getElem?_eq_none (by simpa using z)] at h1;cases h1
   rw[i0] at h1;cases h1;obtain rfl:i=j:=by omega
   rw[hz] at h2;cases h2;exact h5 _ _ (nl _ _ e10) e10
 rw[Ja] at pv;refine opq λ_ kq=> ?_;obtain⟨as,rfl,al,pa'⟩:=pv;obtain⟨os,hos⟩: ∃os:List Or',os=as.zip ts:=⟨_,rfl⟩
 apply kq;have om: ∀o∈os,∃i:Nat,as[i]? =some o.1/\ts[i]? =some o.2:=λo ho=>by
  rw[hos] at ho;obtain⟨i,hi,e⟩:=List.mem_iff_getElem.mp ho;rw[List.length_zip] at hi;refine⟨i,?_,?_⟩
  ·rw[Jb 'o',<-e,List.getElem_zip]
  ·rw[Jb 'o',<-e,List.getElem_zip]
 have ol:os.length=ts.length:=by rw[hos,List.length_zip,al,Nat.min_self]
 have o1:os.map (·.1)=as:=by rw[hos];exact List.map_fst_zip 'o'
 have o2:os.map (·.2)=ts:=by rw[hos];exact List.map_snd_zip 'o'
 have ob: ∀o∈os,H2 o.1=some (.tup [.int (cntF f dy c o.2.2.2.2), .int (ql o.2.2.2.2), .int o.2.2.2.1, .ref o.2.2.1])/\SqT K H2 o.2.2.1 ((chD o.2.2.2.2).map sv)/\TmB f (Cal.beg f dy c 60) o.2.2.2.2/\(0<=o.2.2.2.1/\o.2.2.2.1<64):=λo ho=>by
  refine opq λ_ kq=> ?_;obtain⟨i,h1,h2⟩:=om o ho;obtain⟨⟨z1,z2⟩,zn,tb⟩:=hts o.2 (Ji h2);apply kq;exact⟨pa' i _ _ h1 h2,s2.sqT z2,tb,zn⟩
 obtain⟨zf,hzf⟩: ∃zf:Or'->Tz,zf=λo=>(o.1,cntF f dy c o.2.2.2.2,ql o.2.2.2.2,o.2.2.2.1):=⟨_,rfl⟩
 refine⟨l2,rfl,os.map zf,by rw[w2,List.map_map,<-o1,List.map_map,hzf];rfl,by rw[Ja];omega,λz hz=> ?_,?_,λws wp wo p H3 hp s3 e3=> ?_⟩
 ·refine opq λ_ kq=> ?_;obtain⟨o,ho,rfl⟩:=Jw.mp hz;obtain⟨a1,a2,a3,a4⟩:=ob o ho;apply kq;have ci:=zqm f0 f1 hc a3;rw[hzf];exact⟨⟨ci,⟨by show 0<=ql o.2.2.2.2;have:=a3.2.1;omega,by show ql o.2.2.2.2<4000000;have:=a3.2.2.1;omega⟩,a4⟩,_,a1⟩
 ·rw[List.pairwise_map,hzf]
  have:=hn;rw[<-o2,List.pairwise_map] at this;exact this
 ·obtain⟨os',op,rfl⟩:=zmP wp os rfl;refine q p os' H3 (s2.trans s3) ⟨by rw[e3,List.map_map,hzf];rfl,by rw[op.length_eq];omega,λo ho=> ?_,?_⟩ λt=> ?_
  ·refine opq λ_ kq=> ?_;obtain⟨a1,a2,a3,_⟩:=ob o (op.mem_iff.mp ho);apply kq;exact⟨s3 _ _ a1,s3.sqT a2,a3⟩
  ·rw[List.pairwise_map,hzf] at wo;exact wo
  ·rw[(op.map (·.2)).mem_iff,o2]
theorem zi9: ∀{w:Nat},w<4->(xm w= [104,111,108,100]/\vJ w= [104,101,108,100])\/(xm w= [103,111]/\vJ w= [111,110])\/(xm w= [115,116,111,112]/\vJ w= [111,102,102])\/(xm w= [108,97,115,116]/\vJ w= [111,102,102])
 |0,_=> .inl ⟨rfl,rfl⟩
 |1,_=> .inr (.inl ⟨rfl,rfl⟩)
 |2,_=> .inr (.inr (.inl ⟨rfl,rfl⟩))
 |3,_=> .inr (.inr (.inr ⟨rfl,rfl⟩))
def on':D:= .str [111,110]
def stT(o0 o1 o2:Option Rt):List D:= [stV o0 .non,stV o1 (.int 1),stV o2 on']
def xf(f:Int)(dy:Bool)(c:Int)(ts:List Tm)(day:Int)(o0 o1 o2:Option Rt):Prop:=Bst (ts.map (rtT f dy c)) day 0 o0/\Bst (ts.map (rtT f dy c)) day 1 o1/\Bst (ts.map (rtT f dy c)) day 2 o2
def zkP(K:Fg):Sp:=λvs H Q _=> ∃(l:Addr) (d:Int) (f:Int) (dy:Bool) (c:Int) (os:List Or'),vs= [.ref l, .int d]/\vi K H l f dy c os/\ ∀p o0 o1 o2 H',zh H H'->xf f dy c (os.map (·.2)) d o0 o1 o2->H' p=some (.tup ((stT o0 o1 o2).map sv))->Q (.ref p) H'
theorem sc_0f:FnScope ["ordered","day","name","seats","word","counts","own_day","number","change"] ["ordered","day"] (zC s_0f):=by sl_open
theorem ok_0f(T:Txt w K mg t):FnOk P w K mg base (CXE P w) 1 t.a_0f t.d_0f ["ordered","day"] (zkP K):=by
 refine T.F_0f.fn.okX sc_0f ?_ λcdv A outer s H vs Q E L hr h=> ?_
 ·kdl_open
 refine opq λ_ kq=> ?_;obtain⟨l,d,f,dy,c,os,rfl,ho,q⟩:=h;apply kq;have nd:=sc_0f.nd;refine⟨_,(zj (psJ 2 nd zk0) (zj (psJ 3 nd zc) (zj (psJ 4 nd (zZ st_10)) (zj (qj (by passes_own) rfl (qb (pvJ 0)) (z7 (n:=4) rfl (yR (zq (i:=5) nd rfl (Or.inl rfl)) (yR (zq (i:=6) nd rfl (Or.inl rfl)) (yR (zq (i:=7) nd rfl (Or.inl rfl)) (yR (zq (i:=8) nd rfl (Or.inl rfl)) xF))))) (zj (zP (yu xt (pvJ 5) (pvJ 1)) (zk zht) zQ) (zk (zP (qg (ixJ zH (pvJ 8) zc) (zZ st_11)) (zk (psJ 2 nd (ixJ zH (pvJ 8) zc))) (zk (zP (qg (ixJ zH (pvJ 8) zc) (zZ st_12)) (zk (psJ 3 nd (ixJ zH (pvJ 8) zc))) (zk (psJ 4 nd (zlQ (by rfl) T.k_Z0d (ixJ zH (pvJ 8) zc) (λ_ _=>rfl)))))))))) (zk (zB (zW (zb (pvJ 2) (zb (pvJ 3) (zb (pvJ 4) zd ze) ze) ze)))))))),?_⟩;refine opq λ_ kq=> ?_;obtain⟨el,n64,h3,so⟩:=id ho;apply kq;have fin: ∀(i:Nat) (kd:Nat) (o':Option Rt),(i=os.length\/ ∃x,os[i]? =some x/\d<cntF f dy c x.2.2.2.2)->Bst ((os.take i).map λx=>rtT f dy c x.2) d kd o'->Bst ((os.map (·.2)).map (rtT f dy c)) d kd o':=λi kd o' hi hb=>by
  rw[List.map_map];refine hb.more (λt ht=> ?_) λt ht nt=> ?_
  ·obtain⟨x,hx,rfl⟩:=Jw.mp ht;exact Jw.mpr ⟨x,List.mem_of_mem_take hx,rfl⟩
  ·obtain⟨x,hx,rfl⟩:=Jw.mp ht;have nx:x∉os.take i:=λz=>nt (Jw.mpr ⟨x,z,rfl⟩);show d<cntF f dy c x.2.2.2.2;rcases hi with rfl|⟨y,hy,ly⟩
   ·rw[JC] at nx;exact absurd hx nx
   ·refine opq λ_ kq=> ?_;obtain⟨j,hj,ej⟩:=List.mem_iff_getElem.mp hx;obtain⟨hi',ey⟩:=Jc.mp hy;apply kq;by_cases jl:j<i
    ·exact absurd (List.mem_iff_getElem.mpr ⟨j,by rw[JB];omega,by rw[List.getElem_take,ej]⟩) nx
    ·by_cases ji:j=i
     ·subst ji;rw[ej] at ey;rw[ey];exact ly
     ·have:=(List.pairwise_iff_getElem.mp so i j hi' hj 'o').1;rw[ey,ej] at this;omega
 open_k0
 ((try dsimp only);refine qq λR hR=> ?_;(open_k0;repeat (dsimp only[yr,qt,yZ,qm];open_k0)))
 refine⟨⟨_,SqL.of el⟩,hR _ _ ?_⟩;clear hR;obtain⟨Pv,hPv⟩: ∃Pv:Nat->St->Hp->Prop,Pv=λi σ1 H7=>zh H H7/\ ∃(o0 o1 o2:Option Rt) (x5 x6 x7 x8:Option V),(Bst ((os.take i).map λx=>rtT f dy c x.2) d 0 o0/\Bst ((os.take i).map λx=>rtT f dy c x.2) d 1 o1/\Bst ((os.take i).map λx=>rtT f dy c x.2) d 2 o2)/\σ1= [some (.ref l),some (.int d),some (sv (stV o0 .non)),some (sv (stV o1 (.int 1))),some (sv (stV o2 on')),x5,x6,x7,x8]:=⟨_,rfl⟩
 have b0: ∀kd,Bst ((os.take 0).map λx=>rtT f dy c x.2) d kd none:=λkd t h=>by rw[List.take_zero] at h;cases h
 refine v0 (xs:=os.map λo=>V.ref o.1) Pv (by rw[hPv];exact⟨zh.refl _,none,none,none,_,_,_,_,⟨b0 0,b0 1,b0 2⟩,rfl⟩) (λ_ _ _ _ h=>by rw[hPv] at h;exact SqL.of (h.1 _ _ el)) (λi x σ1 H7 hx h=> ?_) (λσ1 H7 h=> ?_)
 ·rw[hPv] at h;refine opq λ_ kq=> ?_;obtain⟨s7,o0,o1,o2,x5,x6,x7,x8,⟨c0,c1,c2⟩,rfl⟩:=h;apply kq;obtain⟨o,hz,rfl⟩: ∃o,os[i]? =some o/\x= .ref o.1:=by
   rw[Jh] at hx;obtain⟨u,e,rfl⟩:=Jk.mp hx;exact⟨u,e,rfl⟩
  refine opq λ_ kq=> ?_;obtain⟨a1,a2,tb⟩:=h3 o (Ji hz);have a2':=s7.sqT a2;obtain⟨r,er⟩:=zfM o.2.2.2.2 tb.1;apply kq;rw[er] at a2';have tk:(os.take (i+1)).map (λx=>rtT f dy c x.2)=(os.take i).map (λx=>rtT f dy c x.2)++ [rtT f dy c o.2]:=by rw[JH,hz,Option.toList_some,Jd];rfl
  have rb: ∀(kd:Nat) (o':Option Rt),Bst ((os.take i).map λx=>rtT f dy c x.2) d kd o'-> ∀t,o'=some t->t.2.2.1<=(rtT f dy c o.2).2.2.1:=λkd o' hb t e=>by
   subst e;refine opq λ_ kq=> ?_;obtain⟨y,hy,rfl⟩:=Jw.mp hb.1;obtain⟨j,hj,ej⟩:=List.mem_iff_getElem.mp hy;rw[JB] at hj;rw[List.getElem_take] at ej;obtain⟨hi',eo⟩:=Jc.mp hz;apply kq
   have:=(List.pairwise_iff_getElem.mp so j i 'o' hi' 'o').2;rw[ej,eo] at this;omega
  open_k0;refine⟨o.1,_,rfl,SqT.of (s7 _ _ a1),rfl,?_⟩
  (open_k0;repeat (dsimp only[j5];open_k0))
  refine yC (λh p H8 _ s8 e8=>q p o0 o1 o2 H8 (s7.trans s8) ⟨fin i 0 _ (.inr ⟨o,hz,h⟩) c0,fin i 1 _ (.inr ⟨o,hz,h⟩) c1,fin i 2 _ (.inr ⟨o,hz,h⟩) c2⟩ e8) (λh=> ?_);have nx: ∀(o0' o1' o2':Option Rt),Bst ((os.take i).map (λx=>rtT f dy c x.2)++ [rtT f dy c o.2]) d 0 o0'->Bst ((os.take i).map (λx=>rtT f dy c x.2)++ [rtT f dy c o.2]) d 1 o1'->Bst ((os.take i).map (λx=>rtT f dy c x.2)++ [rtT f dy c o.2]) d 2 o2'->Pv (i+1) [some (.ref l),some (.int d),some (sv (stV o0' .non)),some (sv (stV o1' (.int 1))),some (sv (stV o2' on')),some (.int (cntF f dy c o.2.2.2.2)),some (.int (ql o.2.2.2.2)),some (.int o.2.2.2.1),some (.ref o.2.2.1)] H7:=λo0' o1' o2' h0 h1 h2=>by
   rw[<-tk] at h0 h1 h2;rw[hPv];exact⟨s7,o0',o1',o2',_,_,_,_,⟨h0,h1,h2⟩,rfl⟩
  have le:(rtT f dy c o.2).2.1<=d:=by show cntF f dy c o.2.2.2.2<=d;omega
  have ne: ∀{kd:Nat},chK o.2.2.2.2≠kd->(rtT f dy c o.2).1=kd->d<(rtT f dy c o.2).2.1:=λh e=>absurd e h;refine ixT a2' (yx _ _) ⟨rfl,?_⟩;cases hch:o.2.2.2.2 with
  |plan dd nm=>
   rw[hch] at er a2';cases er;have k0:chK o.2.2.2.2=0:=by rw[hch];rfl
   have g:=nx (some (rtT f dy c o.2)) o1 o2 (c0.last k0 le (rb 0 o0 c0)) (c1.skip (ne (by rw[k0];decide))) (c2.skip (ne (by rw[k0];decide)));rw[show sv (stV (some (rtT f dy c o.2)) .non)= .str (SL nm) by show sv (vK o.2.2.2.2)=_;rw[hch];rfl,hch] at g;exact xW rfl (ixT a2' (xO _ _ _ _) g)
  |seats dd n=>
   rw[hch] at er a2';cases er;have k0:chK o.2.2.2.2=1:=by rw[hch];rfl
   have g:=nx o0 (some (rtT f dy c o.2)) o2 (c0.skip (ne (by rw[k0];decide))) (c1.last k0 le (rb 1 o1 c1)) (c2.skip (ne (by rw[k0];decide)));rw[show sv (stV (some (rtT f dy c o.2)) (.int 1))= .int n by show sv (vK o.2.2.2.2)=_;rw[hch];rfl,hch] at g;exact yg (qc (by show¬([115,101,97,116,115]:List Nat)=_;decide)) (ixT a2' (yx _ _) ⟨rfl,xW rfl (ixT a2' (xO _ _ _ _) g)⟩)
  |word wi dd=>
   have w4:=tb.2.2.2 wi dd hch;rw[hch] at er a2';have k0:chK o.2.2.2.2=2:=by rw[hch];rfl
   have g:=nx o0 o1 (some (rtT f dy c o.2)) (c0.skip (ne (by rw[k0];decide))) (c1.skip (ne (by rw[k0];decide))) (c2.last k0 le (rb 2 o2 c2));rw[show sv (stV (some (rtT f dy c o.2)) on')= .str (SL (vJ wi)) by show sv (vK o.2.2.2.2)=_;rw[hch];rfl,hch] at g;rw[show chW (.word wi dd)=xm wi from rfl] at a2' ⊢;rcases zi9 w4 with⟨ew,et⟩|⟨ew,et⟩|⟨ew,et⟩|⟨ew,et⟩
   ·rw[ew] at a2' ⊢;rw[et] at g;exact yg (qc 'd') (ixT a2' (yx _ _) ⟨rfl,yg (qc 'd') (ixT a2' (yx _ _) ⟨_,rfl,_,rfl,g⟩)⟩)
   ·rw[ew] at a2' ⊢;rw[et] at g;exact yg (qc 'd') (ixT a2' (yx _ _) ⟨rfl,yg (qc 'd') (ixT a2' (yx _ _) ⟨_,rfl,_,rfl,g⟩)⟩)
   ·rw[ew] at a2' ⊢;rw[et] at g;exact yg (qc 'd') (ixT a2' (yx _ _) ⟨rfl,yg (qc 'd') (ixT a2' (yx _ _) ⟨_,rfl,_,rfl,g⟩)⟩)
   ·rw[ew] at a2' ⊢;rw[et] at g;exact yg (qc 'd') (ixT a2' (yx _ _) ⟨rfl,yg (qc 'd') (ixT a2' (yx _ _) ⟨_,rfl,_,rfl,g⟩)⟩)
  |undo k=>have:=tb.1;rw[hch] at this;cases this
  |grant k=>have:=tb.1;rw[hch] at this;cases this
  |back=>have:=tb.1;rw[hch] at this;cases this
 ·rw[hPv] at h;refine opq λ_ kq=> ?_;obtain⟨s7,o0,o1,o2,x5,x6,x7,x8,⟨c0,c1,c2⟩,rfl⟩:=h;apply kq;rw[Ja] at c0 c1 c2;open_k0;exact λp H8 _ s8 e8=>q p o0 o1 o2 H8 (s7.trans s8) ⟨fin _ 0 _ (.inl rfl) c0,fin _ 1 _ (.inl rfl) c1,fin _ 2 _ (.inl rfl) c2⟩ e8
def zrs(K:Fg)(H:Hp)(pa:Addr)(f:Int)(dy:Bool)(c:Int)(nm:List Nat)(pr ct:Int):Prop:= ∃(l:Addr) (zs:List (V×Pl)),qu K H pa l f dy c/\H l=some (.lst (zs.map (·.1)))/\wV K H zs/\zs.length<=8/\(∃z0,(zs.filter λz=>decide (z.2.1=nm))[0]? =some z0/\z0.2.2=(pr,ct))/\(0<=pr/\pr<10 ^ 30)/\0<=ct/\ct<=400
def zoh(K:Fg):Sp:=λvs H Q _=> ∃(pa:Addr) (f:Int) (dy:Bool) (c:Int) (nm:List Nat) (pr ct:Int),vs= [.ref pa, .str (SL nm)]/\zrs K H pa f dy c nm pr ct/\ ∀p H',zh H H'->H' p=some (.tup [.int pr, .int ct])->Q (.ref p) H'
theorem sc_0i:FnScope ["account","name"] ["account","name"] (zC s_0i):=by sl_open
theorem ok_0i(T:Txt w K mg t):FnOk P w K mg base (CXE P w) 1 t.a_0i t.d_0i ["account","name"] (zoh K):=by
 refine T.F_0i.fn.okX sc_0i ?_ λcdv A outer s H vs Q E L hr h=> ?_
 ·kdl_open
 refine opq λ_ kq=> ?_;obtain⟨pa,f,dy,c,nm,pr,ct,rfl,⟨l,zs,⟨pc,f0,f1,hc,ep⟩,el,za,z8,⟨z0,hz0,ez0⟩,_⟩,q⟩:=h;apply kq;have nd:=sc_0i.nd;refine⟨_,(zk (zB (ixJ z5 (qG (n:=3) (N:= ["plan","price","count","name"]) (js:= [1]) (by rfl) rfl rfl (qb (ixJ zH (pvJ 0) zc)) (λa=>(z7 (n:=3) rfl (yR (zq (i:=0) (show List.Nodup (["plan","price","count","name"]:List Str) from by decide+kernel) rfl (Or.inl rfl)) (yR (zq (i:=1) (show List.Nodup (["plan","price","count","name"]:List Str) from by decide+kernel) rfl (Or.inl rfl)) (yR (zq (i:=2) (show List.Nodup (["plan","price","count","name"]:List Str) from by decide+kernel) rfl (Or.inl rfl)) xF))))) (λa=>(vw (qB qR (pvJ 0) (pvJ 3) (yF _)))) (λa=>(zW (zb (pvJ 1) (zb (pvJ 2) zd ze) ze)))) zc))),?_⟩
 (open_k0;repeat (dsimp only[qk,yr];open_k0))
 refine ixT (SqT.of ep) (yx _ _) ⟨l,rfl,⟨_,SqL.of el⟩,λl2 hl2 aa=> ?_⟩;refine qr (λj xs H5=> ∃as:List Addr,xs=as.map V.ref/\as.length=((zs.take j).filter λz=>decide (z.2.1=nm)).length/\ ∀(i:Nat) (a:Addr) (z:V×Pl),as[i]? =some a->((zs.take j).filter λz=>decide (z.2.1=nm))[i]? =some z->H5 a=some (.tup [.int z.2.2.1, .int z.2.2.2])) (qV (SqL.of el)) hl2 (by rw[Ja];exact qy 'o') (λ_ _=>⟨[],rfl,rfl,λi a t h=>by rw[List.getElem?_nil] at h;cases h⟩) (λj x xs H8 K1 K0 hx sm pv hl k1 k0=> ?_) (λxs H2 s2 pv _ w2=> ?_)
 ·obtain⟨z,hz,rfl⟩: ∃z,zs[j]? =some z/\x=z.1:=by
   rw[Jh] at hx;obtain⟨u,e,rfl⟩:=Jk.mp hx;exact⟨u,e,rfl⟩
  refine opq λ_ kq=> ?_;obtain⟨pz,ez,hT⟩:=za z (Ji hz);obtain⟨as,rfl,al,pa'⟩:=pv;apply kq;have fe:(zs.take (j+1)).filter (λz=>decide (z.2.1=nm))=(zs.take j).filter (λz=>decide (z.2.1=nm))++ [z].filter (λz=>decide (z.2.1=nm)):=by rw[JH,hz,Option.toList_some,JT]
  rw[ez];open_k0;refine⟨pz,_,rfl,sm.sqT hT,rfl,?_⟩;open_k0;have nl: ∀(Ha:Hp) a xs,zh H8 Ha->Ha a=some (.tup xs)->a≠l2:=λHa a xs sa h z=>by rw[z,sa _ _ hl] at h;cases h
  by_cases en:z.2.1=nm
  ·have f1: [z].filter (λz=>decide (z.2.1=nm))= [z]:=by rw[List.filter_cons_of_pos (by rw[decide_eq_true_eq];exact en)];rfl
   rw[f1] at fe;refine xW en (show New _ _ _ from λp H9 hp s9 e9=>k1 _ _ s9 λH5 h5=>⟨as++ [p],by rw[Jd];rfl,by rw[fe,Jj,Jj,al];rfl,λi a t h1 h2=> ?_⟩);rw[fe,List.getElem?_append,<-al] at h2;rw[List.getElem?_append] at h1;by_cases hi:i<as.length
   ·rw[Jg hi] at h1 h2
    have:=s9 _ _ (pa' i a t h1 h2);exact h5 _ _ (nl _ _ _ s9 this) this
   ·rw[Jf hi] at h1 h2;have i0:i - as.length=0:=by
     rcases Nat.lt_or_ge (i - as.length) 1 with z|z
     ·omega
     ·rw[List.getElem?_eq_none (by simpa using z)] at h1;cases h1
    rw[i0] at h1 h2;cases h1;cases h2;exact h5 _ _ (nl _ _ _ s9 e9) e9
  ·have f1: [z].filter (λz=>decide (z.2.1=nm))= []:=List.filter_cons_of_neg (by rw[decide_eq_true_eq];exact en);rw[f1,Jt] at fe;exact yg en (k0 _ (zh.refl _) ⟨as,rfl,by rw[fe];exact al,by rw[fe];exact pa'⟩)
 rw[Ja,JC] at pv;refine opq λ_ kq=> ?_;obtain⟨as,rfl,al,pa'⟩:=pv;obtain⟨h0,_⟩:=Jc.mp hz0;apply kq;have ea:as[0]? =some (as[0]''o'):=Jb _;have e0:=pa' 0 _ z0 ea hz0;rw[ez0] at e0;refine ixL (v:= .ref (as[0]''o')) (SqL.of w2) (qp (j:=0) (by rw[Jh,ea];rfl)) (q _ H2 s2 e0)
def zoi:Sp:=λvs H Q _=> ∃p n b e:Int,vs= [.int p, .int n, .int b, .int e]/\0<=p/\p<10 ^ 60/\0<n/\n<10 ^ 20/\0<=b/\b<=e/\e<10 ^ 20/\ ∀H',zh H H'->Q (.int (p*e / n - p*b / n)) H'
theorem sc_0c:FnScope ["price","count","begin","end"] ["price","count","begin","end"] (zC s_0c):=by sl_open
theorem ok_0c(T:Txt w K mg t):FnOk P w K mg base (CXE P w) 1 t.a_0c t.d_0c ["price","count","begin","end"] (zoi):=by
 refine T.F_0c.fn.okX sc_0c ?_ λcdv A outer s H vs Q E L hr h=> ?_
 ·kdl_open
 refine opq λ_ kq=> ?_;obtain⟨p,n,b,e,rfl,p0,p1,n0,n1,b0,be,e1,q⟩:=h;apply kq;have nd:=sc_0c.nd;refine⟨_,(zk (zB (zg yj (zg yV (zg zft (pvJ 0) (pvJ 3)) (pvJ 1)) (zg yV (zg zft (pvJ 0) (pvJ 2)) (pvJ 1))))),?_⟩;have mp:Sm p:=Sm.pow10 (k:=60) 'd' 'o';have mn:Sm n:=Sm.pow10 (k:=20) 'd' 'o';have mb:Sm b:=Sm.pow10 (k:=20) 'd' 'o';have me:Sm e:=Sm.pow10 (k:=20) 'd' 'o';open_k0;refine⟨.inr ⟨mp,me⟩,n0,mn, .inr ⟨mp,mb⟩,n0,mn,q H (zh.refl _)⟩
def uD(pr ct st sb se b e:Int):Int:=pr*st*(e - sb) / (if ct=0 then se - sb else ct) - pr*st*(b - sb) / (if ct=0 then se - sb else ct)
def vR(zs:List (V×Pl)):Prop:=1<=zs.length/\zs.length<=8/\ ∀z∈zs,(0<=z.2.2.1/\z.2.2.1<10 ^ 30)/\0<=z.2.2.2/\z.2.2.2<=400
def yn(K:Fg)(H:Hp)(pa l:Addr)(f:Int)(dy:Bool)(c:Int)(zs:List (V×Pl)):Prop:=qu K H pa l f dy c/\H l=some (.lst (zs.map (·.1)))/\wV K H zs/\vR zs
theorem yn.same{K:Fg}{H H':Hp}{pa l:Addr}{f:Int}{dy:Bool}{c:Int}{zs:List (V×Pl)}(h:yn K H pa l f dy c zs)(s:zh H H'):yn K H' pa l f dy c zs:=⟨h.1.same s,s _ _ h.2.1,h.2.2.1.same s,h.2.2.2⟩
def plF(zs:List (V×Pl))(nm:List Nat):Int×Int:=(((zs.filter λz=>decide (z.2.1=nm))[0]?).map λz=>z.2.2).getD (0,0)
theorem yn.p{f:Int}(h:yn K H pa l f dy c zs){nm:List Nat}(hn:nm∈zs.map λz=>z.2.1):zrs K H pa f dy c nm (plF zs nm).1 (plF zs nm).2:=by
 obtain⟨h1,h2,h3,h4,h5,h6⟩:=h;obtain⟨z,hz,e⟩:=Jw.mp hn;have hm:z∈zs.filter λz=>decide (z.2.1=nm):=List.mem_filter.mpr ⟨hz,JO e⟩;have hl:=List.length_pos_of_mem hm;have e0:(zs.filter λz=>decide (z.2.1=nm))[0]? =some ((zs.filter λz=>decide (z.2.1=nm))[0]'hl):=Jb _;have ef:plF zs nm=((zs.filter λz=>decide (z.2.1=nm))[0]'hl).2.2:=by unfold plF;rw[e0];rfl
 have b:=h6 _ (List.mem_filter.mp (List.getElem_mem hl)).1;rw[<-ef] at b;exact⟨l,zs,h1,h2,h3,h5,⟨_,e0,ef.symm⟩,b.1,b.2⟩
def StX(zs:List (V×Pl))(d:List D):Prop:= ∃d0 n wd,d= [d0, .int n, .str wd]/\(d0= .non\/ ∃nm,d0= .str nm/\nm∈zs.map λz=>z.2.1)/\0<=n/\n<=1000000
def yf(zs:List (V×Pl))(sb se b e:Int):List D->Int
 | [.str nm, .int st, .str wd]=>if wd= [111,110] then uD (plF zs nm).1 (plF zs nm).2 st sb se b e else 0
 |_=>0
def zkQ(K:Fg):Sp:=λvs H Q _=> ∃(pa l:Addr) (f:Int) (dy:Bool) (c:Int) (zs:List (V×Pl)) (d:List D) (p1 p2 p3:Addr) (sb se b e:Int),vs= [.ref pa, .ref p1, .ref p2]/\yn K H pa l f dy c zs/\StX zs d/\H p1=some (.tup [.int sb, .int se])/\H p2=some (.tup [.int b, .int e, .ref p3])/\H p3=some (.tup (d.map sv))/\sb<=b/\b<=e/\e<=se/\sb<se/\se - sb<10 ^ 10/\ ∀H',zh H H'->Q (.int (yf zs sb se b e d)) H'
theorem sc_0j:FnScope ["account","span","stretch","begin","end","state","name","seats","word","span_begin","span_end","price","count"] ["account","span","stretch"] (zC s_0j):=by sl_open
theorem ok_0j(T:Txt w K mg t):FnOk P w K mg base (CXE P w) 2 t.a_0j t.d_0j ["account","span","stretch"] (zkQ K):=by
 refine T.F_0j.fn.okX sc_0j ?_ λcdv A outer s H vs Q E L hr h=> ?_
 ·kdl_open
 refine opq λ_ kq=> ?_;obtain⟨pa,l,f,dy,c,zs,d,p1,p2,p3,sb,se,b,e,rfl,hz,⟨d0,st,wd,rfl,hd,st0,st1⟩,e1,e2,e3,h1,h2,h3,h4,h5,q⟩:=h;apply kq;have nd:=sc_0j.nd;refine⟨_,(zj (yv (pvJ 2) (z7 (n:=3) rfl (zD (zq (i:=3) nd rfl (Or.inl rfl)) (zD (zq (i:=4) nd rfl (Or.inl rfl)) (zD (zq (i:=5) nd rfl (Or.inl rfl)) yD))))) (zj (yv (pvJ 5) (z7 (n:=3) rfl (zD (zq (i:=6) nd rfl (Or.inl rfl)) (zD (zq (i:=7) nd rfl (Or.inl rfl)) (zD (zq (i:=8) nd rfl (Or.inl rfl)) yD))))) (zj (zP (PWQ.pq (xN (q5 (qB zo3 (pvJ 6) zk0 (yF _))) (wc (vF (pvJ 8) (zZ st_10))))) (zk (zB zc)) zQ) (zj (yv (pvJ 1) (z7 (n:=2) rfl (zD (zq (i:=9) nd rfl (Or.inl rfl)) (zD (zq (i:=10) nd rfl (Or.inl rfl)) yD)))) (zj (yv (peD L.toLv (ok_0i T) hr T.F_0i (zb (pvJ 0) (zb (pvJ 6) zd ze) ze)) (z7 (n:=2) rfl (zD (zq (i:=11) nd rfl (Or.inl rfl)) (zD (zq (i:=12) nd rfl (Or.inl rfl)) yD)))) (zj (zP (qg (pvJ 12) zc) (zk (psJ 12 nd (zg yj (pvJ 10) (pvJ 9)))) zQ) (zk (zB (peD L.toLv (ok_0c T) hr T.F_0c (zb (zg zft (pvJ 11) (pvJ 7)) (zb (pvJ 12) (zb (zg yj (pvJ 3) (pvJ 9)) (zb (zg yj (pvJ 4) (pvJ 9)) zd zT) zT) ze) zT)))))))))),?_⟩;open_k0;refine⟨p2,_,rfl,SqT.of e2,rfl,?_⟩;open_k0;rcases hd with rfl|⟨nm,rfl,hn⟩
 ·have e3':H p3=some (.tup [.non, .int st, .str (SL wd)]):=e3;refine⟨p3,_,rfl,SqT.of e3',rfl,?_⟩;open_k0;exact q H (zh.refl _)
 have e3':H p3=some (.tup [.str (SL nm), .int st, .str (SL wd)]):=e3;have ha:=hz.p hn;have q0: ∀H',zh H H'->Q (.int (if wd= [111,110] then uD (plF zs nm).1 (plF zs nm).2 st sb se b e else 0)) H':=q;generalize (plF zs nm).1=pr at ha q0;generalize (plF zs nm).2=ct at ha q0;have ⟨_,_,_,_,_,_,_,⟨pr0,pr1⟩,ct0,ct1⟩:=ha;refine⟨p3,_,rfl,SqT.of e3',rfl,?_⟩;open_k0;by_cases on:wd= [111,110]
 ·subst on;refine yg (λz=>z rfl) ?_;refine⟨p1,_,rfl,SqT.of e1,rfl,?_⟩;open_k0;refine gq λ_ kq=>⟨pa,f,dy,c,nm,pr,ct,rfl,ha,λp4 H4 s4 e4=>kq _ _ ?_⟩
  refine⟨p4,_,rfl,SqT.of e4,rfl,?_⟩;open_k0;have mp:Sm pr:=Sm.pow10 (k:=30) 'd' 'o';have ms:Sm st:=Sm.pow10 (k:=7) 'd' 'o';have m0:0<=pr*st:=Int.mul_nonneg pr0 st0;have m1:pr*st<10 ^ 60:=by
   have:=Int.mul_le_mul (show pr<=10 ^ 30 by omega) st1 st0 'd';exact Int.lt_of_le_of_lt this 'd'
  have q':=q0;rw[Jg rfl] at q';unfold uD at q';refine yC (λz=>⟨.inr ⟨mp,ms⟩,pr*st,se - sb,b - sb,e - sb,rfl,m0,m1,'o','o','o','o','o',λH5 s5=> ?_⟩) (λz=>⟨.inr ⟨mp,ms⟩,pr*st,ct,b - sb,e - sb,rfl,m0,m1,'o','o','o','o','o',λH5 s5=> ?_⟩)
  ·rw[Jg z] at q';exact q' H5 (s4.trans s5)
  ·rw[Jf z] at q';exact q' H5 (s4.trans s5)
 ·rw[Jf on] at q0;exact xW on (q0 H (zh.refl _))
def TmX(zs:List (V×Pl))(ch:Ch):Prop:=(∀d nm,ch= .plan d nm->nm∈zs.map λz=>z.2.1)/\ ∀d n,ch= .seats d n->0<=n/\n<=1000000
theorem st_x{f:Int}(hb: ∀t∈ts,yP t.2.2.2=true)(hx: ∀t∈ts,TmX zs t.2.2.2)(h:xf f dy c ts day o0 o1 o2):StX zs (stT o0 o1 o2):=by
 obtain⟨h0,h1,h2⟩:=h;have of: ∀(kd:Nat) (t:Rt),Bst (ts.map (rtT f dy c)) day kd (some t)-> ∃u:Tm,u∈ts/\chK u.2.2.2=kd/\t.2.2.2=vK u.2.2.2:=λkd t hb'=>by
  obtain⟨u,hu,rfl⟩:=Jw.mp hb'.1;exact⟨u,hu,hb'.2.1,rfl⟩
 have a0:stV o0 .non= .non\/ ∃nm,stV o0 .non= .str nm/\nm∈zs.map λz=>z.2.1:=by
  cases o0 with
  |none=>exact .inl rfl
  |some t=>
   obtain⟨u,hu,k,e⟩:=of 0 t h0;have x:=hx u hu;show t.2.2.2= .non\/ ∃nm,t.2.2.2= .str nm/\_;rw[e];cases hch:u.2.2.2 with
   |plan d nm=>exact .inr ⟨nm,rfl,x.1 d nm hch⟩
   |seats d n=>rw[hch] at k;cases k
   |word w d=>rw[hch] at k;cases k
   |undo k'=>rw[hch] at k;cases k
   |grant k'=>rw[hch] at k;cases k
   |back=>rw[hch] at k;cases k
 have a1: ∃n,stV o1 (.int 1)= .int n/\0<=n/\n<=1000000:=by
  cases o1 with
  |none=>exact⟨1,rfl,'d','d'⟩
  |some t=>
   obtain⟨u,hu,k,e⟩:=of 1 t h1;have x:=hx u hu;show∃n,t.2.2.2= .int n/\_;rw[e];cases hch:u.2.2.2 with
   |seats d n=>exact⟨n,rfl,x.2 d n hch⟩
   |plan d nm=>rw[hch] at k;cases k
   |word w d=>rw[hch] at k;cases k
   |undo k'=>rw[hch] at k;cases k
   |grant k'=>rw[hch] at k;cases k
   |back=>rw[hch] at k;cases k
 have a2: ∃w,stV o2 on'= .str w:=by
  cases o2 with
  |none=>exact⟨_,rfl⟩
  |some t=>
   obtain⟨u,hu,k,e⟩:=of 2 t h2;have tm:=hb u hu;show∃w,t.2.2.2= .str w;rw[e];cases hch:u.2.2.2 with
   |word w d=>exact⟨_,rfl⟩
   |plan d nm=>rw[hch] at k;cases k
   |seats d n=>rw[hch] at k;cases k
   |undo k'=>rw[hch] at tm;cases tm
   |grant k'=>rw[hch] at tm;cases tm
   |back=>rw[hch] at tm;cases tm
 obtain⟨n,e1,n0,n1⟩:=a1;obtain⟨wd,e2⟩:=a2;exact⟨_,n,wd,by unfold stT;rw[e1,e2],a0,n0,n1⟩
theorem st_kinds{f:Int}(hb: ∀t∈ts,yP t.2.2.2=true)(h:xf f dy c ts day o0 o1 o2):ScD (stV o0 .non)/\(∃n,stV o1 (.int 1)= .int n)/\ ∃w,stV o2 on'= .str w:=by
 obtain⟨h0,h1,h2⟩:=h;have of: ∀(kd:Nat) (t:Rt),Bst (ts.map (rtT f dy c)) day kd (some t)-> ∃u:Tm,yP u.2.2.2=true/\chK u.2.2.2=kd/\t.2.2.2=vK u.2.2.2:=λkd t hb'=>by
  obtain⟨u,hu,rfl⟩:=Jw.mp hb'.1;exact⟨u,hb u hu,hb'.2.1,rfl⟩
 refine⟨?_,?_,?_⟩
 ·cases o0 with
  |none=>exact .inl rfl
  |some t=>
   obtain⟨u,tm,k,e⟩:=of 0 t h0;show ScD t.2.2.2;rw[e];cases hch:u.2.2.2 with
   |plan d nm=>exact .inr (.inr ⟨_,rfl⟩)
   |seats d n=>exact .inr (.inl ⟨_,rfl⟩)
   |word w d=>exact .inr (.inr ⟨_,rfl⟩)
   |undo k=>exact .inl rfl
   |grant k=>exact .inl rfl
   |back=>exact .inl rfl
 ·cases o1 with
  |none=>exact⟨1,rfl⟩
  |some t=>
   obtain⟨u,tm,k,e⟩:=of 1 t h1;show∃n,t.2.2.2= .int n;rw[e];cases hch:u.2.2.2 with
   |seats d n=>exact⟨n,rfl⟩
   |plan d nm=>rw[hch] at k;cases k
   |word w d=>rw[hch] at k;cases k
   |undo k'=>rw[hch] at tm;cases tm
   |grant k'=>rw[hch] at tm;cases tm
   |back=>rw[hch] at tm;cases tm
 ·cases o2 with
  |none=>exact⟨_,rfl⟩
  |some t=>
   obtain⟨u,tm,k,e⟩:=of 2 t h2;show∃n,t.2.2.2= .str n;rw[e];cases hch:u.2.2.2 with
   |word w d=>exact⟨_,rfl⟩
   |plan d nm=>rw[hch] at k;cases k
   |seats d nm=>rw[hch] at k;cases k
   |undo k'=>rw[hch] at tm;cases tm
   |grant k'=>rw[hch] at tm;cases tm
   |back=>rw[hch] at tm;cases tm
theorem vi.same{f:Int}{os:List Or'}(h:vi K H l f dy c os)(s:zh H H'):vi K H' l f dy c os:=⟨s _ _ h.1,h.2.1,λo ho=>⟨s _ _ (h.2.2.1 o ho).1,s.sqT (h.2.2.1 o ho).2.1,(h.2.2.1 o ho).2.2⟩,h.2.2.2⟩
theorem st_std{f:Int}(hb: ∀t∈ts,yP t.2.2.2=true)(h:xf f dy c ts day o0 o1 o2):StD (stT o0 o1 o2):=by
 obtain⟨k0,⟨n,k1⟩,w,k2⟩:=st_kinds hb h;exact⟨_,n,w,k0,by unfold stT;rw[k1,k2]⟩
theorem xf.on{f:Int}{dy:Bool}{c:Int}{ts:List Tm}{day d2:Int}{o0 o1 o2:Option Rt}(h:xf f dy c ts day o0 o1 o2)(le:day<=d2)(n: ∀t∈ts,cntF f dy c t.2.2.2<=day\/d2<cntF f dy c t.2.2.2):xf f dy c ts d2 o0 o1 o2:=by
 have n': ∀r∈ts.map (rtT f dy c),r.2.1<=day\/d2<r.2.1:=λr hr=>by
  obtain⟨t,ht,rfl⟩:=Jw.mp hr;exact n t ht
 exact⟨h.1.on le n',h.2.1.on le n',h.2.2.on le n'⟩
def IsG(f:Int)(dy:Bool)(c:Int)(ts:List Tm)(G:Int->List D):Prop:= ∀d o0 o1 o2,xf f dy c ts d o0 o1 o2->stT o0 o1 o2=G d
def zqn(f:Int)(dy:Bool)(c:Int)(ts:List Tm)(d:List D):Prop:= ∃dd o0 o1 o2,xf f dy c ts dd o0 o1 o2/\d=stT o0 o1 o2
def zie(K:Fg):Sp:=λvs H Q _=> ∃(l:Addr) (b e:Int) (f:Int) (dy:Bool) (c:Int) (os:List Or') (G:Int->List D),vs= [.ref l, .int b, .int e]/\vi K H l f dy c os/\b<=e/\IsG f dy c (os.map (·.2)) G/\ ∀r zs H',H r=none->zh H H'->vL H' r zs->Rws G b (zs.map (·.2)) e->(∀z∈zs,zqn f dy c (os.map (·.2)) z.2.2.2)->zs.length<=64->Q (.ref r) H'
theorem sc_0h:FnScope ["ordered","begin","end","told","opened","state","term","day","behind"] ["ordered","begin","end"] (zC s_0h):=by sl_open
theorem ok_0h(T:Txt w K mg t):FnOk P w K mg base (CXE P w) 2 t.a_0h t.d_0h ["ordered","begin","end"] (zie K):=by
 refine T.F_0h.fn.okX sc_0h ?_ λcdv A outer s H vs Q E L hr h=> ?_
 ·kdl_open
 refine opq λ_ kq=> ?_;obtain⟨l,b,e,f,dy,c,os,G,rfl,ho,be,hG,q⟩:=h;apply kq;have nd:=sc_0h.nd;refine⟨_,(zj (zP (qg (pvJ 1) (pvJ 2)) (zk (zB (yi zd))) zQ) (zj (psJ 3 nd (yi zd)) (zj (psJ 4 nd (pvJ 1)) (zj (psJ 5 nd (peD L.toLv (ok_0f T) hr T.F_0f (zb (pvJ 0) (zb (pvJ 1) zd ze) ze))) (zj (qj (by passes_own) rfl (qb (pvJ 0)) (zq (i:=6) nd rfl (Or.inl rfl)) (zj (psJ 7 nd (ixJ zH (pvJ 6) zc)) (zk (zP (PWQ.pq (wL (yu qo (pvJ 1) (pvJ 7)) (wK (yu qo (pvJ 7) (pvJ 2))))) (zj (psJ 8 nd (peD L.toLv (ok_0f T) hr T.F_0f (zb (pvJ 0) (zb (pvJ 7) zd ze) ze))) (zk (zP (q5 (qB (uY hr) (pvJ 8) (pvJ 5) (yF _))) (zj (qe (qw PySem.F.plainAttrs_list PySem.F.slot_list_append PySem.F.type_list_append qT (pvJ 3) (zb (zW (zb (pvJ 4) (zb (pvJ 7) (zb (pvJ 5) zd ze) ze) ze)) zd))) (zj (psJ 4 nd (pvJ 7)) (zk (psJ 5 nd (pvJ 8))))) zQ))) zQ)))) (zj (qe (qw PySem.F.plainAttrs_list PySem.F.slot_list_append PySem.F.type_list_append qT (pvJ 3) (zb (zW (zb (pvJ 4) (zb (pvJ 2) (zb (pvJ 5) zd ze) ze) ze)) zd))) (zk (zB (pvJ 3))))))))),?_⟩;refine opq λ_ kq=> ?_;obtain⟨el,n64,h3,so⟩:=id ho;apply kq;have tm: ∀t∈os.map (·.2),yP t.2.2.2=true:=λt ht=>by
  obtain⟨o,ho',rfl⟩:=Jw.mp ht;exact(h3 o ho').2.2.1
 open_k0;refine yC (λz=> ?_) (λz=> ?_)
 ·exact λr H1 hr s1 e1=>q r [] H1 hr s1 ⟨e1,(λ_ h=>nomatch h)⟩ z (λ_ h=>nomatch h) 'd'
 intro lt H1 hlt s1 e1;refine gq λ_ kq=>⟨l,b,f,dy,c,os,rfl,ho.same s1,λps o0 o1 o2 H2 s2 so2 e2=>kq _ _ ?_⟩
 have s12:=s1.trans s2
 ((try dsimp only);refine qq λR hR=> ?_;(open_k0;repeat (dsimp only[yr,qt,yZ,qm];open_k0)))
 refine⟨⟨_,SqL.of (s12 _ _ el)⟩,hR _ _ ?_⟩;clear hR;obtain⟨Pv,hPv⟩: ∃Pv:Nat->St->Hp->Prop,Pv=λi σ1 H7=>zh H H7/\ ∃(zs:List (Addr×Rw)) (op:Int) (ps:Addr) (d:List D) (x6 x7 x8:Option V),vL H7 lt zs/\zs.length<=i/\Rws G b (zs.map (·.2)) op/\(∀x,(zs.map (·.2)).getLast? =some x->x.2.2≠d)/\(H7 ps=some (.tup (d.map sv))/\StD d)/\((∀z∈zs,zqn f dy c (os.map (·.2)) z.2.2.2)/\zqn f dy c (os.map (·.2)) d)/\op<e/\(∀(j:Nat) o,os[j]? =some o->i<=j->b<cntF f dy c o.2.2.2.2->op<=cntF f dy c o.2.2.2.2)/\(∀day,op<=day->day<e->(∀(j:Nat) o,os[j]? =some o->i<=j->cntF f dy c o.2.2.2.2<=op\/day<cntF f dy c o.2.2.2.2)->G day=d)/\σ1= [some (.ref l),some (.int b),some (.int e),some (.ref lt),some (.int op),some (.ref ps),x6,x7,x8]:=⟨_,rfl⟩
 have go: ∀(k i:Nat) (x o:Or'),os[k]? =some x->os[i]? =some o->k<=i->cntF f dy c x.2.2.2.2<=cntF f dy c o.2.2.2.2:=λk i x o hk hi ki=>by
  obtain⟨hk',ek⟩:=Jc.mp hk;obtain⟨hi',ei⟩:=Jc.mp hi;rcases Nat.lt_or_ge k i with z|z
  ·have:=(List.pairwise_iff_getElem.mp so k i hk' hi' z).1;rw[ek,ei] at this;exact this
  ·obtain rfl:k=i:=by omega
   rw[hk] at hi;cases hi;exact Jz _
 refine v0 (xs:=os.map λo=>V.ref o.1) Pv ?_ (λ_ _ _ _ h=>by rw[hPv] at h;exact SqL.of (h.1 _ _ el)) (λi x σ1 H7 hx h=> ?_) (λσ1 H7 h=> ?_)
 ·rw[hPv];refine⟨s12, [],b,ps,_,_,_,_,⟨s2 _ _ e1,(λ_ h=>nomatch h)⟩,Je _,rfl,(λ_ h=>nomatch h),⟨e2,st_std tm so2⟩,⟨(λ_ h=>nomatch h),_,_,_,_,so2,rfl⟩,'o',λ_ _ _ _ h=>by omega,λday h1 _ h2=> ?_,rfl⟩;refine(hG _ _ _ _ (so2.on h1 λt ht=> ?_)).symm;refine opq λ_ kq=> ?_;obtain⟨o,ho',rfl⟩:=Jw.mp ht;obtain⟨j,hj⟩:=List.getElem?_of_mem ho';apply kq;exact h2 j o hj (Jv _)
 ·rw[hPv] at h;refine opq λ_ kq=> ?_;obtain⟨s7,zs,op,ps,d,x6,x7,x8,zA,zl,hr,la,⟨e7,sd⟩,⟨zS,dS⟩,oe,oc,ok,rfl⟩:=h;apply kq;obtain⟨o,hz,rfl⟩: ∃o,os[i]? =some o/\x= .ref o.1:=by
   rw[Jh] at hx;obtain⟨u,e,rfl⟩:=Jk.mp hx;exact⟨u,e,rfl⟩
  obtain⟨a1,a2,tb⟩:=h3 o (Ji hz);have bo:=Rws.le hr;open_k0;refine ixT (SqT.of (s7 _ _ a1)) (yx _ _) ?_;have nx: ∀(x8':Option V) (H8:Hp),zh H7 H8->(∀day,op<=day->day<e->(∀(j:Nat) o,os[j]? =some o->i+1<=j->cntF f dy c o.2.2.2.2<=op\/day<cntF f dy c o.2.2.2.2)->G day=d)->Pv (i+1) [some (.ref l),some (.int b),some (.int e),some (.ref lt),some (.int op),some (.ref ps),some (.ref o.1),some (.int (cntF f dy c o.2.2.2.2)),x8'] H8:=λx8' H8 s8 hd=>by
   rw[hPv];exact⟨s7.trans s8,zs,op,ps,d,_,_,_,zA.same s8,'o',hr,la,⟨s8 _ _ e7,sd⟩,⟨zS,dS⟩,oe,λj o hj ij=>oc j o hj 'o',hd,rfl⟩
  have far:(cntF f dy c o.2.2.2.2<=op\/e<=cntF f dy c o.2.2.2.2)-> ∀day,op<=day->day<e->(∀(j:Nat) o,os[j]? =some o->i+1<=j->cntF f dy c o.2.2.2.2<=op\/day<cntF f dy c o.2.2.2.2)->G day=d:=λhf day h1 h2 h4=>ok day h1 h2 λj o' hj ij=>by
   rcases Nat.lt_or_ge i j with z|z
   ·exact h4 j o' hj z
   ·obtain rfl:i=j:=by omega
    rw[hz] at hj;cases hj;rcases hf with z|z
    ·exact .inl z
    ·exact .inr 'o'
  refine⟨_,rfl,yC (λhb=>⟨_,rfl,yC (λhe=> ?_) λhe=>nx _ _ (zh.refl _) (far (.inr 'o'))⟩) λhb=>nx _ _ (zh.refl _) (far (.inl 'o'))⟩;refine gq λ_ kq=>⟨l,cntF f dy c o.2.2.2.2,f,dy,c,os,rfl,ho.same s7,λpb o0 o1 o2 H8 s8 so8 e8=>kq _ _ ?_⟩
  have oc':=oc i o hz (Je _) hb;have sd8:=st_std tm so8;have gb:=hG _ _ _ _ so8;have all: ∀day,cntF f dy c o.2.2.2.2<=day->(∀(j:Nat) o',os[j]? =some o'->i+1<=j->cntF f dy c o'.2.2.2.2<=cntF f dy c o.2.2.2.2\/day<cntF f dy c o'.2.2.2.2)->G day=stT o0 o1 o2:=λday h1 h2=>by
   refine(hG _ _ _ _ (so8.on h1 λt ht=> ?_)).symm;refine opq λ_ kq=> ?_;obtain⟨o',ho',rfl⟩:=Jw.mp ht;obtain⟨j,hj⟩:=List.getElem?_of_mem ho';apply kq;rcases Nat.lt_or_ge i j with z|z
   ·exact h2 j o' hj z
   ·exact .inl (go j i o' o hj hz z)
  have go': ∀(j:Nat) o',os[j]? =some o'->i+1<=j->cntF f dy c o.2.2.2.2<=cntF f dy c o'.2.2.2.2:=λj o' hj ij=>go i j o o' hz hj 'o';refine⟨0, .tup (stT o0 o1 o2), .tup d,sd8.dp e8,sd.dp (s8 _ _ e7),rfl,rfl,'d',sd8.cmp sd,_,rfl,?_⟩;by_cases eq:stT o0 o1 o2=d
  ·rw[(sd8.eqb sd).mpr eq];refine yg 'd' (nx _ _ s8 λday h1 h2 h4=> ?_);by_cases dc:day<cntF f dy c o.2.2.2.2
   ·exact ok day h1 h2 λj o' hj ij=>by
     rcases Nat.lt_or_ge i j with z|z
     ·exact h4 j o' hj z
     ·obtain rfl:i=j:=by omega
      rw[hz] at hj;cases hj;exact .inr dc
   ·rw[<-eq];exact all day 'o' λj o' hj ij=>by
     rcases h4 j o' hj ij with z|z
     ·exact .inl 'o'
     ·exact .inr z
  ·rw[show L2.eqb 1 (.tup (stT o0 o1 o2)) (.tup d)=false from Bool.eq_false_iff.mpr λz=>eq ((sd8.eqb sd).mp z)];refine xW rfl ?_;have gop:=ok op (Jz _) oe λj o' _ _=>by omega
   have lo:op<cntF f dy c o.2.2.2.2:=by
    rcases Int.lt_or_eq_of_le oc' with z|z
    ·exact z
    ·rw[z] at gop;exact absurd (gb.trans gop) eq
   have z8:=zA.same s8
   (open_k0;repeat (dsimp only[tBM];open_k0))
   refine⟨.inl ⟨rfl,_,SqL.of z8.1⟩,λpt H9 hpt s9 e9=> ?_⟩;have z9:=z8.same s9;have off: ∀p xs ys,H9 p=some (.tup xs)->upd H9 lt (.lst ys) p=some (.tup xs):=λp xs ys e=>by
    rw[zu (λy=>by rw[y,z9.1] at e;cases e)];exact e
   refine⟨lt,_,_,rfl,rfl,z9.1,qX (show _+1<=1000 by rw[Ja];have:=(Jc.mp hz).1;omega),?_⟩;rw[hPv];refine⟨((s7.trans s8).trans s9).put hlt _,zs++ [(pt,op,cntF f dy c o.2.2.2.2,d)],cntF f dy c o.2.2.2.2,pb,stT o0 o1 o2,_,_,_,⟨by rw[zN,Jd];rfl,λz hz'=> ?_⟩,by rw[Jj];show _+1<=_;omega,?_,λx hx=> ?_,⟨off _ _ _ (s9 _ _ e8),sd8⟩,⟨λz hz'=> ?_,_,_,_,_,so8,rfl⟩,he,λj o' hj ij _=>go' j o' hj ij,λday h1 _ h4=>all day h1 h4,rfl⟩
   ·rcases Jr.mp hz' with h|h
    ·exact(z9.2 z h).put z9.1
    ·rw[Jm.mp h];exact⟨ps,off _ _ _ e9,off _ _ _ (s9 _ _ (s8 _ _ e7)),sd⟩
   ·rw[Jd];exact Rws.snoc (z:=(op,cntF f dy c o.2.2.2.2,d)) hr rfl lo (λday h1 h2=>by
     have h2':day<cntF f dy c o.2.2.2.2:=h2;exact ok day h1 'o' λj o' hj ij=> .inr (by
      have:=go i j o o' hz hj ij;omega)) la
   ·rw[Jd,JA,JR,List.getLast?_concat] at hx;cases hx;exact λz=>eq z.symm
   ·rcases Jr.mp hz' with h|h
    ·exact zS z h
    ·rw[Jm.mp h];exact dS
 ·rw[hPv] at h;refine opq λ_ kq=> ?_;obtain⟨s7,zs,op,ps,d,x6,x7,x8,zA,zl,hr,la,⟨e7,sd⟩,⟨zS,dS⟩,oe,oc,ok,rfl⟩:=h;apply kq;rw[Ja] at zl ok
  (open_k0;repeat (dsimp only[tBM];open_k0))
  refine⟨.inl ⟨rfl,_,SqL.of zA.1⟩,λpt H9 hpt s9 e9=> ?_⟩;have z9:=zA.same s9;have off: ∀p xs ys,H9 p=some (.tup xs)->upd H9 lt (.lst ys) p=some (.tup xs):=λp xs ys e=>by
   rw[zu (λy=>by rw[y,z9.1] at e;cases e)];exact e
  refine⟨lt,_,_,rfl,rfl,z9.1,qX (show _+1<=1000 by rw[Ja];omega),?_⟩;refine q lt (zs++ [(pt,op,e,d)]) _ hlt ((s7.trans s9).put hlt _) ⟨by rw[zN,Jd];rfl,λz hz'=> ?_⟩ ?_ (λz hz'=> ?_) (by rw[Jj];show _+1<=_;omega)
  ·rcases Jr.mp hz' with h|h
   ·exact(z9.2 z h).put z9.1
   ·rw[Jm.mp h];exact⟨ps,off _ _ _ e9,off _ _ _ (s9 _ _ e7),sd⟩
  ·rw[Jd];exact Rws.snoc (z:=(op,e,d)) hr rfl oe (λday h1 h2=>ok day h1 h2 λj o' hj ij=>by
    have:=(Jc.mp hj).1;omega) la
  ·rcases Jr.mp hz' with h|h
   ·exact zS z h
   ·rw[Jm.mp h];exact dS
def Ss(F:Int->Int)(a:Int):Nat->Int
 |0=>0
 |n+1=>Ss F a n+F (a+n)
theorem Ss.add(F:Int->Int)(a:Int)(m:Nat): ∀n:Nat,Ss F a (m+n)=Ss F a m+Ss F (a+m) n
 |0=>by show Ss F a m=Ss F a m+0;omega
 |n+1=>by
  show Ss F a (m+n)+F (a+(m+n:Nat))=Ss F a m+(Ss F (a+m) n+F (a+m+n));rw[Ss.add F a m n,show a+((m+n:Nat):Int)=a+m+n by omega];omega
theorem Ss.congr{F G:Int->Int}{a:Int}: ∀{n:Nat},(∀i:Nat,i<n->F (a+i)=G (a+i))->Ss F a n=Ss G a n
 |0,_=>rfl
 |n+1,h=>by
  show Ss F a n+F (a+n)=Ss G a n+G (a+n);rw[Ss.congr λi hi=>h i 'o',h n 'o']
def Sb(F:Int->Int)(a b:Int):Int:=Ss F a (b - a).toNat
theorem Sb.add{F:Int->Int}{a b c:Int}(h:a<=b)(g:b<=c):Sb F a b+Sb F b c=Sb F a c:=by
 unfold Sb
 have:=Ss.add F a (b - a).toNat (c - b).toNat;rw[show (b - a).toNat+(c - b).toNat=(c - a).toNat by omega,show a+((b - a).toNat:Int)=b by omega] at this;omega
theorem Sb.self(F:Int->Int)(a:Int):Sb F a a=0:=by unfold Sb;rw[Int.sub_self];rfl
theorem Sb.congr{F G:Int->Int}{a b:Int}(h: ∀o,a<=o->o<b->F o=G o):Sb F a b=Sb G a b:=Ss.congr λi hi=>h _ 'o' 'o'
theorem zif(zs:List (V×Pl))(sb se b m e:Int)(d:List D):yf zs sb se b m d+yf zs sb se m e d=yf zs sb se b e d:=by
 unfold yf;split
 ·split
  ·unfold uD;omega
  ·rfl
 ·rfl
theorem zkR(zs:List (V×Pl))(sb se b:Int)(d:List D):yf zs sb se b b d=0:=by
 have:=zif zs sb se b b b d;omega
theorem zj1{zs:List (V×Pl)}{sb se b:Int}{G:Int->List D}{d:List D}: ∀{n:Nat},(∀i:Nat,i<n->G (b+i)=d)->Ss (λo=>yf zs sb se o (o+1) (G o)) b n=yf zs sb se b (b+n) d
 |0,_=>by
  show 0=yf zs sb se b (b+(0:Nat)) d;rw[show b+((0:Nat):Int)=b by omega,zkR]
 |n+1,h=>by
  show Ss _ b n+yf zs sb se (b+n) (b+n+1) (G (b+n))=_;rw[zj1 λi hi=>h i 'o',h n 'o',zif,show b+(n:Int)+1=b+((n+1:Nat):Int) by omega]
theorem uE{zs:List (V×Pl)}{sb se:Int}{G:Int->List D}: ∀{xs:List Rw} {b e:Int},Rws G b xs e->(xs.map λx=>yf zs sb se x.1 x.2.1 x.2.2).sum=Sb (λo=>yf zs sb se o (o+1) (G o)) b e
 | [],b,e,h=>by
  obtain rfl:b=e:=h;rw[Sb.self];rfl
 |x::r,b,e,h=>by
  obtain⟨h1,h2,h3,_,h5⟩:=h;rw[JA,List.sum_cons,uE h5,<-Sb.add (show b<=x.2.1 by omega) (Rws.le h5)]
  have:Sb (λo=>yf zs sb se o (o+1) (G o)) b x.2.1=yf zs sb se b x.2.1 x.2.2:=by
   unfold Sb;rw[zj1 (d:=x.2.2) λi hi=>h3 _ 'o' 'o',show b+((x.2.1 - b).toNat:Int)=x.2.1 by omega]
  rw[this,h1]
def vj(zs:List (V×Pl))(sb se:Int)(H:Hp)(z:Addr×Rw):Prop:= ∃s,H z.1=some (.tup [.int z.2.1, .int z.2.2.1, .ref s, .int (yf zs sb se z.2.1 z.2.2.1 z.2.2.2)])/\H s=some (.tup (z.2.2.2.map sv))/\StD z.2.2.2
def LnR(zs:List (V×Pl))(sb se:Int)(H:Hp)(r:Addr)(ws:List (Addr×Rw)):Prop:=H r=some (.lst (ws.map λw=>V.ref w.1))/\ ∀w∈ws,vj zs sb se H w
theorem vj.same{z:Addr×Rw}(h:vj zs sb se H z)(s:zh H H'):vj zs sb se H' z:=let ⟨a,h1,h2,h3⟩:=h;⟨a,s _ _ h1,s _ _ h2,h3⟩
theorem vj.put{z:Addr×Rw}{ys:List V}(h:vj zs sb se H z)(e:H l=some (.lst xs)):vj zs sb se (upd H l (.lst ys)) z:=by
 obtain⟨a,h1,h2,h3⟩:=h;refine⟨a,?_,?_,h3⟩
 ·rw[zu (λy=>by rw[y,e] at h1;cases h1)];exact h1
 ·rw[zu (λy=>by rw[y,e] at h2;cases h2)];exact h2
def zhh(K:Fg):Sp:=λvs H Q _=> ∃(pa l p1 la:Addr) (f:Int) (dy:Bool) (c:Int) (zs:List (V×Pl)) (sb se e:Int) (os:List Or') (G:Int->List D),vs= [.ref pa, .ref l, .ref p1, .int e]/\yn K H pa la f dy c zs/\vi K H l f dy c os/\H p1=some (.tup [.int sb, .int se])/\sb<=e/\e<=se/\sb<se/\se - sb<10 ^ 10/\IsG f dy c (os.map (·.2)) G/\(∀o∈os,TmX zs o.2.2.2.2)/\ ∀r ws H',H r=none->zh H H'->LnR zs sb se H' r ws->ws.length<=64->Rws G sb (ws.map (·.2)) e->Q (.ref r) H'
theorem sc_0l:FnScope ["account","ordered","span","day","lines","stretch","begin","end","state"] ["account","ordered","span","day"] (zC s_0l):=by sl_open
theorem ok_0l(T:Txt w K mg t):FnOk P w K mg base (CXE P w) 3 t.a_0l t.d_0l ["account","ordered","span","day"] (zhh K):=by
 refine T.F_0l.fn.okX sc_0l ?_ λcdv A outer s H vs Q E L hr h=> ?_
 ·kdl_open
 refine opq λ_ kq=> ?_;obtain⟨pa,l,p1,la,f,dy,c,zs,sb,se,e,os,G,rfl,hz,ho,e1,h1,h2,h3,h4,hG,hx,q⟩:=h;apply kq;have nd:=sc_0l.nd;refine⟨_,(zj (psJ 4 nd (yi zd)) (zj (qj (by passes_own) rfl (qb (peD L.toLv (ok_0h T) hr T.F_0h (zb (pvJ 1) (zb (ixJ zH (pvJ 2) zc) (zb (pvJ 3) zd ze) yH) ze))) (zq (i:=5) nd rfl (Or.inl rfl)) (zj (yv (pvJ 5) (z7 (n:=3) rfl (zD (zq (i:=6) nd rfl (Or.inl rfl)) (zD (zq (i:=7) nd rfl (Or.inl rfl)) (zD (zq (i:=8) nd rfl (Or.inl rfl)) yD))))) (zk (qe (qw PySem.F.plainAttrs_list PySem.F.slot_list_append PySem.F.type_list_append qT (pvJ 4) (zb (zW (zb (pvJ 6) (zb (pvJ 7) (zb (pvJ 8) (zb (peD L.toLv (ok_0j T) hr T.F_0j (zb (pvJ 0) (zb (pvJ 2) (zb (pvJ 5) zd ze) ze) ze)) zd yB) ze) ze) ze)) zd)))))) (zk (zB (pvJ 4))))),?_⟩;open_k0;intro lt H1 hlt s1 e2
 ((try dsimp only);refine qq λR hR=> ?_;(open_k0;repeat (dsimp only[yr,qt,yZ,qm];open_k0)))
 refine ixT (SqT.of (s1 _ _ e1)) (yx _ _) ⟨l,sb,e,f,dy,c,os,G,rfl,ho.same s1,h1,hG,λr ys H2 nr s2 yA yW yS yl=> ?_⟩;refine⟨r,rfl,⟨_,SqL.of yA.1⟩,hR _ _ ?_⟩;clear hR;have s12:=s1.trans s2;have e22:=s2 _ _ e2;have rl:r≠lt:=λz=>by rw[z,e2] at nr;cases nr
 obtain⟨Pv,hPv⟩: ∃Pv:Nat->St->Hp->Prop,Pv=λi σ1 H7=>zh H H7/\vL H7 r ys/\ ∃(ws:List (Addr×Rw)) (x5 x6 x7 x8:Option V),LnR zs sb se H7 lt ws/\ws.length=i/\ws.map (·.2)=(ys.take i).map (·.2)/\σ1= [some (.ref pa),some (.ref l),some (.ref p1),some (.int e),some (.ref lt),x5,x6,x7,x8]:=⟨_,rfl⟩
 refine v0 (xs:=ys.map λy=>V.ref y.1) Pv (by rw[hPv];exact⟨s12,yA, [],_,_,_,_,⟨e22,(λ_ h=>nomatch h)⟩,rfl,rfl,rfl⟩) (λ_ _ _ _ h=>by rw[hPv] at h;exact SqL.of h.2.1.1) (λi x σ1 H7 hxx h=> ?_) (λσ1 H7 h=> ?_)
 ·rw[hPv] at h;refine opq λ_ kq=> ?_;obtain⟨s7,yA7,ws,x5,x6,x7,x8,wA,wl,wm,rfl⟩:=h;apply kq;obtain⟨y,hy,rfl⟩: ∃y,ys[i]? =some y/\x= .ref y.1:=by
   rw[Jh] at hxx;obtain⟨u,e,rfl⟩:=Jk.mp hxx;exact⟨u,e,rfl⟩
  have hm:=Ji hy;refine opq λ_ kq=> ?_;obtain⟨s,g1,g2,g3⟩:=yA7.2 y hm;obtain⟨dd,o0,o1,o2,so,ey⟩:=yS y hm;have sx:=st_x (zs:=zs) (λt h=>by obtain⟨o,ho',rfl⟩:=Jw.mp h;exact(ho.2.2.1 o ho').2.2.1) (λt h=>by obtain⟨o,ho',rfl⟩:=Jw.mp h;exact hx o ho') so;rw[<-ey] at sx;obtain⟨r1,r2,r3⟩:=Rws.in hy yW;apply kq
  (open_k0;repeat (dsimp only[tBM];open_k0))
  refine⟨y.1,_,rfl,SqT.of g1,rfl,?_⟩
  (open_k0;repeat (dsimp only[tBM];open_k0))
  refine⟨.inl ⟨rfl,_,SqL.of wA.1⟩,pa,la,f,dy,c,zs,_,p1,y.1,s,sb,se,_,_,rfl,hz.same s7,sx,s7 _ _ e1,g1,g2,r1,'o','o',h3,h4,λH3 s3=> ?_⟩;intro p4 H4 _ s4 e4;have s74:=s3.trans s4;have w4:=s74 _ _ wA.1;have off: ∀p xs zs',H4 p=some (.tup xs)->upd H4 lt (.lst zs') p=some (.tup xs):=λp xs zs' h=>by
   rw[zu (λz=>by rw[z,w4] at h;cases h)];exact h
  refine⟨lt,_,_,rfl,rfl,w4,xl (show (ws.map λw=>V.ref w.1).length<=1000 by rw[Ja];have:=(Jc.mp hy).1;omega),?_⟩;rw[hPv];refine⟨(s7.trans s74).put hlt _,⟨by rw[zu rl];exact s74 _ _ yA7.1,λz hz'=>((yA7.2 z hz').same s74).put w4⟩,ws++ [(p4,y.2)],_,_,_,_,⟨by rw[zN,Jd];rfl,λw hw=> ?_⟩,by rw[Jj,wl];rfl,?_,rfl⟩
  ·rcases Jr.mp hw with h|h
   ·exact((wA.2 w h).same s74).put w4
   ·rw[Jm.mp h];exact⟨s,off _ _ _ e4,off _ _ _ (s74 _ _ g2),g3⟩
  ·rw[Jd,wm,JH,hy,Option.toList_some,Jd];rfl
 ·rw[hPv] at h;refine opq λ_ kq=> ?_;obtain⟨s7,yA7,ws,x5,x6,x7,x8,wA,wl,wm,rfl⟩:=h;apply kq;rw[Ja,JC] at wm;rw[Ja] at wl;open_k0;refine q lt ws H7 hlt s7 wA 'o' ?_;rw[wm];exact yW
def zmQ(K:Fg):Sp:=λvs H Q _=> ∃(l:Addr) (zs:List (V×Pl)) (sb se:Int) (ws:List (Addr×Rw)),vs= [.ref l]/\LnR zs sb se H l ws/\ws.length<=64/\ ∀H',zh H H'->Q (.int ((ws.map (·.2)).map λx=>yf zs sb se x.1 x.2.1 x.2.2).sum) H'
theorem sc_0m:FnScope ["lines"] ["lines"] (zC s_0m):=by sl_open
theorem ok_0m(T:Txt w K mg t):FnOk P w K mg base (CXE P w) 1 t.a_0m t.d_0m ["lines"] (zmQ K):=by
 refine T.F_0m.fn.okX sc_0m ?_ λcdv A outer s H vs Q E L hr h=> ?_
 ·kdl_open
 refine opq λ_ kq=> ?_;obtain⟨l,zs,sb,se,ws,rfl,wA,wl,q⟩:=h;apply kq;have nd:=sc_0m.nd;refine⟨_,(zk (zB (zY (wx (by rfl)) (by rfl) T.no_sum xT (zb (qG (n:=1) (N:= ["line"]) (js:= []) (by rfl) rfl rfl (qb (pvJ 0)) (λa=>(zq (i:=0) (show List.Nodup (["line"]:List Str) from by decide+kernel) rfl (Or.inl rfl))) (λa=>qM) (λa=>(ixJ zH (pvJ 0) zc))) zd)))),?_⟩
 (open_k0;repeat (dsimp only[qk,yr];open_k0))
 refine⟨⟨_,SqL.of wA.1⟩,λl2 hl2 aa=> ?_⟩;refine qr (λj xs _=>xs=(((ws.take j).map (·.2)).map λx=>yf zs sb se x.1 x.2.1 x.2.2).map V.int) (qV (SqL.of wA.1)) hl2 (by rw[Ja];exact qy 'o') (λ_ _=>rfl) (λj y xs H8 K1 K0 hx sm pv hl k1 k0=> ?_) (λxs H2 s2 pv _ w2=> ?_)
 ·obtain⟨w',hw,rfl⟩: ∃w',ws[j]? =some w'/\y= .ref w'.1:=by
   rw[Jh] at hx;obtain⟨u,e,rfl⟩:=Jk.mp hx;exact⟨u,e,rfl⟩
  refine opq λ_ kq=> ?_;obtain⟨s,a4,_,_⟩:=wA.2 w' (Ji hw);apply kq;open_k0;refine ixT (SqT.of (sm _ _ a4)) (zql _ _ _ _ _) (k1 _ _ (zh.refl _) λH5 _=> ?_);rw[pv,JH,hw,Option.toList_some,Jd,Jd,Jd];rfl
 ·rw[Ja,JC] at pv;subst pv;exact⟨l2,rfl,_,SqL.of w2,q H2 s2⟩
def vS(f:Int)(dy:Bool)(c:Int)(ts:List Tm)(G:Int->List D):Prop:= ∀ts',(∀t,t∈ts'↔t∈ts)->IsG f dy c ts' G
theorem jP{os:List Or'}(om: ∀t,t∈os.map (·.2)↔t∈ts)(hx: ∀t∈ts,TmX zs t.2.2.2): ∀o∈os,TmX zs o.2.2.2.2:=λo h=>hx o.2 ((om o.2).mp (Jw.mpr ⟨o,h,rfl⟩))
def zig(K:Fg)(t:Adr):Sp:=λvs H Q E=> ∃(pa l la:Addr) (f:Int) (dy:Bool) (c:Int) (zs:List (V×Pl)) (ts:List Tm) (G:Int->List D) (k:Int),vs= [.ref pa, .ref l, .int k]/\yn K H pa la f dy c zs/\xp K H l f (Cal.beg f dy c 60) ts/\(∀t∈ts,TmX zs t.2.2.2)/\vS f dy c ts G/\(0<=k->k<60-> ∀r ws H',H r=none->zh H H'->LnR zs (Cal.beg f dy c k) (Cal.beg f dy c (k+1)) H' r ws->ws.length<=64->Rws G (Cal.beg f dy c k) (ws.map (·.2)) (Cal.beg f dy c (k+1))->Q (.ref r) H')/\(k<0-> ∀H',zh H H'->E (.ref t.c_Z06) none H')/\(60<=k-> ∀H',zh H H'->E (.ref t.c_Z0c) none H')
theorem sc_0n:FnScope ["account","terms","k","span"] ["account","terms","k"] (zC s_0n):=by sl_open
theorem ok_0n(T:Txt w K mg t):FnOk P w K mg base (CXE P w) 10 t.a_0n t.d_0n ["account","terms","k"] (zig K t):=by
 refine T.F_0n.fn.okX sc_0n ?_ λcdv A outer s H vs Q E L hr h=> ?_
 ·kdl_open
 refine opq λ_ kq=> ?_;obtain⟨pa,l,la,f,dy,c,zs,ts,G,k,rfl,hz,ht,hx,hG,q,q2,q3⟩:=h;apply kq;have nd:=sc_0n.nd;refine⟨_,(zj (psJ 3 nd (peD L.toLv (ok_0a T) hr T.F_0a (zb (pvJ 0) (zb (pvJ 2) zd ze) ze))) (zk (zB (peD L.toLv (ok_0l T) hr T.F_0l (zb (pvJ 0) (zb (peD L.toLv (ok_0e T) hr T.F_0e (zb (pvJ 0) (zb (pvJ 1) zd ze) ze)) (zb (pvJ 3) (zb (ixJ zH (pvJ 3) zc) zd yH) ze) yB) ze))))),?_⟩;obtain⟨f0,f1,hc⟩:=hz.1.cyc;open_k0;refine gq λ_ kq=>⟨pa,la,f,dy,c,k,rfl,hz.1,λk0 k1 p1 H1 s1 e1=>kq _ _ ?_,q2,q3⟩
 have bw:=vh f0 f1 hc k0 k1;refine gq λ_ kq=>⟨pa,l,la,f,dy,c,ts,rfl,hz.1.same s1,ht.same s1,λl2 os H2 s2 ho om=>kq _ _ ?_⟩
 refine ixT (SqT.of (s2 _ _ e1)) (y8 _ _ _) ?_;exact⟨pa,l2,p1,la,f,dy,c,zs,_,_,_,os,G,rfl,hz.same (s1.trans s2),ho,s2 _ _ e1,'o',Jz _,bw.2.1,'o',hG _ om,jP om hx,λr ws H3 nr s3 wA wl ws'=>q k0 k1 r ws H3 ((s1.trans s2).none nr) ((s1.trans s2).trans s3) wA wl ws'⟩
def zjb(K:Fg)(t:Adr):Sp:=λvs H Q E=> ∃(pa l la:Addr) (f:Int) (dy:Bool) (c:Int) (zs:List (V×Pl)) (ts:List Tm) (G:Int->List D) (k:Int),vs= [.ref pa, .ref l, .int k]/\yn K H pa la f dy c zs/\xp K H l f (Cal.beg f dy c 60) ts/\(∀t∈ts,TmX zs t.2.2.2)/\vS f dy c ts G/\(0<=k->k<60-> ∀H',zh H H'->Q (.int (Sb (λo=>yf zs (Cal.beg f dy c k) (Cal.beg f dy c (k+1)) o (o+1) (G o)) (Cal.beg f dy c k) (Cal.beg f dy c (k+1)))) H')/\(k<0-> ∀H',zh H H'->E (.ref t.c_Z06) none H')/\(60<=k-> ∀H',zh H H'->E (.ref t.c_Z0c) none H')
theorem sc_0o:FnScope ["account","terms","k"] ["account","terms","k"] (zC s_0o):=by sl_open
theorem ok_0o(T:Txt w K mg t):FnOk P w K mg base (CXE P w) 11 t.a_0o t.d_0o ["account","terms","k"] (zjb K t):=by
 refine T.F_0o.fn.okX sc_0o ?_ λcdv A outer s H vs Q E L hr h=> ?_
 ·kdl_open
 refine opq λ_ kq=> ?_;obtain⟨pa,l,la,f,dy,c,zs,ts,G,k,rfl,hz,ht,hx,hG,q,q2,q3⟩:=h;apply kq;have nd:=sc_0o.nd;refine⟨_,(zk (zB (peD L.toLv (ok_0m T) hr T.F_0m (zb (peD L.toLv (ok_0n T) hr T.F_0n (zb (pvJ 0) (zb (pvJ 1) (zb (pvJ 2) zd ze) ze) ze)) zd)))),?_⟩;open_k0;refine⟨pa,l,la,f,dy,c,zs,ts,G,k,rfl,hz,ht,hx,hG,λk0 k1 r ws H1 _ s1 wA wl ws'=>⟨r,zs,_,_,ws,rfl,wA,wl,λH2 s2=> ?_⟩,q2,q3⟩;rw[uE ws'];exact q k0 k1 H2 (s1.trans s2)
def EnB(f e:Int)(zs:List En):Prop:= ∀z∈zs,yP z.2.2.2=true->TmB f e z.2.2.2
theorem EnB.of{f:Int}{zs:List En}(h:qz nms f e zs):EnB f e zs:=λz hz tm=>by
 obtain⟨i,hi,ez⟩:=List.mem_iff_getElem.mp hz;have ci:=(h i z (by rw[Jb hi,ez])).2.2.2;cases hch:z.2.2.2 with
 |plan d nm=>rw[hch] at ci;exact⟨rfl,ci.1,ci.2.1,λw d h=>by cases h⟩
 |seats d n=>rw[hch] at ci;exact⟨rfl,ci.1,ci.2.1,λw d h=>by cases h⟩
 |word w d=>rw[hch] at ci;exact⟨rfl,ci.2.1,ci.2.2,λw d h=>by cases h;exact ci.1⟩
 |undo k=>rw[hch] at tm;cases tm
 |grant k=>rw[hch] at tm;cases tm
 |back=>rw[hch] at tm;cases tm
def jQ:List (List Nat):= [[112,108,97,110], [115,101,97,116,115], [104,111,108,100], [103,111], [115,116,111,112], [108,97,115,116]]
theorem zfO(w:Nat):xm w∈jQ/\xm w≠ [112,108,97,110]/\xm w≠ [115,101,97,116,115]:=by
 match w with
 |0=>exact⟨'d','d','d'⟩
 |1=>exact⟨'d','d','d'⟩
 |2=>exact⟨'d','d','d'⟩
 |n+3=>exact⟨(by decide: [108,97,115,116]∈jQ),(by decide: [108,97,115,116]≠ [112,108,97,110]),(by decide: [108,97,115,116]≠ [115,101,97,116,115])⟩
theorem zmR(c:Ch):decide (chW c∈jQ)=yP c:=by
 cases c with
 |plan=>rfl
 |seats=>rfl
 |word w _=>exact JO (zfO w).1
 |undo=>rfl
 |grant=>rfl
 |back=>rfl
def zmS(K:Fg):Sp:=λvs H Q _=> ∃(p:Addr) (c:Ch),vs= [.ref p]/\SqT K H p ((chD c).map sv)/\Q (.bl (yP c)) H
theorem sc_0q:FnScope ["change"] ["change"] (zC s_0q):=by sl_open
theorem ok_0q(T:Txt w K mg t):FnOk P w K mg base (CXE P w) 1 t.a_0q t.d_0q ["change"] (zmS K):=by
 refine T.F_0q.fn.okX sc_0q ?_ λcdv A outer s H vs Q E L hr h=> ?_
 ·kdl_open
 refine opq λ_ kq=> ?_;obtain⟨p,c,rfl,hp,q⟩:=h;have nd:=sc_0q.nd;obtain⟨a_Z0b,h_Z0b,q_Z0b⟩:=T.k_Z0b;apply kq;have r_Z0b:zt (.ref a_Z0b) (.ref a_Z0b):=rfl;refine⟨_,(zk (zB (xh kO (ixJ zH (pvJ 0) zc) (qF (by rfl) h_Z0b r_Z0b) rfl))),?_⟩;obtain⟨r,er⟩:=zhJ c;rw[er] at hp;open_k0;refine ixT hp (yx _ _) ⟨a_Z0b,_,rfl, .inr (q_Z0b _),rfl,rfl,?_⟩;have e:inV (.str (SL (chW c))) (jQ.map λx=>V.str (SL x))=yP c:=by rw[zfg,zmR]
 exact e ▸ q
def xD(zs:List En)(k:Int):V:=((zs[k.toNat]?).map λz=>V.ref z.2.1).getD .non
def zjc(K:Fg):Sp:=λvs H Q _=> ∃(a:Addr) (zs:List En),vs= [.ref a]/\SqL K H a (zs.map (·.1))/\yI K H zs/\zs.length<=63/\(∀i z k,zs[i]? =some z->z.2.2.2= .undo k->k∈yt (chs (zs.take i)))/\ ∀r H',zh H H'->H' r=some (.dK (kvG (xD zs) (yt (chs zs))))->Q (.ref r) H'
theorem sc_0r:FnScope ["entries","standing","number","entry","change"] ["entries"] (zC s_0r):=by sl_open
theorem ok_0r(T:Txt w K mg t):FnOk P w K mg base (CXE P w) 2 t.a_0r t.d_0r ["entries"] (zjc K):=by
 refine T.F_0r.fn.okX sc_0r ?_ λcdv A outer s H vs Q E L hr h=> ?_
 ·kdl_open
 refine opq λ_ kq=> ?_;obtain⟨a,zs,rfl,hS,hE,z63,hu,q⟩:=h;apply kq;have nd:=sc_0r.nd;refine⟨_,(zj (psJ 1 nd u7) (zj (qj (by passes_own) rfl (uq (by rfl) T.no_enumerate (zb (pvJ 0) zd)) (z7 (n:=2) rfl (yR (zq (i:=2) nd rfl (Or.inl rfl)) (yR (zq (i:=3) nd rfl (Or.inl rfl)) xF))) (zj (psJ 4 nd (ixJ zH (pvJ 3) zc)) (zj (xv (zP (q5 (vW (peD L.toLv (ok_0q T) hr T.F_0q (zb (pvJ 4) zd)))) (zk (uk (xk hr) (pvJ 1) (pvJ 2) (pvJ 4) rfl)) zQ)) (zk (zP (qg (ixJ zH (pvJ 4) zc) (zZ st_13)) (zk (qe (zlI (pvJ 1) (ixJ zH (pvJ 4) zc) ⟨by rfl,by rfl,by rfl,by rfl⟩))) zQ))))) (zk (zB (pvJ 1))))),?_⟩;open_k0;intro dd H1 hdd s1 e1
 ((try dsimp only);refine qq λR hR=> ?_;(open_k0;repeat (dsimp only[yr,qt,yZ,qm];open_k0)))
 refine⟨⟨_,s1.seq hS⟩,hR _ _ ?_⟩;clear hR;refine u8 (xs:=zs.map (·.1)) (λi σ1 H2=>zh H H2/\H2 dd=some (.dK (kvG (xD zs) (yt (chs (zs.take i)))))/\ ∃(x2 x3 x4:Option V),σ1= [some (.ref a),some (.ref dd),x2,x3,x4]) ⟨s1,e1,_,_,_,rfl⟩ (λi σ1 H1 _ h=>h.1.seq hS) (λi σ1 H1 H2 h s=>⟨h.1.trans s,s _ _ h.2.1,h.2.2⟩) (λi x σ1 H2 hx h=> ?_) (λσ1 H2 h=> ?_)
 ·refine opq λ_ kq=> ?_;obtain⟨s2,e2,x2,x3,x4,rfl⟩:=h;apply kq;obtain⟨z,hz,rfl⟩: ∃z,zs[i]? =some z/\x=z.1:=by
   rw[Jh] at hx;obtain⟨u,e,rfl⟩:=Jk.mp hx;exact⟨u,e,rfl⟩
  refine opq λ_ kq=> ?_;obtain⟨pe,ee,q1,q2⟩:=(hE.same s2) z (Ji hz);apply kq;have hi:=(Jc.mp hz).1;have li:(yt (chs (zs.take i))).length<100:=by have:=zet (chs (zs.take i));rw[wC,JB] at this;omega
  have pz:xD zs (i:Int)= .ref z.2.1:=by unfold xD;rw[JF,hz];rfl
  have nx:=ziI hz;have ni:=(wY (chs (zs.take i))).2;rw[wC,JB,Nat.min_eq_left 'o'] at ni;have nd:=(wY (chs (zs.take i))).1;have hui:=hu i z;rw[ee];open_k0;refine ixT q1 (y8 _ _ _) ?_;generalize hc:z.2.2.2=c at q2 nx hui;generalize yt (chs (zs.take i))=S at e2 li nx ni nd hui;obtain⟨R,hR⟩: ∃R:St->Hp->Prop,R=λσ' H'=>zh H H'/\H' dd=some (.dK (kvG (xD zs) (if yP c=true then S++ [(i:Int)] else S)))/\σ'= [some (.ref a),some (.ref dd),some (.int i),some (.ref pe),some (.ref z.2.1)]:=⟨_,rfl⟩
  refine⟨R,?_,λσ3 H3 h3=> ?_⟩
  ·open_k0;refine⟨z.2.1,c,rfl,q2,_,rfl,yC (λtm=> ?_) (λtm=> ?_)⟩
   ·refine⟨_,xV.k (k:=Sum.inl (i:Int)) e2 (qX (show (kvG (xD zs) S).length+1<=1000 by unfold kvG;rw[Ja];omega)),?_⟩;rw[hR];refine⟨s2.put hdd _,?_,rfl⟩;rw[zN,Jg tm,<-pz,zpn _ (λy=>by have:=(ni _ y).2;omega)]
   ·rw[hR];exact⟨s2,by rw[Jf tm];exact e2,rfl⟩
  rw[hR] at h3;obtain⟨s3,e3,rfl⟩:=h3;clear hR;open_k0;refine opq λ_ kq=> ?_;obtain⟨_,_,_,q3⟩:=(hE.same s3) z (Ji hz);apply kq;rw[hc] at q3;rw[nx];obtain⟨r,er⟩:=zhJ c;have q3':=q3;rw[er] at q3';refine ixT q3' (yx _ _) ⟨rfl,?_⟩;cases c with
  |plan=>exact yg (qc (show [112,108,97,110]≠ [117,110,100,111] by decide)) ⟨s3,e3⟩
  |seats=>exact yg (qc (show [115,101,97,116,115]≠ [117,110,100,111] by decide)) ⟨s3,e3⟩
  |word w d=>exact yg (qc (λz=>absurd ((zfO w).1) (by rw[show xm w=_ from z];decide))) ⟨s3,e3⟩
  |grant=>exact yg (qc (show [103,114,97,110,116]≠ [117,110,100,111] by decide)) ⟨s3,e3⟩
  |back=>exact yg (qc (show [98,97,99,107]≠ [117,110,100,111] by decide)) ⟨s3,e3⟩
  |undo k=>
   have q3:SqT K H3 z.2.1 [.str (SL [117,110,100,111]), .int k]:=q3;have hk:=hui k hz rfl;refine xW rfl ⟨.inl ⟨_,Rd.of e3⟩,ixT q3 (y8 _ _ _) ⟨_,e3,Sum.inl k,rfl,_,(by show yN (kvG (xD zs) S) (Sum.inl k)=_;rw[ziH,Jg hk]),s3.put hdd _,?_⟩⟩;rw[zN];show some (HO.dK (wB (kvG (xD zs) S) (Sum.inl k)))=_;rw[zjv _ _ nd];rfl
 ·refine opq λ_ kq=> ?_;obtain⟨s2,e2,x2,x3,x4,rfl⟩:=h;apply kq;rw[Ja,JC] at e2;open_k0;exact q dd H2 s2 e2
def zqo(H:Hp)(zs:List En)(Ls:List Int)(as:List Addr):Prop:=as.length=Ls.length/\ ∀(i:Nat) (p:Addr) (k:Int),as[i]? =some p->Ls[i]? =some k-> ∃z,zs[k.toNat]? =some z/\H p=some (.tup [.int k, .ref z.2.1])
def zK(zs:List En)(mo:Int):List Int:=yt (chs (zs.take (mOf zs mo)))
def zgC(K:Fg):Sp:=λvs H Q _=> ∃(a:Addr) (zs:List En) (mo:Int),vs= [.ref a, .int mo]/\SqL K H a (zs.map (·.1))/\yI K H zs/\zs.length<=40/\zs.Pairwise (λa b=>a.2.2.1<=b.2.2.1)/\qJ (chs zs)/\ ∀r as H',H r=none->zh H H'->H' r=some (.lst (as.map V.ref))->zqo H' zs (zK zs mo) as->Q (.ref r) H'
theorem sc_0s:FnScope ["entries","moment","known"] ["entries","moment"] (zC s_0s):=by sl_open
theorem ok_0s(T:Txt w K mg t):FnOk P w K mg base (CXE P w) 3 t.a_0s t.d_0s ["entries","moment"] (zgC K):=by
 refine T.F_0s.fn.okX sc_0s ?_ λcdv A outer s H vs Q E L hr h=> ?_
 ·kdl_open
 refine opq λ_ kq=> ?_;obtain⟨a,zs,mo,rfl,hS,hE,z40,hp,ho,q⟩:=h;apply kq;have nd:=sc_0s.nd;refine⟨_,(zj (ue (i:=2) nd rfl rfl (n:=1) (N:= ["entry","moment"]) (js:= [1]) (by rfl) rfl rfl (qb (pvJ 0)) (λa=>(zq (i:=0) (show List.Nodup (["entry","moment"]:List Str) from by decide+kernel) rfl (Or.inl rfl))) (λa=>(vw (qB ziV (ixJ zH (pvJ 0) zc) (pvJ 1) (yF _)))) (λa=>(pvJ 0))) (zk (zB (zgW (by rfl) (by rfl) T.no_list (peD L.toLv (ok_0r T) hr T.F_0r (zb (pvJ 2) zd)) (by rfl) (by rfl))))),?_⟩;open_k0;obtain⟨kt,kb⟩:=vC mo hp;have ml:mOf zs mo<=zs.length:=List.length_filter_le _ _;first|refine⟨a,rfl,⟨_,hS⟩,λl2 hl2 aa=> ?_⟩|refine⟨_,rfl,a,rfl,⟨_,hS⟩,λl2 hl2 aa=> ?_⟩
 refine qr (λj xs _=>xs=((zs.take j).filter (enL mo)).map (·.1)) (qV hS) hl2 (by rw[Ja];exact qy 'o') (λ_ _=>rfl) (λj x xs H8 K1 K0 hx sm pv hl k1 k0=> ?_) (λxs H2 s2 pv _ w2=> ?_)
 ·obtain⟨z,hz,rfl⟩: ∃z,zs[j]? =some z/\x=z.1:=by
   rw[Jh] at hx;obtain⟨u,e,rfl⟩:=Jk.mp hx;exact⟨u,e,rfl⟩
  refine opq λ_ kq=> ?_;obtain⟨pe,ee,q1,q2⟩:=(hE.same sm) z (Ji hz);apply kq;have ez:(zs.take (j+1)).filter (enL mo)=(zs.take j).filter (enL mo)++ [z].filter (enL mo):=by rw[JH,hz,Option.toList_some,JT]
  rw[ee];open_k0;refine ixT q1 (yx _ _) ⟨_,rfl,yC (λh=>k1 _ _ (zh.refl _) λH' _=> ?_) (λh=>k0 _ (zh.refl _) ?_)⟩
  ·rw[ez,List.filter_cons_of_pos (show enL mo z=true from JO h),Jd,pv,<-ee];rfl
  ·rw[ez,List.filter_cons_of_neg (show¬enL mo z=true from by unfold enL;simpa using h),Jd,pv];exact(Jt _).symm
 rw[Ja,JC,kt] at pv;subst pv;have uo:qJ (chs (zs.take (mOf zs mo))):=by rw[wZ];exact ho.take _
 refine⟨l2,zs.take (mOf zs mo),rfl,SqL.of w2,(hE.same s2).take _,by rw[JB];omega,λi z k hz hk=> ?_,λr H3 s3 e3=>⟨r,rfl,_,e3,λl H4 as nl s4 al ak e4=>q l as H4 (by
  rcases hh:H l with _|o
  ·rfl
  ·rw[(s2.trans s3) _ _ hh] at nl;cases nl) ((s2.trans s3).trans s4) e4 ⟨?_,λi p k hp' hk'=> ?_⟩⟩⟩
 ·rw[wZ];refine uo i k ?_;unfold chs;rw[Jh,hz];exact congrArg some hk
 ·rw[al];exact Ja ..
 ·have kin:=(wY (chs (zs.take (mOf zs mo)))).2 k (Ji hk');rw[wC,JB] at kin;have kl:k.toNat<zs.length:=by omega
  refine⟨zs[k.toNat],Jb kl,?_⟩
  have:=ak i (Sum.inl k,xD (zs.take (mOf zs mo)) k) p (by
   unfold kvG;rw[Jh];show Option.map _ (zK zs mo)[i]? =_;rw[hk'];rfl) hp'
  rw[this];show some (HO.tup [V.int k,xD (zs.take (mOf zs mo)) k])=_;unfold xD;rw[List.getElem?_take,Jg 'o',Jb kl];rfl
noncomputable def rtK(f:Int)(dy:Bool)(c:Int)(zs:List En)(k:Int):Rt:=rtF f dy c k (zs.getD k.toNat (.non,0,0, .back)).2.2.2
def GL(f:Int)(dy:Bool)(c:Int)(zs:List En)(mo:Int)(G:Int->List D):Prop:= ∀ts:List Tm,ts.map (rtT f dy c)=(zK zs mo).map (rtK f dy c zs)->vS f dy c ts G
theorem jR{zs:List En}(hp:zs.Pairwise (λa b=>a.2.2.1<=b.2.2.1))(ho:qJ (chs zs)):(zK zs mo).Nodup/\ ∀k∈zK zs mo,∃z,0<=k/\zs[k.toNat]? =some z/\yP z.2.2.2=true:=by
 have ml:mOf zs mo<=zs.length:=List.length_filter_le _ _;obtain⟨cs,hcs⟩: ∃cs,cs=chs (zs.take (mOf zs mo)):=⟨_,rfl⟩
 have csl:cs.length=mOf zs mo:=by rw[hcs,wC,JB];omega
 have uo:qJ cs:=by rw[hcs,wZ];exact ho.take _
 have sd:=(zgh cs uo cs.length (Je _)).1;rw[JC] at sd;refine⟨(wY (chs (zs.take (mOf zs mo)))).1,λk hk=> ?_⟩;unfold zK at hk;rw[<-hcs,sd] at hk;unfold wD at hk;obtain⟨j,hj,rfl⟩:=Jw.mp hk;obtain⟨h1,h2⟩:=List.mem_filter.mp hj;have hj:=List.mem_range.mp h1;have tm:xX cs[j]? =true:=by
  rw[Bool.and_eq_true] at h2;exact h2.1
 have jl:j<zs.length:=by omega
 refine⟨zs[j],'o',by rw[JF];exact Jb jl,?_⟩;have e:cs[j]? =some (zs[j]).2.2.2:=by
  rw[hcs,wZ,List.getElem?_take,Jg 'o'];unfold chs;rw[Jh,Jb jl];rfl
 rw[e] at tm;exact tm
theorem jS{zs:List En}{f:Int}{as:List Addr}(dy:Bool)(c:Int)(hp:zs.Pairwise (λa b=>a.2.2.1<=b.2.2.1))(ho:qJ (chs zs))(z40:zs.length<=40)(hE:yI K H zs)(hB:EnB f e zs)(er:H r=some (.lst (as.map V.ref)))(ht:zqo H zs (zK zs mo) as): ∃ts:List Tm,xp K H r f e ts/\ts.map (rtT f dy c)=(zK zs mo).map (rtK f dy c zs)/\ ∀t∈ts,∃z∈zs,t.2.2.2=z.2.2.2:=by
 obtain⟨kn,ki⟩:=jR (mo:=mo) hp ho;obtain⟨al,av⟩:=ht;have kl:(zK zs mo).length<=40:=by
  have:=zet (chs (zs.take (mOf zs mo)));rw[wC,JB] at this;unfold zK;omega
 obtain⟨g,hg⟩: ∃g:Addr×Int->Tm,g=λx=>(x.1,(zs.getD x.2.toNat (.non,0,0, .back)).2.1,x.2,(zs.getD x.2.toNat (.non,0,0, .back)).2.2.2):=⟨_,rfl⟩
 have gd: ∀k z,zs[Int.toNat k]? =some z->zs.getD k.toNat (.non,0,0, .back)=z:=λk z h=>by rw[Jo,h];rfl
 have zm: ∀x∈as.zip (zK zs mo),∃z,0<=x.2/\zs[x.2.toNat]? =some z/\yP z.2.2.2=true/\H x.1=some (.tup [.int x.2, .ref z.2.1]):=λx hx=>by
  obtain⟨i,hi,ei⟩:=List.mem_iff_getElem.mp hx;rw[List.length_zip] at hi;rw[List.getElem_zip] at ei;have h1:as[i]? =some x.1:=by rw[Jb 'o',<-ei]
  have h2:(zK zs mo)[i]? =some x.2:=by rw[Jb 'o',<-ei]
  obtain⟨z,e1,e2⟩:=av i x.1 x.2 h1 h2;obtain⟨z',k0,e3,tm⟩:=ki x.2 (Ji h2);rw[e1] at e3;cases e3;exact⟨z,k0,e1,tm,e2⟩
 have zl:(as.zip (zK zs mo)).length<=40:=by rw[List.length_zip];omega
 refine⟨(as.zip (zK zs mo)).map g,⟨?_,by rw[Ja];omega,λt h=> ?_,?_⟩,?_,λt h=> ?_⟩
 ·rw[er,List.map_map]
  have:(as.zip (zK zs mo)).map ((λt:Tm=>V.ref t.1) ∘ g)=((as.zip (zK zs mo)).map (·.1)).map V.ref:=by rw[List.map_map,hg];rfl
  rw[this,List.map_fst_zip 'o']
 ·obtain⟨x,hx,rfl⟩:=Jw.mp h;obtain⟨z,k0,e1,tm,e2⟩:=zm x hx;have hz:=Ji e1;have kl2:=(Jc.mp e1).1;obtain⟨pe,_,_,q2⟩:=hE z hz;rw[hg];dsimp only;rw[gd _ _ e1];exact⟨⟨e2,q2⟩,⟨k0,by show x.2<64;omega⟩,hB z hz tm⟩
 ·rw[List.pairwise_map,hg]
  have:((as.zip (zK zs mo)).map (·.2)).Pairwise (· ≠ ·):=by rw[List.map_snd_zip 'o'];exact kn
  rw[List.pairwise_map] at this;exact this
 ·have:(as.zip (zK zs mo)).map (rtT f dy c ∘ g)=((as.zip (zK zs mo)).map (·.2)).map (rtK f dy c zs):=by rw[List.map_map,hg];rfl
  rw[List.map_map,this,List.map_snd_zip 'o']
 ·obtain⟨x,hx,rfl⟩:=Jw.mp h;obtain⟨z,k0,e1,tm,e2⟩:=zm x hx;exact⟨z,Ji e1,by rw[hg];dsimp only;rw[gd _ _ e1]⟩
noncomputable def cK(f:Int)(dy:Bool)(c:Int)(zs:List (V×Pl))(G:Int->List D)(k:Int):Int:=Sb (λo=>yf zs (Cal.beg f dy c k) (Cal.beg f dy c (k+1)) o (o+1) (G o)) (Cal.beg f dy c k) (Cal.beg f dy c (k+1))
def EnX(zs:List (V×Pl))(f e:Int)(K:Fg)(H:Hp)(ys:List En):Prop:=yI K H ys/\ys.length<=40/\ys.Pairwise (λa b=>a.2.2.1<=b.2.2.1)/\qJ (chs ys)/\EnB f e ys/\ ∀z∈ys,yP z.2.2.2=true->TmX zs z.2.2.2
theorem EnX.same{zs:List (V×Pl)}{f e:Int}{K:Fg}{H H':Hp}{ys:List En}(h:EnX zs f e K H ys)(s:zh H H'):EnX zs f e K H' ys:=⟨h.1.same s,h.2⟩
theorem EnX.tmx{f:Int}(h:EnX zs f e K H ys)(h3: ∀t∈ts,yP t.2.2.2=true)(hz: ∀t∈ts,∃z∈ys,t.2.2.2=z.2.2.2): ∀t∈ts,TmX zs t.2.2.2:=λt ht=>by
 obtain⟨z,h1,h2⟩:=hz t ht
 have:=h3 t ht;rw[h2] at this ⊢;exact h.2.2.2.2.2 z h1 this
def zgD(K:Fg):Sp:=λvs H Q _=> ∃(pa le la:Addr) (f:Int) (dy:Bool) (c:Int) (zs:List (V×Pl)) (ys:List En) (G:Int->List D) (n:Nat) (mo:Int),vs= [.ref pa, .ref le, .int n, .int mo]/\n<=60/\yn K H pa la f dy c zs/\SqL K H le (ys.map (·.1))/\EnX zs f (Cal.beg f dy c 60) K H ys/\GL f dy c ys mo G/\ ∀r H',zh H H'->H' r=some (.lst (((List.range n).map λi:Nat=>cK f dy c zs G i).map V.int))->Q (.ref r) H'
theorem sc_0t:FnScope ["account","entries","many","moment","ordered","costs","k","span"] ["account","entries","many","moment"] (zC s_0t):=by sl_open
theorem ok_0t(T:Txt w K mg t):FnOk P w K mg base (CXE P w) 10 t.a_0t t.d_0t ["account","entries","many","moment"] (zgD K):=by
 refine T.F_0t.fn.okX sc_0t ?_ λcdv A outer s H vs Q E L hr h=> ?_
 ·kdl_open
 refine opq λ_ kq=> ?_;obtain⟨pa,le,la,f,dy,c,zs,ys,G,n,mo,rfl,n60,hz,hS,hY,hG,q⟩:=h;apply kq;have nd:=sc_0t.nd;refine⟨_,(zj (psJ 4 nd (peD L.toLv (ok_0e T) hr T.F_0e (zb (pvJ 0) (zb (peD L.toLv (ok_0s T) hr T.F_0s (zb (pvJ 1) (zb (pvJ 3) zd ze) ze)) zd yB) ze))) (zj (psJ 5 nd (yi zd)) (zj (qj (by passes_own) rfl (xR (by rfl) T.no_range (zb (pvJ 2) zd)) (zq (i:=6) nd rfl (Or.inl rfl)) (zj (psJ 7 nd (peD L.toLv (ok_0a T) hr T.F_0a (zb (pvJ 0) (zb (pvJ 6) zd ze) ze))) (zk (qe (qw PySem.F.plainAttrs_list PySem.F.slot_list_append PySem.F.type_list_append qT (pvJ 5) (zb (peD L.toLv (ok_0m T) hr T.F_0m (zb (peD L.toLv (ok_0l T) hr T.F_0l (zb (pvJ 0) (zb (pvJ 4) (zb (pvJ 7) (zb (ixJ zH (pvJ 7) zc) zd yH) ze) ze) ze)) zd)) zd)))))) (zk (zB (pvJ 5)))))),?_⟩;obtain⟨f0,f1,hc⟩:=hz.1.cyc;open_k0;refine⟨le,ys,mo,rfl,hS,hY.1,hY.2.1,hY.2.2.1,hY.2.2.2.1,λr1 as H1 _ s1 e1 t1=> ?_⟩;have hY1:=hY.same s1;refine opq λ_ kq=> ?_;obtain⟨ts,ht,er,tz⟩:=jS dy c hY.2.2.1 hY.2.2.2.1 hY.2.1 hY1.1 hY.2.2.2.2.1 e1 t1;apply kq;have hx:=hY.tmx (λt h=>(ht.2.2.1 t h).2.2.1) tz;have hGt:=hG ts er;refine⟨pa,r1,la,f,dy,c,ts,rfl,hz.1.same s1,ht,λl2 os H2 s2 ho om=> ?_⟩;have s12:=s1.trans s2;have hox:=jP om hx;intro lc H3 hlc s3 e3;have nlc:H lc=none:=s12.none hlc
 ((try dsimp only);refine qq λR hR=> ?_;(open_k0;repeat (dsimp only[yr,qt,yZ,qm];open_k0)))
 refine⟨'o','o',hR _ _ ?_⟩;clear hR;rw[JF];obtain⟨Pv,hPv⟩: ∃Pv:Nat->St->Hp->Prop,Pv=λ(i:Nat) σ1 H7=>zh H2 H7/\ ∃x6 x7:Option V,H7 lc=some (.lst (((List.range i).map λi:Nat=>cK f dy c zs G i).map V.int))/\σ1= [some (.ref pa),some (.ref le),some (.int n),some (.int mo),some (.ref l2),some (.ref lc),x6,x7]:=⟨_,rfl⟩
 refine wk (n:=n) Pv (by rw[hPv];exact⟨s3,_,_,e3,rfl⟩) (λi σ1 H7 hi h=> ?_) (λσ1 H7 h=> ?_)
 ·rw[hPv] at h;refine opq λ_ kq=> ?_;obtain⟨s7,x6,x7,e7,rfl⟩:=h;apply kq;have s17:=s12.trans s7;have bw:=vh (k:=(i:Int)) f0 f1 hc 'o' 'o'
  (open_k0;repeat (dsimp only[tBM];open_k0))
  refine⟨pa,la,f,dy,c,(i:Int),by rw[JS],hz.1.same s17,λ_ _ p1 H8 s8 e8=> ?_,λz=>absurd z 'o',λz=>absurd z 'o'⟩;have s18:=s17.trans s8;have e78:=s8 _ _ e7;refine⟨.inl ⟨rfl,_,SqL.of e78⟩,ixT (SqT.of e8) (y8 _ _ _) ⟨pa,l2,p1,la,f,dy,c,zs,_,_,_,os,G,rfl,hz.same s18,ho.same (s7.trans s8),e8,'o',Jz _,bw.2.1,'o',hGt _ om,hox,λr ws H9 _ s9 wA wl wW=>⟨r,zs,_,_,ws,rfl,wA,wl,λH10 s10=> ?_⟩⟩⟩;have e710:=s10 _ _ (s9 _ _ e78);refine⟨lc,_,_,rfl,rfl,e710,xl (by rw[Ja,Ja,JI];omega),?_⟩;rw[hPv,uE wW];exact⟨(s7.trans (s8.trans (s9.trans s10))).put hlc _,_,_,by rw[zN,JQ,Jd,Jd];rfl,rfl⟩
 ·rw[hPv] at h;refine opq λ_ kq=> ?_;obtain⟨s7,x6,x7,e7,rfl⟩:=h;apply kq;open_k0;exact q lc H7 (s12.trans s7) e7
theorem zoE{f:Int}(mo:Int)(f0:0<=f)(f1:f<=3500000)(hc:Cal.CycOk dy c)(hY:EnX zs f (Cal.beg f dy c 60) K H ys): ∃G,GL f dy c ys mo G:=by
 have b6:=Cal.beg_range (k:=60) f0 f1 hc 'd' 'd';obtain⟨kn,ki⟩:=jR (mo:=mo) hY.2.2.1 hY.2.2.2.1;have inj: ∀t∈(zK ys mo).map (rtK f dy c ys),∀u∈(zK ys mo).map (rtK f dy c ys),t.2.2.1=u.2.2.1->t=u:=λt ht u hu e=>by
  obtain⟨k,hk,rfl⟩:=Jw.mp ht;obtain⟨j,hj,rfl⟩:=Jw.mp hu;obtain⟨z,k0,e1,tm⟩:=ki k hk;obtain⟨z',j0,e2,tm'⟩:=ki j hj;have kl:=(Jc.mp e1).1;have jl:=(Jc.mp e2).1;have l40:=hY.2.1;have g1:ys.getD k.toNat (.non,0,0, .back)=z:=by rw[Jo,e1];rfl
  have g2:ys.getD j.toNat (.non,0,0, .back)=z':=by rw[Jo,e2];rfl
  have t1:=hY.2.2.2.2.1 z (Ji e1) tm;have t2:=hY.2.2.2.2.1 z' (Ji e2) tm';have e':(cntF f dy c z.2.2.2*4000000+ql z.2.2.2)*64+k=(cntF f dy c z'.2.2.2*4000000+ql z'.2.2.2)*64+j:=by
   have e0:(cntF f dy c (ys.getD k.toNat (.non,0,0, .back)).2.2.2*4000000+ql (ys.getD k.toNat (.non,0,0, .back)).2.2.2)*64+k=(cntF f dy c (ys.getD j.toNat (.non,0,0, .back)).2.2.2*4000000+ql (ys.getD j.toNat (.non,0,0, .back)).2.2.2)*64+j:=e;rw[g1,g2] at e0;exact e0
  have:k=j:=by omega
  rw[this]
 have h: ∀d,∃x:List D,∀ts:List Tm,ts.map (rtT f dy c)=(zK ys mo).map (rtK f dy c ys)-> ∀ts',(∀t,t∈ts'↔t∈ts)-> ∀o0 o1 o2,xf f dy c ts' d o0 o1 o2->stT o0 o1 o2=x:=λd=>by
  have mm: ∀{ts ts':List Tm},ts.map (rtT f dy c)=(zK ys mo).map (rtK f dy c ys)->(∀t,t∈ts'↔t∈ts)-> ∀t,t∈ts'.map (rtT f dy c)↔t∈(zK ys mo).map (rtK f dy c ys):=λer m t=>by
   rw[<-er];constructor
   ·intro h;obtain⟨x,hx,rfl⟩:=Jw.mp h;exact Jw.mpr ⟨x,(m x).mp hx,rfl⟩
   ·intro h;obtain⟨x,hx,rfl⟩:=Jw.mp h;exact Jw.mpr ⟨x,(m x).mpr hx,rfl⟩
  by_cases z: ∃o0 o1 o2,Bst ((zK ys mo).map (rtK f dy c ys)) d 0 o0/\Bst ((zK ys mo).map (rtK f dy c ys)) d 1 o1/\Bst ((zK ys mo).map (rtK f dy c ys)) d 2 o2
  ·obtain⟨p0,p1,p2,h0,h1,h2⟩:=z;refine⟨stT p0 p1 p2,λts er ts' m o0 o1 o2 h=> ?_⟩;obtain rfl:=Bst.one inj (mm er m) h0 h.1;obtain rfl:=Bst.one inj (mm er m) h1 h.2.1;obtain rfl:=Bst.one inj (mm er m) h2 h.2.2;rfl
  ·exact⟨[],λts er ts' m o0 o1 o2 h=>absurd ⟨o0,o1,o2,h.1.mem λt=>(mm er m t).symm,h.2.1.mem λt=>(mm er m t).symm,h.2.2.mem λt=>(mm er m t).symm⟩ z⟩
 exact⟨λd=>(h d).choose,λts er ts' m d o0 o1 o2 hs=>(h d).choose_spec ts er ts' m o0 o1 o2 hs⟩
def zkT(K:Fg)(t:Adr):Sp:=λvs H Q E=> ∃(pa l la:Addr) (f:Int) (dy:Bool) (c d:Int) (ts:List Tm),vs= [.ref pa, .ref l, .int d]/\qu K H pa la f dy c/\xp K H l f (Cal.beg f dy c 60) ts/\
 (f<=d->d<Cal.beg f dy c 60-> ∀p ts' o0 o1 o2 H',zh H H'->(∀t,t∈ts'↔t∈ts)->xf f dy c ts' d o0 o1 o2->H' p=some (.tup ((stT o0 o1 o2).map sv))->Q (.ref p) H')/\
 (d<f-> ∀H',zh H H'->E (.ref t.c_Z06) none H')/\(Cal.beg f dy c 60<=d-> ∀H',zh H H'->E (.ref t.c_Z0c) none H')
theorem sc_0g:FnScope ["account","terms","day"] ["account","terms","day"] (zC s_0g):=by sl_open
theorem ok_0g(T:Txt w K mg t):FnOk P w K mg base (CXE P w) 10 t.a_0g t.d_0g ["account","terms","day"] (zkT K t):=by
 refine T.F_0g.fn.okX sc_0g ?_ λcdv A outer s H vs Q E L hr h=> ?_
 ·kdl_open
 refine opq λ_ kq=> ?_;obtain⟨pa,l,la,f,dy,c,d,ts,rfl,ha,ht,q1,q2,q3⟩:=h;apply kq;have nd:=sc_0g.nd;refine⟨_,(zj (qe (peD L.toLv (ok_0b T) hr T.F_0b (zb (pvJ 0) (zb (pvJ 2) zd ze) ze))) (zk (zB (peD L.toLv (ok_0f T) hr T.F_0f (zb (peD L.toLv (ok_0e T) hr T.F_0e (zb (pvJ 0) (zb (pvJ 1) zd ze) ze)) (zb (pvJ 2) zd ze) yB))))),?_⟩;obtain⟨f0,f1,hc⟩:=ha.cyc;have b0:Cal.beg f dy c 0=f:=Cal.beg_zero f0 f1;open_k0;refine gq λ_ kq=>⟨pa,la,f,dy,c,d,rfl,ha,λk k0 k1 a1 a2 p1 H1 s1 _=>kq _ _ ?_,q2,q3⟩
 refine gq λ_ kq=>⟨pa,l,la,f,dy,c,ts,rfl,ha.same s1,ht.same s1,λl2 os H2 s2 ho om=>kq _ _ ?_⟩
 have g0:=Cal.beg_ge (k:=k) f0 f1 hc k0 'o';have g1:=Cal.beg_le (k:=k+1) (j:=60) f0 f1 hc 'o' 'o' 'd';exact⟨l2,d,f,dy,c,os,rfl,ho,λp o0 o1 o2 H3 s3 so e3=>q1 'o' 'o' p _ o0 o1 o2 H3 ((s1.trans s2).trans s3) om so e3⟩
def zgE(K:Fg)(t:Adr):Sp:=λvs H Q E=> ∃(pa l la:Addr) (f:Int) (dy:Bool) (c d:Int) (zs:List (V×Pl)) (ts:List Tm),vs= [.ref pa, .ref l, .int d]/\yn K H pa la f dy c zs/\xp K H l f (Cal.beg f dy c 60) ts/\(∀t∈ts,TmX zs t.2.2.2)/\
 (∀k,0<=k->k<60->Cal.beg f dy c k<=d->d<Cal.beg f dy c (k+1)-> ∀ts' o0 o1 o2 H',zh H H'->(∀t,t∈ts'↔t∈ts)->xf f dy c ts' d o0 o1 o2->Q (.int (yf zs (Cal.beg f dy c k) (Cal.beg f dy c (k+1)) d (d+1) (stT o0 o1 o2))) H')/\
 (d<f-> ∀H',zh H H'->E (.ref t.c_Z06) none H')/\(Cal.beg f dy c 60<=d-> ∀H',zh H H'->E (.ref t.c_Z0c) none H')
theorem sc_0k:FnScope ["account","terms","day","k","begin","end"] ["account","terms","day"] (zC s_0k):=by sl_open
theorem ok_0k(T:Txt w K mg t):FnOk P w K mg base (CXE P w) 11 t.a_0k t.d_0k ["account","terms","day"] (zgE K t):=by
 refine T.F_0k.fn.okX sc_0k ?_ λcdv A outer s H vs Q E L hr h=> ?_
 ·kdl_open
 refine opq λ_ kq=> ?_;obtain⟨pa,l,la,f,dy,c,d,zs,ts,rfl,hz,ht,hx,q1,q2,q3⟩:=h;apply kq;have nd:=sc_0k.nd;refine⟨_,(zj (yv (peD L.toLv (ok_0b T) hr T.F_0b (zb (pvJ 0) (zb (pvJ 2) zd ze) ze)) (z7 (n:=3) rfl (zD (zq (i:=3) nd rfl (Or.inl rfl)) (zD (zq (i:=4) nd rfl (Or.inl rfl)) (zD (zq (i:=5) nd rfl (Or.inl rfl)) yD))))) (zk (zB (peD L.toLv (ok_0j T) hr T.F_0j (zb (pvJ 0) (zb (zW (zb (pvJ 4) (zb (pvJ 5) zd ze) ze)) (zb (zW (zb (pvJ 2) (zb (zg zI (pvJ 2) zc) (zb (peD L.toLv (ok_0g T) hr T.F_0g (zb (pvJ 0) (zb (pvJ 1) (zb (pvJ 2) zd ze) ze) ze)) zd yB) zT) ze)) zd wT) wT) ze))))),?_⟩;obtain⟨f0,f1,hc⟩:=hz.1.cyc;open_k0;refine gq λ_ kq=>⟨pa,la,f,dy,c,d,rfl,hz.1,λk k0 k1 a1 a2 p1 H1 s1 e1=>kq _ _ ?_,q2,q3⟩
 have bw:=vh f0 f1 hc k0 k1;have g0:=Cal.beg_ge (k:=k) f0 f1 hc k0 'o';have g1:=Cal.beg_le (k:=k+1) (j:=60) f0 f1 hc 'o' 'o' 'd';refine⟨p1,_,rfl,SqT.of e1,rfl,?_⟩;open_k0;intro p2 H2 _ s2 e2;have s12:=s1.trans s2;refine gq λ_ kq=>⟨pa,l,la,f,dy,c,d,ts,rfl,hz.1.same s12,ht.same s12,λ_ _ p3 ts' o0 o1 o2 H3 s3 om so e3=>kq _ _ ?_,λz=>by omega,λz=>by omega⟩
 intro p4 H4 _ s4 e4;have s34:=s3.trans s4;have sx:=st_x (zs:=zs) (λt h=>(ht.2.2.1 t ((om t).mp h)).2.2.1) (λt h=>hx t ((om t).mp h)) so;exact⟨pa,la,f,dy,c,zs,_,p2,p4,p3,_,_,_,_,rfl,hz.same (s12.trans s34),sx,s34 _ _ e2,e4,s4 _ _ e3,a1,'o','o','o','o',λH5 s5=>q1 k k0 k1 a1 a2 ts' o0 o1 o2 H5 ((s12.trans s34).trans s5) om so⟩
def fsP(g o:Int)(d:Addr):List (Str×V):= [("given", .int g),("own", .int o),("taken", .ref d)]
theorem zmT(g o x:Int)(d:Addr):yT "given" (.int x) (fsP g o d)=fsP x o d:=by unfold fsP;rw[yT,Jg rfl]
theorem zmU(g o x:Int)(d:Addr):yT "own" (.int x) (fsP g o d)=fsP g x d:=by unfold fsP;rw[yT,Jf 'd',yT,Jg rfl]
theorem uF(g o:Int)(d:Addr):(fsP g o d).lookup (Str.ofString "given")=some (.int g):=rfl
theorem uG(g o:Int)(d:Addr):(fsP g o d).lookup (Str.ofString "own")=some (.int o):=rfl
theorem zmV(g o:Int)(d:Addr):(fsP g o d).lookup (Str.ofString "taken")=some (.ref d):=rfl
theorem vk(g o:Int)(d:Addr){m:Str}(h1:(m==Str.ofString "given")=false)(h2:(m==Str.ofString "own")=false)(h3:(m==Str.ofString "taken")=false):(fsP g o d).lookup m=none:=by
 unfold fsP;simp only[List.lookup,h1,h2,h3]
def Row(K:Fg)(H:Hp)(z:Int×Int×Int)(kv:Key×V):Prop:=kv.1=Sum.inl z.1/\ ∃p,kv.2= .ref p/\H p=some (.tup [.int z.2.1, .int z.2.2])
def Rows(K:Fg)(H:Hp):Tab->List (Key×V)->Prop
 | [], []=>True
 |z::r,kv::s=>Row K H z kv/\Rows K H r s
 |_,_=>False
def z6(K:Fg)(H H':Hp):Prop:= ∀p xs,H p=some (.tup xs)->H' p=some (.tup xs)
theorem z6.of_same(s:zh H H'):z6 K H H':=λ_ _ h=>s _ _ h
theorem z6.trans{A B C:Hp}(a:z6 K A B)(b:z6 K B C):z6 K A C:=λp xs h=>b p xs (a p xs h)
theorem z6.dict{kvs:List (Key×V)}(e:H a=some (.dK kvs))(o:HO):z6 K H (upd H a o):=λp xs h=>by
 rw[zu (λz=>by rw[z,e] at h;cases h)];exact h
theorem z6.ins{H:Hp}{a C dx:Addr}{fs:List (Str×V)}(e:H a=some (.ins C dx fs))(o:HO):z6 K H (upd H a o):=λp xs h=>by
 rw[zu (λz=>by rw[z,e] at h;cases h)];exact h
theorem Rows.keep{H H':Hp}(k:z6 K H H'): ∀{T:Tab} {kvs:List (Key×V)},Rows K H T kvs->Rows K H' T kvs
 | [], [],_=>trivial
 |_::_,_::_,⟨⟨h1,p,h2,h3⟩,h⟩=>⟨⟨h1,p,h2,k _ _ h3⟩,h.keep k⟩
 | [],_::_,h=>h.elim
 |_::_, [],h=>h.elim
theorem Rows.val{H:Hp}(k:Int): ∀{T:Tab} {kvs:List (Key×V)},Rows K H T kvs->(yN kvs (Sum.inl k)=none/\zr T k=(0,0))\/ ∃p,yN kvs (Sum.inl k)=some (.ref p)/\H p=some (.tup [.int (zr T k).1, .int (zr T k).2])
 | [], [],_=> .inl ⟨rfl,rfl⟩
 |z::r,kv::s,⟨⟨h1,p,h2,h3⟩,h⟩=>by
  by_cases e:z.1=k
  ·refine .inr ⟨p,?_,?_⟩
   ·rw[uh (by rw[h1,e]),h2]
   ·rw[zr,Jg e];exact h3
  ·rw[ui (by rw[h1];exact λq=>e (Sum.inl.inj q)),zr,Jf e];exact h.val k
 | [],_::_,h=>h.elim
 |_::_, [],h=>h.elim
theorem Rows.any{H:Hp}(k:Int): ∀{T:Tab} {kvs:List (Key×V)},Rows K H T kvs->(kvs.any λkv=>decide (kv.1=Sum.inl k))=T.any λz=>decide (z.1=k)
 | [], [],_=>rfl
 |z::r,kv::s,⟨⟨h1,p,h2,h3⟩,h⟩=>by
  rw[List.any_cons,List.any_cons,h.any k,h1];congr 1;exact decide_eq_decide.mpr ⟨λq=>Sum.inl.inj q,λq=>by rw[q]⟩
 | [],_::_,h=>h.elim
 |_::_, [],h=>h.elim
theorem Rows.map{H:Hp}{k g m:Int}{q:Addr}(hq:H q=some (.tup [.int g, .int m])): ∀{T:Tab} {kvs:List (Key×V)},Rows K H T kvs->Rows K H (T.map λz=>if z.1=k then (z.1,(g,m)) else z) (kvs.map λkv=>if kv.1=Sum.inl k then (kv.1, .ref q) else kv)
 | [], [],_=>trivial
 |z::r,kv::s,⟨⟨h1,p,h2,h3⟩,h⟩=>by
  rw[JA,JA];refine⟨?_,h.map hq⟩;by_cases e:z.1=k
  ·rw[Jg e,Jg (by rw[h1,e])];exact⟨h1,q,rfl,hq⟩
  ·rw[Jf e,Jf (by rw[h1];exact λq=>e (Sum.inl.inj q))];exact⟨h1,p,h2,h3⟩
 | [],_::_,h=>h.elim
 |_::_, [],h=>h.elim
theorem Rows.snoc{H:Hp}{z:Int×Int×Int}{kv:Key×V}(x:Row K H z kv): ∀{T:Tab} {kvs:List (Key×V)},Rows K H T kvs->Rows K H (T++ [z]) (kvs++ [kv])
 | [], [],_=>⟨x,trivial⟩
 |_::_,_::_,⟨h1,h⟩=>⟨h1,h.snoc x⟩
 | [],_::_,h=>h.elim
 |_::_, [],h=>h.elim
theorem Rows.put{k g:Int}{q:Addr}{T:Tab}{kvs:List (Key×V)}(h:Rows K H T kvs)(hq:H q=some (.tup [.int g, .int m])):Rows K H (yc T k (g,m)) (yU kvs (Sum.inl k) (.ref q)):=by
 unfold yc yU;rw[h.any k];by_cases e:(T.any λz=>decide (z.1=k))=true
 ·rw[Jg e,Jg e];exact h.map hq
 ·rw[Jf e,Jf e];exact h.snoc ⟨rfl,q,rfl,hq⟩
theorem Rows.len{H:Hp}: ∀{T:Tab} {kvs:List (Key×V)},Rows K H T kvs->kvs.length=T.length
 | [], [],_=>rfl
 |_::_,_::_,⟨_,h⟩=>congrArg Nat.succ h.len
 | [],_::_,h=>h.elim
 |_::_, [],h=>h.elim
def zqp(t:Adr):Sp:=λvs H Q _=> ∃(p dx:Addr),vs= [.ref p]/\H p=some (.ins t.c_Z07 dx [])/\ ∀d H',H d=none->H' d=some (.dK [])->H' p=some (.ins t.c_Z07 dx (fsP 0 0 d))->(∀b o,b≠p->H b=some o->H' b=some o)->Q .non H'
theorem sc_1k:FnScope ["self"] ["self"] (zC s_1k):=by sl_open
theorem ok_1k(T:Txt w K mg t):FnOk P w K mg base (CXE P w) 1 t.a_1k t.d_1k ["self"] (zqp t):=by
 refine T.fn_1k.okX sc_1k ?_ λcdv A outer s H vs Q E L hr h=> ?_
 ·kdl_open
 refine opq λ_ kq=> ?_;obtain⟨p,dx,rfl,hp,q⟩:=h;apply kq;have nd:=sc_1k.nd;refine⟨_,(zj (uO (pvJ 0) zc rfl) (zj (uO (pvJ 0) zc rfl) (zk (uO (pvJ 0) u7 rfl)))),?_⟩;open_k0;refine⟨_,_,_,hp,T.cs_Z07,T.na_Pots_given,'d',_,_,_,zN,T.cs_Z07,T.na_Pots_own,'d',λd H1 hd s1 e1=> ?_⟩;have dp:d≠p:=λz=>by rw[z,zN] at hd;cases hd
 rw[zu dp,zu dp] at hd;have ep:=s1 _ _ (zN (H:=upd H p _) (a:=p));refine⟨_,_,_,ep,T.cs_Z07,T.na_Pots_taken,'d',q d _ hd (by rw[zu dp];exact e1) zN λb o hb eb=> ?_⟩;rw[zu hb];exact s1 _ _ (by rw[zu hb,zu hb];exact eb)
def zoj(t:Adr):Sp:=λvs H Q _=> ∃(p dx d:Addr) (a g o:Int),vs= [.ref p, .int a]/\H p=some (.ins t.c_Z07 dx (fsP g o d))/\Q .non (upd H p (.ins t.c_Z07 dx (fsP (g+a) o d)))
theorem sc_1l:FnScope ["self","amount"] ["self","amount"] (zC s_1l):=by sl_open
theorem ok_1l(T:Txt w K mg t):FnOk P w K mg base (CXE P w) 1 t.a_1l t.d_1l ["self","amount"] (zoj t):=by
 refine T.fn_1l.okX sc_1l ?_ λcdv A outer s H vs Q E L hr h=> ?_
 ·kdl_open
 refine opq λ_ kq=> ?_;obtain⟨p,dx,d,a,g,o,rfl,hp,q⟩:=h;apply kq;have nd:=sc_1l.nd;refine⟨_,(zk (ua (pvJ 0) (pvJ 1) kF)),?_⟩;open_k0;refine⟨_,_,_,hp,T.cs_Z07,T.na_Pots_given,_,uF g o d,_,rfl,_,_,hp,by simp [fsP],?_⟩;rw[zmT];exact q
def zqq(t:Adr):Sp:=λvs H Q _=> ∃(p dx d:Addr) (g o:Int),vs= [.ref p]/\H p=some (.ins t.c_Z07 dx (fsP g o d))/\ ∀r H',zh H H'->H' r=some (.tup [.int o, .int g])->Q (.ref r) H'
theorem sc_1q:FnScope ["self"] ["self"] (zC s_1q):=by sl_open
theorem ok_1q(T:Txt w K mg t):FnOk P w K mg base (CXE P w) 1 t.a_1q t.d_1q ["self"] (zqq t):=by
 refine T.fn_1q.okX sc_1q ?_ λcdv A outer s H vs Q E L hr h=> ?_
 ·kdl_open
 refine opq λ_ kq=> ?_;obtain⟨p,dx,d,g,o,rfl,hp,q⟩:=h;apply kq;have nd:=sc_1q.nd;refine⟨_,(zk (zB (zW (zb (wt (pvJ 0) rfl) (zb (wt (pvJ 0) rfl) zd))))),?_⟩;open_k0;refine⟨_,_,_,hp,T.cs_Z07,T.na_Pots_own,_,uG g o d,_,_,_,hp,T.cs_Z07,T.na_Pots_given,_,uF g o d,λr H1 _ s1 e1=>q r H1 s1 e1⟩
def zrt(t:Adr):Sp:=λvs H Q _=> ∃(p dx d:Addr) (g o:Int),vs= [.ref p]/\H p=some (.ins t.c_Z07 dx (fsP g o d))/\Q (.int o) (upd H p (.ins t.c_Z07 dx (fsP g 0 d)))
theorem sc_1o:FnScope ["self","amount"] ["self"] (zC s_1o):=by sl_open
theorem ok_1o(T:Txt w K mg t):FnOk P w K mg base (CXE P w) 1 t.a_1o t.d_1o ["self"] (zrt t):=by
 refine T.fn_1o.okX sc_1o ?_ λcdv A outer s H vs Q E L hr h=> ?_
 ·kdl_open
 refine opq λ_ kq=> ?_;obtain⟨p,dx,d,g,o,rfl,hp,q⟩:=h;apply kq;have nd:=sc_1o.nd;refine⟨_,(zj (psJ 1 nd (wt (pvJ 0) rfl)) (zj (uO (pvJ 0) zc rfl) (zk (zB (pvJ 1))))),?_⟩;open_k0;refine⟨_,_,_,hp,T.cs_Z07,T.na_Pots_own,_,uG g o d,_,_,_,hp,T.cs_Z07,T.na_Pots_own,by simp [fsP],?_⟩;rw[zmU];exact q
def zqr(K:Fg)(t:Adr):Sp:=λvs H Q _=> ∃(p dx d:Addr) (g o k:Int) (kvs:List (Key×V)) (Tb:Tab),vs= [.ref p, .int k]/\H p=some (.ins t.c_Z07 dx (fsP g o d))/\H d=some (.dK kvs)/\Rows K H Tb kvs/\ ∀r H',zh H H'->H' r=some (.tup [.int (zr Tb k).1, .int (zr Tb k).2])->Q (.ref r) H'
theorem sc_1p:FnScope ["self","k"] ["self","k"] (zC s_1p):=by sl_open
theorem ok_1p(T:Txt w K mg t):FnOk P w K mg base (CXE P w) 1 t.a_1p t.d_1p ["self","k"] (zqr K t):=by
 refine T.fn_1p.okX sc_1p ?_ λcdv A outer s H vs Q E L hr h=> ?_
 ·kdl_open
 refine opq λ_ kq=> ?_;obtain⟨p,dx,d,g,o,k,kvs,Tb,rfl,hp,hd,hr0,q⟩:=h;apply kq;have nd:=sc_1p.nd;refine⟨_,(zk (zB (um (xk hr) (wt (pvJ 0) rfl) (pvJ 1) (zW (zb zc (zb zc zd zE) zE)) ⟨by rfl,by rfl,by rfl,by rfl⟩))),?_⟩;open_k0;refine⟨_,_,_,hp,T.cs_Z07,T.na_Pots_taken,_,zmV g o d,d,rfl, .inl ⟨_,Rd.of hd⟩,λr0 H1 _ s1 e1=>⟨_,qY.k (k:=Sum.inl k) (s1 _ _ hd),?_⟩⟩;rcases hr0.val k with⟨e,et⟩|⟨pt,e,hs⟩
 ·rw[e];exact q r0 H1 s1 (by rw[et];exact e1)
 ·rw[e];exact q pt H1 s1 (s1 _ _ hs)
def zqs(K:Fg)(t:Adr):Sp:=λvs H Q _=> ∃(p dx d:Addr) (g o k a:Int) (kvs:List (Key×V)) (Tb:Tab),vs= [.ref p, .int k, .int a]/\H p=some (.ins t.c_Z07 dx (fsP g o d))/\H d=some (.dK kvs)/\Rows K H Tb kvs/\Tb.length<=500/\
 ∀x y r H' kvs',x=(if g<a then g else a)->y=(if o<a - x then o else a - x)->H' r=some (.tup [.int x, .int y, .int (a - x - y)])->H' p=some (.ins t.c_Z07 dx (fsP (g - x) (o - y) d))->H' d=some (.dK kvs')->Rows K H' (yc Tb k ((zr Tb k).1+x,(zr Tb k).2+a - x)) kvs'->(∀b u,b≠p->b≠d->H b=some u->H' b=some u)->z6 K H H'->Q (.ref r) H'
theorem sc_1m:FnScope ["self","k","amount","from_given","from_own","paid","given","money"] ["self","k","amount"] (zC s_1m):=by sl_open
theorem ok_1m(T:Txt w K mg t):FnOk P w K mg base (CXE P w) 2 t.a_1m t.d_1m ["self","k","amount"] (zqs K t):=by
 refine T.fn_1m.okX sc_1m ?_ λcdv A outer s H vs Q E L hr h=> ?_
 ·kdl_open
 refine opq λ_ kq=> ?_;obtain⟨p,dx,d,g,o,k,a,kvs,Tb,rfl,hp,hd,hr0,hl,q⟩:=h;apply kq;have nd:=sc_1m.nd;refine⟨_,(zj (psJ 3 nd (zY (xG (by rfl)) (by rfl) T.no_min xK (zb (pvJ 2) (zb (wt (pvJ 0) rfl) zd) ze))) (zj (psJ 4 nd (zY (xG (by rfl)) (by rfl) T.no_min xK (zb (zg yj (pvJ 2) (pvJ 3)) (zb (wt (pvJ 0) rfl) zd) zT))) (zj (psJ 5 nd (zg yj (zg yj (pvJ 2) (pvJ 3)) (pvJ 4))) (zj (ua (pvJ 0) (pvJ 3) zle) (zj (ua (pvJ 0) (pvJ 4) zle) (zj (yv (vp (pvJ 0) T.cs_Z07 T.me_1p (ok_1p T) (hr.mono 'd') T.b_1p .nil xZ (zb (pvJ 1) zd)) (z7 (n:=2) rfl (zD (zq (i:=6) nd rfl (Or.inl rfl)) (zD (zq (i:=7) nd rfl (Or.inl rfl)) yD)))) (zj (uk (xk hr) (wt (pvJ 0) rfl) (pvJ 1) (zW (zb (zg zI (pvJ 6) (pvJ 3)) (zb (zg zI (zg zI (pvJ 7) (pvJ 4)) (pvJ 5)) zd zT) zT)) rfl) (zk (zB (zW (zb (pvJ 3) (zb (pvJ 4) (zb (pvJ 5) zd ze) ze) ze))))))))))),?_⟩;open_k0;refine⟨_,_,_,hp,T.cs_Z07,T.na_Pots_given,_,uF g o d,_,rfl,_,_,_,hp,T.cs_Z07,T.na_Pots_own,_,uG g o d,_,rfl,_,_,_,hp,T.cs_Z07,T.na_Pots_given,_,uF g o d,_,rfl,_,_,hp,by simp [fsP],?_⟩;obtain⟨x,hx⟩: ∃x,x=(if g<a then g else a):=⟨_,rfl⟩
 rw[<-hx,zmT];obtain⟨y,hy⟩: ∃y,y=(if o<a - x then o else a - x):=⟨_,rfl⟩
 rw[<-hy];refine⟨_,_,_,zN,T.cs_Z07,T.na_Pots_own,_,uG (g - x) o d,_,rfl,_,_,zN,by simp [fsP],?_⟩;rw[zmU];have dp:d≠p:=λz=>by rw[z,hp] at hd;cases hd
 have kp:z6 K H (upd (upd H p (.ins t.c_Z07 dx (fsP (g - x) o d))) p (.ins t.c_Z07 dx (fsP (g - x) (o - y) d))):=(z6.ins hp _).trans (z6.ins zN _);have fr: ∀b u,b≠p->H b=some u->upd (upd H p (.ins t.c_Z07 dx (fsP (g - x) o d))) p (.ins t.c_Z07 dx (fsP (g - x) (o - y) d)) b=some u:=λb u hb e=>by rw[zu hb,zu hb];exact e
 have ep:upd (upd H p (.ins t.c_Z07 dx (fsP (g - x) o d))) p (.ins t.c_Z07 dx (fsP (g - x) (o - y) d)) p=some (.ins t.c_Z07 dx (fsP (g - x) (o - y) d)):=zN;generalize upd (upd H p (.ins t.c_Z07 dx (fsP (g - x) o d))) p (.ins t.c_Z07 dx (fsP (g - x) (o - y) d))=H2 at kp fr ep;refine⟨_,_,ep,vk _ _ _ 'd' 'd' 'd',p,dx,d,_,_,k,kvs,Tb,rfl,ep,fr _ _ dp hd,hr0.keep kp,λr H3 s3 h3=> ?_⟩;refine⟨r,_,rfl,SqT.of h3,rfl,?_⟩;open_k0;intro q1 H4 _ s4 e4;have ep4:=s4 _ _ (s3 _ _ ep);have ed4:=s4 _ _ (s3 _ _ (fr _ _ dp hd));have rows4:=(hr0.keep kp).keep (z6.of_same (s3.trans s4));refine⟨_,_,_,ep4,T.cs_Z07,T.na_Pots_taken,_,zmV _ _ d,d,rfl,_,xV.k (k:=Sum.inl k) ed4 (xl (by rw[hr0.len];omega)),λr5 H6 _ s6 e6=> ?_⟩;have sq5:(upd H4 d (.dK (yU kvs (Sum.inl k) (.ref q1)))) q1=some (.tup [.int ((zr Tb k).1+x), .int ((zr Tb k).2+a - x)]):=z6.dict (K:=K) ed4 _ _ _ (by rw[e4];first|done|rfl|(congr 5;omega));have rows5:=((rows4.keep (z6.dict ed4 (.dK (yU kvs (Sum.inl k) (.ref q1))))).put (k:=k) sq5).keep (z6.of_same s6);refine q x y r5 H6 _ hx hy e6 (s6 _ _ (by rw[zu dp.symm];exact ep4)) (s6 _ _ zN) rows5 (λb u b1 b2 e=>s6 _ _ (by rw[zu b2];exact s4 _ _ (s3 _ _ (fr _ _ b1 e)))) (((kp.trans (z6.of_same (s3.trans s4))).trans (z6.dict ed4 _)).trans (z6.of_same s6))
def zqt(K:Fg)(t:Adr):Sp:=λvs H Q _=> ∃(p dx d:Addr) (g o k a:Int) (kvs:List (Key×V)) (Tb:Tab),vs= [.ref p, .int k, .int a]/\H p=some (.ins t.c_Z07 dx (fsP g o d))/\H d=some (.dK kvs)/\Rows K H Tb kvs/\Tb.length<=500/\
 ∀y r H' kvs',y=(if (zr Tb k).2<a then (zr Tb k).2 else a)->H' r=some (.tup [.int (a - y), .int y])->H' p=some (.ins t.c_Z07 dx (fsP (g+(a - y)) (o+y) d))->H' d=some (.dK kvs')->Rows K H' (yc Tb k ((zr Tb k).1 - (a - y),(zr Tb k).2 - y)) kvs'->(∀b u,b≠p->b≠d->H b=some u->H' b=some u)->z6 K H H'->Q (.ref r) H'
theorem sc_1n:FnScope ["self","k","amount","given","money","to_own","to_given"] ["self","k","amount"] (zC s_1n):=by sl_open
theorem ok_1n(T:Txt w K mg t):FnOk P w K mg base (CXE P w) 2 t.a_1n t.d_1n ["self","k","amount"] (zqt K t):=by
 refine T.fn_1n.okX sc_1n ?_ λcdv A outer s H vs Q E L hr h=> ?_
 ·kdl_open
 refine opq λ_ kq=> ?_;obtain⟨p,dx,d,g,o,k,a,kvs,Tb,rfl,hp,hd,hr0,hl,q⟩:=h;apply kq;have nd:=sc_1n.nd;refine⟨_,(zj (yv (vp (pvJ 0) T.cs_Z07 T.me_1p (ok_1p T) (hr.mono 'd') T.b_1p .nil xZ (zb (pvJ 1) zd)) (z7 (n:=2) rfl (zD (zq (i:=3) nd rfl (Or.inl rfl)) (zD (zq (i:=4) nd rfl (Or.inl rfl)) yD)))) (zj (psJ 5 nd (zY (xG (by rfl)) (by rfl) T.no_min xK (zb (pvJ 2) (zb (pvJ 4) zd ze) ze))) (zj (psJ 6 nd (zg yj (pvJ 2) (pvJ 5))) (zj (ua (pvJ 0) (pvJ 5) kF) (zj (ua (pvJ 0) (pvJ 6) kF) (zj (uk (xk hr) (wt (pvJ 0) rfl) (pvJ 1) (zW (zb (zg yj (pvJ 3) (pvJ 6)) (zb (zg yj (pvJ 4) (pvJ 5)) zd zT) zT)) rfl) (zk (zB (zW (zb (pvJ 6) (zb (pvJ 5) zd ze) ze)))))))))),?_⟩;open_k0;refine⟨_,_,hp,vk _ _ _ 'd' 'd' 'd',p,dx,d,_,_,k,kvs,Tb,rfl,hp,hd,hr0,λr H3 s3 h3=> ?_⟩;refine⟨r,_,rfl,SqT.of h3,rfl,?_⟩;open_k0;obtain⟨y,hy⟩: ∃y,y=(if (zr Tb k).2<a then (zr Tb k).2 else a):=⟨_,rfl⟩
 rw[<-hy];have hp3:=s3 _ _ hp;refine⟨_,_,_,hp3,T.cs_Z07,T.na_Pots_own,_,uG g o d,_,rfl,_,_,hp3,by simp [fsP],?_⟩;rw[zmU];refine⟨_,_,_,zN,T.cs_Z07,T.na_Pots_given,_,uF g (o+y) d,_,rfl,_,_,zN,by simp [fsP],?_⟩;rw[zmT];have dp:d≠p:=λz=>by rw[z,hp] at hd;cases hd
 have kp:z6 K H (upd (upd H3 p (.ins t.c_Z07 dx (fsP g (o+y) d))) p (.ins t.c_Z07 dx (fsP (g+(a - y)) (o+y) d))):=((z6.of_same s3).trans (z6.ins hp3 _)).trans (z6.ins zN _);have fr: ∀b u,b≠p->H b=some u->upd (upd H3 p (.ins t.c_Z07 dx (fsP g (o+y) d))) p (.ins t.c_Z07 dx (fsP (g+(a - y)) (o+y) d)) b=some u:=λb u hb e=>by rw[zu hb,zu hb];exact s3 _ _ e
 have ep:upd (upd H3 p (.ins t.c_Z07 dx (fsP g (o+y) d))) p (.ins t.c_Z07 dx (fsP (g+(a - y)) (o+y) d)) p=some (.ins t.c_Z07 dx (fsP (g+(a - y)) (o+y) d)):=zN;generalize upd (upd H3 p (.ins t.c_Z07 dx (fsP g (o+y) d))) p (.ins t.c_Z07 dx (fsP (g+(a - y)) (o+y) d))=H3' at kp fr ep;have s3:zh H3' H3':=zh.refl _;intro q1 H4 _ s4 e4;have ep4:=s4 _ _ (s3 _ _ ep);have ed4:=s4 _ _ (s3 _ _ (fr _ _ dp hd));have rows4:=(hr0.keep kp).keep (z6.of_same (s3.trans s4));refine⟨_,_,_,ep4,T.cs_Z07,T.na_Pots_taken,_,zmV _ _ d,d,rfl,_,xV.k (k:=Sum.inl k) ed4 (xl (by rw[hr0.len];omega)),λr5 H6 _ s6 e6=> ?_⟩;have sq5:(upd H4 d (.dK (yU kvs (Sum.inl k) (.ref q1)))) q1=some (.tup [.int ((zr Tb k).1 - (a - y)), .int ((zr Tb k).2 - y)]):=z6.dict (K:=K) ed4 _ _ _ (by rw[e4];first|done|rfl|(congr 5;omega));have rows5:=((rows4.keep (z6.dict ed4 (.dK (yU kvs (Sum.inl k) (.ref q1))))).put (k:=k) sq5).keep (z6.of_same s6);refine q y r5 H6 _ hy e6 (s6 _ _ (by rw[zu dp.symm];exact ep4)) (s6 _ _ zN) rows5 (λb u b1 b2 e=>s6 _ _ (by rw[zu b2];exact s4 _ _ (s3 _ _ (fr _ _ b1 e)))) (((kp.trans (z6.of_same (s3.trans s4))).trans (z6.dict ed4 _)).trans (z6.of_same s6))
def Pot(K:Fg)(t:Adr)(H:Hp)(p dx d:Addr)(s:Pt):Prop:=H p=some (.ins t.c_Z07 dx (fsP s.1 s.2.1 d))/\ ∃kvs,H d=some (.dK kvs)/\Rows K H s.2.2 kvs
def Kp(H H':Hp):Prop:= ∀b u,H b=some u->(∀C dx fs,u≠ .ins C dx fs)->(∀kvs,u≠ .dK kvs)->H' b=some u
theorem Kp.of_same(s:zh H H'):Kp H H':=λb u e _ _=>s b u e
theorem Kp.trans{A B C:Hp}(x:Kp A B)(y:Kp B C):Kp A C:=λb u e h1 h2=>y b u (x b u e h1 h2) h1 h2
theorem Kp.sqT(k:Kp H H')(h:SqT K H a xs):SqT K H' a xs:=by
 rcases h with(h|⟨o,h⟩)|h
 ·exact .inl (.inl (k _ _ h nofun nofun))
 ·exact .inl (.inr ⟨o,k _ _ h nofun nofun⟩)
 ·exact .inr h
theorem Kp.sqL(k:Kp H H')(h:SqL K H a xs):SqL K H' a xs:=by
 rcases h with(h|⟨o,h⟩)|h
 ·exact .inl (.inl (k _ _ h nofun nofun))
 ·exact .inl (.inr ⟨o,k _ _ h nofun nofun⟩)
 ·exact .inr h
theorem Kp.tup{H H':Hp}{a:Addr}{xs:List V}(k:Kp H H')(h:H a=some (.tup xs)):H' a=some (.tup xs):=k _ _ h nofun nofun
theorem Kp.lst{H H':Hp}{a:Addr}{xs:List V}(k:Kp H H')(h:H a=some (.lst xs)):H' a=some (.lst xs):=k _ _ h nofun nofun
theorem Kp.ens(k:Kp H H')(h:yI K H ys):yI K H' ys:=λz hz=>(let ⟨p,e,q1,q2⟩:=h z hz;⟨p,e,k.sqT q1,k.sqT q2⟩)
def Fr(H:Hp)(r:Addr):Prop:= ∀u,H r=some u->(∃C dx fs,u= .ins C dx fs)\/ ∃kvs,u= .dK kvs
theorem Kp.fr(k:Kp H H')(h:H' r=none):Fr H r:=λu e=>by
 cases u with
 |ins C dx fs=>exact .inl ⟨_,_,_,rfl⟩
 |dK kvs=>exact .inr ⟨_,rfl⟩
 |_=>rw[k _ _ e nofun nofun] at h;cases h
theorem Kp.frF(k:Kp H H')(h:Fr H' r):Fr H r:=λu e=>by
 cases u with
 |ins C dx fs=>exact .inl ⟨_,_,_,rfl⟩
 |dK kvs=>exact .inr ⟨_,rfl⟩
 |_=>rcases h _ (k _ _ e nofun nofun) with⟨_,_,_,z⟩|⟨_,z⟩<;>cases z
theorem Kp.put{o:HO}(k:Kp H H')(h:Fr H r):Kp H (upd H' r o):=λb u e h1 h2=>by
 by_cases z:b=r
 ·subst z;rcases h _ e with⟨_,_,_,z⟩|⟨_,z⟩
  ·exact absurd z (h1 _ _ _)
  ·exact absurd z (h2 _)
 ·rw[zu z];exact k _ _ e h1 h2
theorem Pot.same{p d:Addr}(h:Pot K t H p dx d s)(sm:zh H H'):Pot K t H' p dx d s:=by
 obtain⟨h1,kvs,h2,h3⟩:=h;exact⟨sm _ _ h1,kvs,sm _ _ h2,h3.keep (z6.of_same sm)⟩
def LnV(z:Ln):List V:= [.int z.1, .str (SL z.2.1), .int z.2.2.1, .int z.2.2.2.1, .int z.2.2.2.2.1, .int z.2.2.2.2.2.1, .int z.2.2.2.2.2.2]
def yo(H:Hp)(ws:List (Addr×Ln)):Prop:= ∀w∈ws,H w.1=some (.tup (LnV w.2))
theorem yo.keep(h:yo H ws)(k:Kp H H'):yo H' ws:=λw hw=>k.tup (h w hw)
theorem Kp.of_but{p d:Addr}(P:Pot K t H p dx d s)(b: ∀b u,b≠p->b≠d->H b=some u->H' b=some u):Kp H H':=λx u e h1 h2=>by
 obtain⟨g1,kvs,g2,_⟩:=P;exact b x u (λz=>by rw[z,g1] at e;cases e;exact h1 _ _ _ rfl) (λz=>by rw[z,g2] at e;cases e;exact h2 _ rfl) e
theorem Pot.put{p d:Addr}(h:Pot K t H p dx d s)(g o:Int):Pot K t (upd H p (.ins t.c_Z07 dx (fsP g o d))) p dx d (g,o,s.2.2)/\Kp H (upd H p (.ins t.c_Z07 dx (fsP g o d))):=by
 obtain⟨h1,kvs,h2,h3⟩:=id h;have dp:d≠p:=λz=>by rw[z,h1] at h2;cases h2
 exact⟨⟨zN,kvs,by rw[zu dp];exact h2,h3.keep (z6.ins h1 _)⟩,Kp.of_but h λb u hb _ e=>by rw[zu hb];exact e⟩
theorem Pot.app{p d:Addr}{ys:List V}(h:Pot K t H p dx d s)(e:H l=some (.lst xs)):Pot K t (upd H l (.lst ys)) p dx d s:=by
 obtain⟨h1,kvs,h2,h3⟩:=h;refine⟨by rw[zu (λz=>by rw[z,e] at h1;cases h1)];exact h1,kvs,by rw[zu (λz=>by rw[z,e] at h2;cases h2)];exact h2,h3.keep λq zs g=> ?_⟩;rw[zu (λz=>by rw[z,e] at g;cases g)];exact g
theorem jT{H1:Hp}{l0:Addr}{z:Ln}(k:Kp H0 H1)(fr:Fr H0 l0)(e:H1 l0=some (.lst (ws.map λw=>V.ref w.1)))(la:yo H1 ws)(er:H1 r=some (.tup (LnV z))):Kp H0 (upd H1 l0 (.lst ((ws.map λw=>V.ref w.1)++ [.ref r])))/\(upd H1 l0 (.lst ((ws.map λw=>V.ref w.1)++ [.ref r]))) l0=some (.lst ((ws++ [(r,z)]).map λw=>V.ref w.1))/\yo (upd H1 l0 (.lst ((ws.map λw=>V.ref w.1)++ [.ref r]))) (ws++ [(r,z)]):=by
 refine⟨k.put fr,by rw[zN,Jd];rfl,λw hw=> ?_⟩;have g:H1 w.1=some (.tup (LnV w.2)):=by
  rcases Jr.mp hw with q|q
  ·exact la w q
  ·rw[Jm.mp q];exact er
 rw[zu (λq=>by rw[q,e] at g;cases g)];exact g
theorem zjd{H1:Hp}{l0 l1:Addr}{vs:List (Addr×Ln)}(k:Kp H0 H1)(fr:Fr H0 l0)(e:H1 l0=some (.lst (ws.map λw=>V.ref w.1)))(la:yo H1 ws)(lb:yo H1 vs):Kp H0 (upd H1 l0 (.lst ((ws.map λw=>V.ref w.1)++vs.map λw=>V.ref w.1)))/\(upd H1 l0 (.lst ((ws.map λw=>V.ref w.1)++vs.map λw=>V.ref w.1))) l0=some (.lst ((ws++vs).map λw=>V.ref w.1))/\yo (upd H1 l0 (.lst ((ws.map λw=>V.ref w.1)++vs.map λw=>V.ref w.1))) (ws++vs):=by
 refine⟨k.put fr,by rw[zN,Jd],λw hw=> ?_⟩;have g:H1 w.1=some (.tup (LnV w.2)):=by
  rcases Jr.mp hw with q|q
  ·exact la w q
  ·exact lb w q
 rw[zu (λq=>by rw[q,e] at g;cases g)];exact g
theorem zok(ys:List En)(day:Int):inV (V.int day) ((ys.map λz=>z.2.2.1).map V.int)=ys.any λz=>decide (z.2.2.1=day):=by
 unfold inV;rw[List.map_map,List.any_map];rfl
theorem zgF: ∀zs:List Int,(zs.map V.int).all xu=true
 | []=>rfl
 |_::r=>by rw[JA,List.all_cons,zgF r];rfl
def zqu(K:Fg):Sp:=λvs H Q _=> ∃(le:Addr) (ys:List En),vs= [.ref le]/\SqL K H le (ys.map (·.1))/\yI K H ys/\ys.length<=40/\ ∀r H',H r=none->zh H H'->H' r=some (.lst ((ys.map λz=>z.2.2.1).map V.int))->Q (.ref r) H'
theorem sc_0u:FnScope ["entries"] ["entries"] (zC s_0u):=by sl_open
theorem ok_0u(T:Txt w K mg t):FnOk P w K mg base (CXE P w) 1 t.a_0u t.d_0u ["entries"] (zqu K):=by
 refine T.F_0u.fn.okX sc_0u ?_ λcdv A outer s H vs Q E L hr h=> ?_
 ·kdl_open
 refine opq λ_ kq=> ?_;obtain⟨le,ys,rfl,hS,hE,y40,q⟩:=h;apply kq;have nd:=sc_0u.nd;refine⟨_,(zk (zB (qG (n:=1) (N:= ["entry"]) (js:= []) (by rfl) rfl rfl (qb (pvJ 0)) (λa=>(zq (i:=0) (show List.Nodup (["entry"]:List Str) from by decide+kernel) rfl (Or.inl rfl))) (λa=>qM) (λa=>(ixJ zH (pvJ 0) zc))))),?_⟩
 (open_k0;repeat (dsimp only[qk,yr];open_k0))
 refine⟨⟨_,hS⟩,λl hl aa=> ?_⟩;refine qr (λj xs _=>xs=((ys.take j).map λz=>z.2.2.1).map V.int) (qV hS) hl (by rw[Ja];exact qy 'o') (λ_ _=>rfl) (λj y xs H1 K1 K0 hxx sm pv hl1 k1 k0=> ?_) (λxs H1 s1 pv _ w1=> ?_)
 ·rw[Jh] at hxx;refine opq λ_ kq=> ?_;obtain⟨z,hz,rfl⟩:=Jk.mp hxx;obtain⟨pe,e1,e2,_⟩:=hE z (Ji hz);apply kq;open_k0;rw[e1];refine ixT (sm.sqT e2) (yx _ _) (k1 _ _ (zh.refl _) λH2 _=> ?_);rw[pv,JH,hz,Jd,Jd];rfl
 ·rw[Ja,JC] at pv;subst pv;exact q l H1 hl s1 w1
def zqv(K:Fg)(t:Adr):Sp:=λvs H Q _=> ∃(p dx d:Addr) (s:Pt) (day k a:Int),vs= [.ref p, .int day, .int k, .int a]/\Pot K t H p dx d s/\s.2.2.length<=500/\ ∀r H',Pot K t H' p dx d (qC s k a)->Kp H H'->H' r=some (.tup (LnV (xc s day k a)))->Q (.ref r) H'
theorem sc_0x:FnScope ["pots","day","k","amount","given","own"] ["pots","day","k","amount"] (zC s_0x):=by sl_open
theorem ok_0x(T:Txt w K mg t):FnOk P w K mg base (CXE P w) 3 t.a_0x t.d_0x ["pots","day","k","amount"] (zqv K t):=by
 refine T.F_0x.fn.okX sc_0x ?_ λcdv A outer s H vs Q E L hr h=> ?_
 ·kdl_open
 refine opq λ_ kq=> ?_;obtain⟨p,dx,d,s0,day,k,a,rfl,⟨hp,kvs,hd,hr0⟩,hl,q⟩:=h;apply kq;have nd:=sc_0x.nd;refine⟨_,(zj (yv (vp (pvJ 0) T.cs_Z07 T.me_1n (ok_1n T) (hr.mono 'd') T.b_1n .nil xZ (zb (pvJ 2) (zb (pvJ 3) zd ze) ze)) (z7 (n:=2) rfl (zD (zq (i:=4) nd rfl (Or.inl rfl)) (zD (zq (i:=5) nd rfl (Or.inl rfl)) yD)))) (zk (zB (zW (zb (pvJ 1) (zb (zZ st_15) (zb (pvJ 2) (zb (v7 uu (pvJ 3)) (zb (v7 uu (pvJ 4)) (zb (v7 uu (pvJ 5)) (zb zc zd zE)))) ze) zE) ze))))),?_⟩;open_k0;refine⟨_,_,hp,vk _ _ _ 'd' 'd' 'd',p,dx,d,s0.1,s0.2.1,k,a,kvs,s0.2.2,rfl,hp,hd,hr0,hl,λy r H1 kvs' hy er ep ed rw1 fr kt=> ?_⟩;refine⟨r,_,rfl,SqT.of er,rfl,?_⟩;open_k0;intro r2 H2 _ s2 e2;have ey:y=gvY s0 k a:=hy;subst ey;exact q r2 H2 ⟨s2 _ _ ep,kvs',s2 _ _ ed,rw1.keep (z6.of_same s2)⟩ ((Kp.of_but ⟨hp,kvs,hd,hr0⟩ fr).trans (Kp.of_same s2)) e2
def zqw(K:Fg)(t:Adr):Sp:=λvs H Q _=> ∃(p dx d:Addr) (s:Pt) (day:Int) (w:List Nat) (k a:Int),vs= [.ref p, .int day, .str (SL w), .int k, .int a]/\Pot K t H p dx d s/\s.2.2.length<=500/\ ∀r H',Pot K t H' p dx d (yq s k a)->Kp H H'->H' r=some (.tup (LnV (yE s day w k a)))->Q (.ref r) H'
theorem sc_0y:FnScope ["pots","day","kind","k","amount","given","own","paid"] ["pots","day","kind","k","amount"] (zC s_0y):=by sl_open
theorem ok_0y(T:Txt w K mg t):FnOk P w K mg base (CXE P w) 3 t.a_0y t.d_0y ["pots","day","kind","k","amount"] (zqw K t):=by
 refine T.F_0y.fn.okX sc_0y ?_ λcdv A outer s H vs Q E L hr h=> ?_
 ·kdl_open
 refine opq λ_ kq=> ?_;obtain⟨p,dx,d,s0,day,wd,k,a,rfl,⟨hp,kvs,hd,hr0⟩,hl,q⟩:=h;apply kq;have nd:=sc_0y.nd;refine⟨_,(zj (yv (vp (pvJ 0) T.cs_Z07 T.me_1m (ok_1m T) (hr.mono 'd') T.b_1m .nil xZ (zb (pvJ 3) (zb (pvJ 4) zd ze) ze)) (z7 (n:=3) rfl (zD (zq (i:=5) nd rfl (Or.inl rfl)) (zD (zq (i:=6) nd rfl (Or.inl rfl)) (zD (zq (i:=7) nd rfl (Or.inl rfl)) yD))))) (zk (zB (zW (zb (pvJ 1) (zb (pvJ 2) (zb (pvJ 3) (zb (pvJ 4) (zb (pvJ 5) (zb (pvJ 6) (zb (pvJ 7) zd ze) ze) ze) ze) ze) ze) ze))))),?_⟩;open_k0;refine⟨_,_,hp,vk _ _ _ 'd' 'd' 'd',p,dx,d,s0.1,s0.2.1,k,a,kvs,s0.2.2,rfl,hp,hd,hr0,hl,λx y r H1 kvs' hx hy er ep ed rw1 fr kt=> ?_⟩;refine⟨r,_,rfl,SqT.of er,rfl,?_⟩;open_k0;intro r2 H2 _ s2 e2;have ex:x=tkX s0 a:=hx;subst ex;have ey:y=tkY s0 a:=hy;subst ey;exact q r2 H2 ⟨s2 _ _ ep,kvs',s2 _ _ ed,rw1.keep (z6.of_same s2)⟩ ((Kp.of_but ⟨hp,kvs,hd,hr0⟩ fr).trans (Kp.of_same s2)) e2
def zqx(K:Fg)(t:Adr):Sp:=λvs H Q E=> ∃(pa le l:Addr) (f:Int) (dy:Bool) (c day:Int) (ys:List En),vs= [.ref pa, .ref le, .int day]/\qu K H pa l f dy c/\SqL K H le (ys.map (·.1))/\yI K H ys/\ys.length<=40/\(f<=day->day<Cal.beg f dy c 60-> ∀r (ws:List Int) H',zh H H'->H' r=some (.lst (ws.map V.int))->ws.Pairwise (· < ·)->(∀x,x∈ws↔(∃j:Nat,j<60/\Cal.beg f dy c j<=day/\x=Cal.beg f dy c j)\/ ∃z∈ys,z.2.2.1=x/\x<=day)->ws.length<=100->Q (.ref r) H')/\(day<f-> ∀H',zh H H'->E (.ref t.c_Z06) none H')/\(Cal.beg f dy c 60<=day-> ∀H',zh H H'->E (.ref t.c_Z0c) none H')
theorem sc_0v:FnScope ["account","entries","day","k","begin","end","begins"] ["account","entries","day"] (zC s_0v):=by sl_open
theorem ok_0v(T:Txt w K mg t):FnOk P w K mg base (CXE P w) 8 t.a_0v t.d_0v ["account","entries","day"] (zqx K t):=by
 refine T.F_0v.fn.okX sc_0v ?_ λcdv A outer s H vs Q E L hr h=> ?_
 ·kdl_open
 refine opq λ_ kq=> ?_;obtain⟨pa,le,l,f,dy,c,day,ys,rfl,ha,hS,hE,y40,q1,q2,q3⟩:=h;apply kq;have nd:=sc_0v.nd;refine⟨_,(zj (yv (peD L.toLv (ok_0b T) hr T.F_0b (zb (pvJ 0) (zb (pvJ 2) zd ze) ze)) (z7 (n:=3) rfl (zD (zq (i:=3) nd rfl (Or.inl rfl)) (zD (zq (i:=4) nd rfl (Or.inl rfl)) (zD (zq (i:=5) nd rfl (Or.inl rfl)) yD))))) (zj (ue (i:=6) nd rfl rfl (n:=1) (N:= ["number","account"]) (js:= [0]) (by rfl) rfl rfl (xR (by rfl) T.no_range (zb (zg zI (pvJ 3) zc) zd)) (λa=>(zq (i:=0) (show List.Nodup (["number","account"]:List Str) from by decide+kernel) rfl (Or.inl rfl))) (λa=>qM) (λa=>(ixJ zH (peD vv (ok_0a T) hr T.F_0a (zb (pvJ 1) (zb (pvJ 0) zd ze) ze)) zc))) (zk (zB (zY (zdI (w:=w) rfl (by rfl)) (by rfl) T.no_sorted uT (zb (xJ (zfs (w:=w) (K:=K) rfl rfl (by rfl)) (by rfl) T.no_set zl5 (zb (zg zjr (pvJ 6) (qG (n:=1) (N:= ["entered","day"]) (js:= [2]) (by rfl) rfl rfl (qb (peD L.toLv (ok_0u T) hr T.F_0u (zb (pvJ 1) zd))) (λa=>(zq (i:=0) (show List.Nodup (["entered","day"]:List Str) from by decide+kernel) rfl (Or.inl rfl))) (λa=>(vw (qB ziV (pvJ 0) (pvJ 1) (yF _)))) (λa=>(pvJ 0)))) zd)) zd)))))),?_⟩;open_k0;refine gq λ_ kq=>⟨pa,l,f,dy,c,day,rfl,ha,λk k0 k1 a b p1 H1 s1 e1=>kq _ _ ?_,q2,q3⟩
 obtain⟨f0,f1,hc⟩:=ha.cyc;refine⟨p1,_,rfl,SqT.of e1,rfl,?_⟩
 (open_k0;repeat (dsimp only[qk,yZ,yr];open_k0))
 refine⟨'o','o',λlb hlb aa=> ?_⟩;refine qr (λj xs _=>xs=((List.range j).map λi:Nat=>Cal.beg f dy c i).map V.int) (uS 0 _ H1) hlb (by rw[qH];exact qy 'o') (λ_ _=>rfl) (λj y xs H2 K1 K0 hxx sm pv hl kk k0'=> ?_) (λxs H2 s2 pv _ w2=> ?_)
 ·have hj:=(Jc.mp hxx).1;rw[qH] at hj;rw[uf hj] at hxx;cases hxx;open_k0;refine gq λ_ kq=>⟨pa,l,f,dy,c,_,rfl,ha.same (s1.trans sm),λ_ _ p3 H3 s3 e3=>kq _ _ ?_,λz=>absurd z 'o',λz=>absurd z 'o'⟩
  refine ixT (SqT.of e3) (yx _ _) (kk _ _ s3 λH4 _=> ?_);rw[pv,JQ,Jd,Jd,JS];rfl
 rw[qH] at pv;subst pv;have s02:=s1.trans s2;refine⟨le,ys,rfl,s02.seq hS,hE.same s02,y40,λr3 H3 hr3 s3 e3=>⟨r3,rfl,⟨_,SqL.of e3⟩,λl4 hl4 ab=> ?_⟩⟩;refine qr (λj xs _=>xs=(((ys.take j).map λz=>z.2.2.1).filter λx=>decide (x<=day)).map V.int) (qV (SqL.of e3)) hl4 (by rw[Ja,Ja];exact qy 'o') (λ_ _=>rfl) (λj y xs H4 K1 K0 hxx sm pv hl kk k0'=> ?_) (λxs H4 s4 pv _ w4=> ?_)
 ·rw[Jh,Jh] at hxx;refine opq λ_ kq=> ?_;obtain⟨x,hx,rfl⟩:=Jk.mp hxx;obtain⟨z,hz,rfl⟩:=Jk.mp hx;apply kq;have nx:((ys.take (j+1)).map λz=>z.2.2.1).filter (λx=>decide (x<=day))=((ys.take j).map λz=>z.2.2.1).filter (λx=>decide (x<=day))++(if z.2.2.1<=day then [z.2.2.1] else []):=by
   rw[JH,hz,Jd,JT];congr 1;by_cases g:z.2.2.1<=day
   ·simp [g]
   ·simp [g]
  open_k0;by_cases g:z.2.2.1<=day
  ·rw[Jg g] at nx ⊢;exact kk _ _ (zh.refl _) λH5 _=>by rw[pv,nx,Jd];rfl
  ·rw[Jf g] at nx ⊢;exact k0' _ (zh.refl _) (by rw[pv,nx,Jt])
 rw[Ja,Ja,JC] at pv;subst pv;have wb:=(s3.trans s4) _ _ w2;refine⟨lb,l4,_,_,rfl,rfl,wb,w4,?_,λl5 H5 _ s5 e5=> ?_⟩
 ·have:=List.length_filter_le (λx=>decide (x<=day)) (ys.map λz=>z.2.2.1);rw[Ja] at this;refine qX ?_;rw[Ja,Ja,Ja,JI];omega
 rw[<-Jd] at e5;generalize hzs:((List.range (k+1).toNat).map λi:Nat=>Cal.beg f dy c i)++(ys.map λz=>z.2.2.1).filter (λx=>decide (x<=day))=zs at e5;have zl:zs.length<=100:=by
  have:=List.length_filter_le (λx=>decide (x<=day)) (ys.map λz=>z.2.2.1);rw[Ja] at this;rw[<-hzs,Jj,Ja,JI];omega
 have zm: ∀x,x∈zs↔(∃j:Nat,j<60/\Cal.beg f dy c j<=day/\x=Cal.beg f dy c j)\/ ∃z∈ys,z.2.2.1=x/\x<=day:=λx=>by
  rw[<-hzs,Jr,Jw,List.mem_filter,Jw];refine or_congr ⟨λ⟨j,hj,e⟩=> ?_,λ⟨j,hj,hb,e⟩=> ?_⟩ ⟨λ⟨⟨z,hz,e⟩,g⟩=>⟨z,hz,e,by simpa using g⟩,λ⟨z,hz,e,g⟩=>⟨⟨z,hz,e⟩,by simpa using g⟩⟩
  ·have:=List.mem_range.mp hj;exact⟨j,'o',Int.le_trans (Cal.beg_le f0 f1 hc 'o' (show (j:Int)<=k by omega) 'o') a,e.symm⟩
  ·refine⟨j,List.mem_range.mpr ?_,e.symm⟩
   have:(j:Int)<=k:=by
    rcases (by omega:k<j\/(j:Int)<=k) with q|q
    ·have:=Cal.beg_le f0 f1 hc (show 0<=k+1 by omega) (show k+1<=(j:Int) by omega) 'o';omega
    ·exact q
   omega
 refine⟨l5,rfl,zs,SqL.of e5,'o',λq6 H6 _ s6 e6=>⟨_,e6,?_,λws wp wo=>λr7 H7 _ s7 e7=> ?_⟩⟩
 ·exact JE (Se.met_len _ _) 'o'
 have wn:ws.Nodup:=(wp.nodup_iff).mpr (zfq zs);refine q1 ?_ ?_ r7 ws H7 (s02.trans (s3.trans (s4.trans (s5.trans (s6.trans s7))))) e7 ?_ (λx=> ?_) ?_
 ·have:=Cal.beg_ge (k:=k) f0 f1 hc k0 'o';omega
 ·have:=Cal.beg_le f0 f1 hc (show 0<=k+1 by omega) (show k+1<=60 by omega) 'o';omega
 ·refine(List.Pairwise.and wo wn).imp λh=> ?_;omega
 ·rw[wp.mem_iff,zhX];exact zm x
 ·rw[wp.length_eq];exact JE (Se.met_len _ _) 'o'
def zij(K:Fg)(t:Adr):Sp:=λvs H Q _=> ∃(p dx d le:Addr) (s:Pt) (day:Int) (ys:List En),vs= [.ref p, .ref le, .int day]/\Pot K t H p dx d s/\SqL K H le (ys.map (·.1))/\le≠p/\le≠d/\yI K H ys/\ys.length<=40/\ ∀r (ws:List (Addr×Ln)) H',Fr H r->Pot K t H' p dx d (s.1+zF day ys,s.2)->Kp H H'->H' r=some (.lst (ws.map λw=>V.ref w.1))->yo H' ws->ws.map (·.2)=zX day 0 ys->Q (.ref r) H'
theorem sc_0w:FnScope ["pots","entries","day","lines","number","entry","entered","change"] ["pots","entries","day"] (zC s_0w):=by sl_open
theorem ok_0w(T:Txt w K mg t):FnOk P w K mg base (CXE P w) 2 t.a_0w t.d_0w ["pots","entries","day"] (zij K t):=by
 refine T.F_0w.fn.okX sc_0w ?_ λcdv A outer s H vs Q E L hr h=> ?_
 ·kdl_open
 refine opq λ_ kq=> ?_;obtain⟨p,dx,d,le,s0,day,ys,rfl,hP,hS,n1,n2,hE,y40,q⟩:=h;apply kq;have nd:=sc_0w.nd;refine⟨_,(zj (psJ 3 nd (yi zd)) (zj (qj (by passes_own) rfl (uq (by rfl) T.no_enumerate (zb (pvJ 1) zd)) (z7 (n:=2) rfl (yR (zq (i:=4) nd rfl (Or.inl rfl)) (yR (zq (i:=5) nd rfl (Or.inl rfl)) xF))) (zj (yv (pvJ 5) (z7 (n:=2) rfl (zD (zq (i:=6) nd rfl (Or.inl rfl)) (zD (zq (i:=7) nd rfl (Or.inl rfl)) yD)))) (zk (zP (PWQ.pq (wL (qg (pvJ 6) (pvJ 2)) (wK (qg (ixJ zH (pvJ 7) zc) (zZ st_14))))) (zj (qe (vp (pvJ 0) T.cs_Z07 T.me_1l (ok_1l T) (hr.mono 'd') T.b_1l .nil xZ (zb (ixJ zH (pvJ 7) zc) zd))) (zk (qe (qw PySem.F.plainAttrs_list PySem.F.slot_list_append PySem.F.type_list_append qT (pvJ 3) (zb (zW (zb (pvJ 2) (zb (zZ st_14) (zb (pvJ 4) (zb (ixJ zH (pvJ 7) zc) (zb zc (zb zc (zb zc zd zE) zE) zE) yH) ze) zE) ze)) zd))))) zQ)))) (zk (zB (pvJ 3))))),?_⟩;open_k0;intro l0 H1 hl0 s1 e1
 ((try dsimp only);refine qq λR hR=> ?_;(open_k0;repeat (dsimp only[yr,qt,yZ,qm];open_k0)))
 refine⟨⟨_,s1.seq hS⟩,hR _ _ ?_⟩;clear hR;have k1:=Kp.of_same s1;have fr0:Fr H l0:=λu e=>by rw[e] at hl0;cases hl0
 obtain⟨Pv,hPv⟩: ∃Pv:Nat->St->Hp->Prop,Pv=λi σ1 H2=> ∃(ws:List (Addr×Ln)) (x4 x5 x6 x7:Option V),Pot K t H2 p dx d (s0.1+zF day (ys.take i),s0.2)/\Kp H H2/\H2 l0=some (.lst (ws.map λw=>V.ref w.1))/\yo H2 ws/\ws.map (·.2)=zX day 0 (ys.take i)/\σ1= [some (.ref p),some (.ref le),some (.int day),some (.ref l0),x4,x5,x6,x7]:=⟨_,rfl⟩
 refine u8 (xs:=ys.map (·.1)) Pv (by rw[hPv];exact⟨[],_,_,_,_,by rw[List.take_zero];show Pot K t H1 p dx d (s0.1+0,s0.2);rw[JJ];exact hP.same s1,k1,e1,(List.forall_mem_nil _),rfl,rfl⟩) (λi σ1 H2 _ h=>by rw[hPv] at h;obtain⟨_,_,_,_,_,_,k,_⟩:=h;exact k.sqL hS) (λi σ1 H2 H3 h s=>by rw[hPv] at h ⊢;obtain⟨ws,x4,x5,x6,x7,hp,k,e,la,lm,r⟩:=h;exact⟨ws,x4,x5,x6,x7,hp.same s,k.trans (Kp.of_same s),s _ _ e,la.keep (Kp.of_same s),lm,r⟩) (λi x σ1 H2 hx h=> ?_) (λσ1 H2 h=> ?_)
 ·rw[hPv] at h;refine opq λ_ kq=> ?_;obtain⟨ws,x4,x5,x6,x7,hp2,k2,e2,la,lm,rfl⟩:=h;rw[Jh] at hx;obtain⟨z,hz,rfl⟩:=Jk.mp hx;obtain⟨pe,ee,q1,q2⟩:=(k2.ens hE) z (Ji hz);apply kq;have hi:=(Jc.mp hz).1;rw[ee];open_k0;refine⟨pe,_,rfl,q1,rfl,?_⟩;open_k0;obtain⟨gF,gA⟩:=zi3 (day:=day) hz;have stay:zX day 0 (ys.take (i+1))=zX day 0 (ys.take i)->zF day (ys.take (i+1))=zF day (ys.take i)-> ∀H3,zh H2 H3->Pv (i+1) [some (V.ref p),some (V.ref le),some (V.int day),some (V.ref l0),some (V.int i),some (V.ref pe),some (V.int z.2.2.1),some (V.ref z.2.1)] H3:=λg1 g2 H3 s3=>by
   rw[hPv];exact⟨ws,_,_,_,_,by rw[g2];exact hp2.same s3,k2.trans (Kp.of_same s3),s3 _ _ e2,la.keep (Kp.of_same s3),by rw[g1];exact lm,rfl⟩
  by_cases hd:z.2.2.1=day
  ·rw[Jg hd];generalize hc:z.2.2.2=ch at q2 gF gA;cases ch with
   |plan a b=>exact ixT (show SqT K H2 z.2.1 (V.str (SL _)::_) from q2) (yx _ _) ⟨rfl,yg (qc 'd') (stay (by rw[gF];exact Jt _) (by rw[gA];exact JJ _) H2 (zh.refl _))⟩
   |seats a b=>exact ixT (show SqT K H2 z.2.1 (V.str (SL _)::_) from q2) (yx _ _) ⟨rfl,yg (qc 'd') (stay (by rw[gF];exact Jt _) (by rw[gA];exact JJ _) H2 (zh.refl _))⟩
   |word a b=>exact ixT (show SqT K H2 z.2.1 (V.str (SL _)::_) from q2) (yx _ _) ⟨rfl,yg (qc (λz=>absurd ((zfO a).1) (by rw[z];decide))) (stay (by rw[gF];exact Jt _) (by rw[gA];exact JJ _) H2 (zh.refl _))⟩
   |undo a=>exact ixT (show SqT K H2 z.2.1 (V.str (SL _)::_) from q2) (yx _ _) ⟨rfl,yg (qc 'd') (stay (by rw[gF];exact Jt _) (by rw[gA];exact JJ _) H2 (zh.refl _))⟩
   |back=>exact ixT (show SqT K H2 z.2.1 (V.str (SL _)::_) from q2) (yx _ _) ⟨rfl,yg (qc 'd') (stay (by rw[gF];exact Jt _) (by rw[gA];exact JJ _) H2 (zh.refl _))⟩
   |grant a=>
    have q2':SqT K H2 z.2.1 [.str (SL [103,114,97,110,116]), .int a]:=q2;refine ixT q2' (yx _ _) ⟨rfl,xW rfl ⟨_,_,hp2.1,vk _ _ _ 'd' 'd' 'd',ixT q2' (y8 _ _ _) ⟨p,dx,d,a,_,_,rfl,hp2.1,?_⟩⟩⟩;obtain⟨P3,k3⟩:=hp2.put (s0.1+zF day (ys.take i)+a) s0.2.1
    (open_k0;repeat (dsimp only[tBM];open_k0))
    generalize upd H2 p _=H3 at P3 k3 ⊢;have e3:=k3.lst e2;refine⟨.inl ⟨rfl,_,SqL.of e3⟩,ixT (k3.sqT q2') (y8 _ _ _) λr4 H4 _ s4 e4=> ?_⟩;have wl:ws.length<=40:=by
     have:=congrArg List.length lm;rw[Ja] at this;rw[this];exact JE (ux day _ 0) (by rw[JB];omega)
    refine⟨l0,_,_,rfl,rfl,s4 _ _ e3,by rw[Ja];exact xl 'o',?_⟩;obtain⟨a1,a2,a3⟩:=jT (z:=(day,qh,(i:Int),a,0,0,0)) ((k2.trans k3).trans (Kp.of_same s4)) fr0 (s4 _ _ e3) (la.keep (k3.trans (Kp.of_same s4))) e4;rw[hPv];refine⟨_,_,_,_,_,?_,a1,a2,a3,by rw[Jd,lm,gF];simp only[hd,if_true];rfl,rfl⟩;have P5:=(P3.same s4).app (ys:=(ws.map λw=>V.ref w.1)++ [.ref r4]) (s4 _ _ e3);rw[gA];simp only[hd,if_true];rw[<-Int.add_assoc];exact P5
  ·rw[Jf hd];refine stay ?_ ?_ H2 (zh.refl _)
   ·rw[gF];cases z.2.2.2<;>simp [hd]
   ·rw[gA];cases z.2.2.2<;>simp [hd]
 ·rw[hPv] at h;refine opq λ_ kq=> ?_;obtain⟨ws,x4,x5,x6,x7,hp2,k2,e2,la,lm,rfl⟩:=h;apply kq;open_k0;rw[Ja,JC] at hp2 lm;exact q l0 ws H2 fr0 hp2 k2 e2 la lm
def zj3(K:Fg)(t:Adr):Sp:=λvs H Q _=> ∃(p dx d lc:Addr) (s:Pt) (day:Int) (cs:List Int),vs= [.ref p, .int day, .ref lc]/\Pot K t H p dx d s/\SqL K H lc (cs.map V.int)/\cs.length<=60/\s.2.2.length<=100/\ ∀r (ws:List (Addr×Ln)) H',Fr H r->Pot K t H' p dx d (yG day cs s).2->Kp H H'->H' r=some (.lst (ws.map λw=>V.ref w.1))->yo H' ws->ws.map (·.2)=(yG day cs s).1->Q (.ref r) H'
theorem sc_0z:FnScope ["pots","day","costs","more","lines","k","amount"] ["pots","day","costs"] (zC s_0z):=by sl_open
theorem ok_0z(T:Txt w K mg t):FnOk P w K mg base (CXE P w) 4 t.a_0z t.d_0z ["pots","day","costs"] (zj3 K t):=by
 refine T.F_0z.fn.okX sc_0z ?_ λcdv A outer s H vs Q E L hr h=> ?_
 ·kdl_open
 refine opq λ_ kq=> ?_;obtain⟨p,dx,d,lc,s0,day,cs,rfl,hP,hS,c60,t100,q⟩:=h;apply kq;have nd:=sc_0z.nd;refine⟨_,(zj (ue (i:=3) nd rfl rfl (n:=2) (N:= ["k","cost","pots"]) (js:= [0]) (by rfl) rfl rfl (uq (by rfl) T.no_enumerate (zb (pvJ 2) zd)) (λa=>(z7 (n:=2) rfl (yR (zq (i:=0) (show List.Nodup (["k","cost","pots"]:List Str) from by decide+kernel) rfl (Or.inl rfl)) (yR (zq (i:=1) (show List.Nodup (["k","cost","pots"]:List Str) from by decide+kernel) rfl (Or.inl rfl)) xF)))) (λa=>qM) (λa=>(zg yj (pvJ 1) (zY (zkz (by rfl)) (by rfl) T.no_sum xT (zb (vp (pvJ 2) T.cs_Z07 T.me_1p (ok_1p T) (hr.mono 'd') T.b_1p .nil xZ (zb (pvJ 0) zd)) zd))))) (zj (psJ 4 nd (yi zd)) (zj (qj (by passes_own) rfl (uq (by rfl) T.no_enumerate (zb (pvJ 3) zd)) (z7 (n:=2) rfl (yR (zq (i:=5) nd rfl (Or.inl rfl)) (yR (zq (i:=6) nd rfl (Or.inl rfl)) xF))) (zk (zP (yu qo (pvJ 6) zc) (zk (qe (qw PySem.F.plainAttrs_list PySem.F.slot_list_append PySem.F.type_list_append qT (pvJ 4) (zb (peD L.toLv (ok_0x T) hr T.F_0x (zb (pvJ 0) (zb (pvJ 1) (zb (pvJ 5) (zb (v7 uu (pvJ 6)) zd) ze) ze) ze)) zd)))) zQ))) (zj (qj (by passes_own) rfl (uq (by rfl) T.no_enumerate (zb (pvJ 3) zd)) (z7 (n:=2) rfl (yR (zq (i:=5) nd rfl (Or.inl rfl)) (yR (zq (i:=6) nd rfl (Or.inl rfl)) xF))) (zk (zP (yu xt (pvJ 6) zc) (zk (qe (qw PySem.F.plainAttrs_list PySem.F.slot_list_append PySem.F.type_list_append qT (pvJ 4) (zb (peD L.toLv (ok_0y T) hr T.F_0y (zb (pvJ 0) (zb (pvJ 1) (zb (zZ st_15) (zb (pvJ 5) (zb (pvJ 6) zd ze) ze) zE) ze) ze)) zd)))) zQ))) (zk (zB (pvJ 4))))))),?_⟩
 (open_k0;repeat (dsimp only[qk,qt];open_k0))
 refine⟨⟨_,hS⟩,λlm hlm aa=> ?_⟩;refine zky (λi xs=>xs=((zU s0 cs).take i).map λz=>V.int z.2) hS hlm (by rw[Ja];exact qy 'o') (λv w=>by open_k0) rfl (λi x xs H1 K1 hx sm pv kk=> ?_) (λxs H1 s1 pv w1=> ?_)
 ·rw[Jh] at hx;obtain⟨cv,hcv,rfl⟩:=Jk.mp hx;open_k0;refine opq λ_ kq=> ?_;obtain⟨g1,kvs,g2,g3⟩:=hP.same sm;apply kq;refine⟨_,_,g1,vk _ _ _ 'd' 'd' 'd',p,dx,d,_,_,_,kvs,_,rfl,g1,g2,g3,λr H2 s2 e2=>⟨r,rfl, [_,_],SqT.of e2,kk _ _ s2 ?_⟩⟩;rw[pv,JH,zmp hcv,Jd];show _++ [_]=_++ [_];congr 3;show cv - ((zr s0.2.2 i).1+((zr s0.2.2 i).2+0))=_;rw[JJ]
 rw[Ja,<-vN s0 cs,JC] at pv;subst pv;have dl:=vN s0 cs;have df: ∀(i:Nat) (z:Int×Int),(zU s0 cs)[i]? =some z->z.1=i:=λi z=>zjO;have eF:yG day cs s0=((zG day (zU s0 cs) s0).1++(zM day (zU s0 cs) (zG day (zU s0 cs) s0).2).1,(zM day (zU s0 cs) (zG day (zU s0 cs) s0).2).2):=rfl;rw[eF] at q;clear eF;generalize zU s0 cs=Ds at w1 dl df q;intro l0 H2 hl0 s2 e2;have fr1:Fr H1 l0:=λu e=>by rw[e] at hl0;cases hl0
 have wm:=s2 _ _ w1;have k1:=Kp.of_same s1
 ((try dsimp only);refine qq λR hR=> ?_;(open_k0;repeat (dsimp only[yr,qt,yZ,qm];open_k0)))
 refine⟨⟨_,SqL.of wm⟩,hR _ _ ?_⟩;clear hR;obtain⟨Pv,hPv⟩: ∃Pv:Nat->St->Hp->Prop,Pv=λi σ1 H3=> ∃(ws:List (Addr×Ln)) (x5 x6:Option V),Pot K t H3 p dx d (zG day (Ds.take i) s0).2/\Kp H1 H3/\H3 l0=some (.lst (ws.map λw=>V.ref w.1))/\yo H3 ws/\ws.map (·.2)=(zG day (Ds.take i) s0).1/\σ1= [some (.ref p),some (.int day),some (.ref lc),some (.ref lm),some (.ref l0),x5,x6]:=⟨_,rfl⟩
 refine u8 (xs:=Ds.map λz=>V.int z.2) Pv (by rw[hPv];exact⟨[],_,_,hP.same (s1.trans s2),Kp.of_same s2,e2,(List.forall_mem_nil _),rfl,rfl⟩) (λi σ1 H2 _ h=>by rw[hPv] at h;obtain⟨_,_,_,_,k,_⟩:=h;exact k.sqL (SqL.of w1)) (λi σ1 H2 H3 h s=>by rw[hPv] at h ⊢;obtain⟨ws,x5,x6,hp,k,e,la,lm,r⟩:=h;exact⟨ws,x5,x6,hp.same s,k.trans (Kp.of_same s),s _ _ e,la.keep (Kp.of_same s),lm,r⟩) (λi x σ1 H3 hx h=> ?_) (λσ1 H3 h=> ?_)
 ·rw[hPv] at h;refine opq λ_ kq=> ?_;obtain⟨ws,x5,x6,hp3,k3,e3,la,lms,rfl⟩:=h;rw[Jh] at hx;obtain⟨z,hz,rfl⟩:=Jk.mp hx;apply kq;have nx:=zkH (day:=day) (s:=s0) hz;have hi:=(Jc.mp hz).1;have ln:=vO day (Ds.take i) s0;rw[JB] at ln;have wl:=congrArg List.length lms;rw[Ja] at wl;rw[df i z hz] at nx
  (open_k0;repeat (dsimp only[tBM];open_k0))
  by_cases g:z.2<0
  ·rw[Jg g] at nx ⊢;refine⟨.inl ⟨rfl,_,SqL.of e3⟩,p,dx,d,_,day,_,_,rfl,hp3,'o',λr4 H4 hp4 k4 e4=> ?_⟩;refine⟨l0,_,_,rfl,rfl,k4.lst e3,by rw[Ja];exact xl 'o',?_⟩;obtain⟨a1,a2,a3⟩:=jT (k3.trans k4) fr1 (k4.lst e3) (la.keep k4) e4;rw[hPv];exact⟨_,_,_,by rw[nx];exact hp4.app (k4.lst e3),a1,a2,a3,by rw[Jd,lms,nx];rfl,rfl⟩
  ·rw[Jf g] at nx ⊢;rw[hPv];exact⟨ws,_,_,by rw[nx];exact hp3,k3,e3,la,by rw[nx];exact lms,rfl⟩
 rw[hPv] at h;refine opq λ_ kq=> ?_;obtain⟨ws,x5,x6,hp3,k3,e3,la,lms,rfl⟩:=h;apply kq;clear hPv;rw[Ja,JC] at hp3 lms;have ln3:=vO day Ds s0;generalize zG day Ds s0=LS at hp3 lms ln3 q;obtain⟨L1,S1⟩:=LS;open_k0
 ((try dsimp only);refine qq λR hR=> ?_;(open_k0;repeat (dsimp only[yr,qt,yZ,qm];open_k0)))
 refine⟨⟨_,k3.sqL (SqL.of w1)⟩,hR _ _ ?_⟩;clear hR;obtain⟨Pw,hPw⟩: ∃Pw:Nat->St->Hp->Prop,Pw=λi σ1 H4=> ∃(ws:List (Addr×Ln)) (x5 x6:Option V),Pot K t H4 p dx d (zM day (Ds.take i) S1).2/\Kp H1 H4/\H4 l0=some (.lst (ws.map λw=>V.ref w.1))/\yo H4 ws/\ws.map (·.2)=L1++(zM day (Ds.take i) S1).1/\σ1= [some (.ref p),some (.int day),some (.ref lc),some (.ref lm),some (.ref l0),x5,x6]:=⟨_,rfl⟩
 refine u8 (xs:=Ds.map λz=>V.int z.2) Pw (by rw[hPw];exact⟨ws,_,_,hp3,k3,e3,la,by rw[List.take_zero,zM,Jt];exact lms,rfl⟩) (λi σ1 H2 _ h=>by rw[hPw] at h;obtain⟨_,_,_,_,k,_⟩:=h;exact k.sqL (SqL.of w1)) (λi σ1 H2 H3 h s=>by rw[hPw] at h ⊢;obtain⟨ws,x5,x6,hp,k,e,la,lm,r⟩:=h;exact⟨ws,x5,x6,hp.same s,k.trans (Kp.of_same s),s _ _ e,la.keep (Kp.of_same s),lm,r⟩) (λi x σ1 H4 hx h=> ?_) (λσ1 H4 h=> ?_)
 ·rw[hPw] at h;refine opq λ_ kq=> ?_;obtain⟨ws,x5,x6,hp4,k4,e4,la,lms,rfl⟩:=h;rw[Jh] at hx;obtain⟨z,hz,rfl⟩:=Jk.mp hx;apply kq;have nx:=zkI (day:=day) (s:=S1) hz;have hi:=(Jc.mp hz).1;have ln:=uw day (Ds.take i) S1;rw[JB] at ln;have wl:=congrArg List.length lms;rw[Ja,Jj] at wl;rw[df i z hz] at nx;have l1:L1.length<=Ds.length:=ln3.2;have l2:S1.2.2.length<=s0.2.2.length+Ds.length:=ln3.1
  (open_k0;repeat (dsimp only[tBM];open_k0))
  by_cases g:0<z.2
  ·rw[Jg g] at nx ⊢;refine⟨.inl ⟨rfl,_,SqL.of e4⟩,p,dx,d,_,day,zR,_,_,rfl,hp4,'o',λr5 H5 hp5 k5 e5=> ?_⟩;refine⟨l0,_,_,rfl,rfl,k5.lst e4,by rw[Ja];exact xl 'o',?_⟩;obtain⟨a1,a2,a3⟩:=jT (k4.trans k5) fr1 (k5.lst e4) (la.keep k5) e5;rw[hPw];exact⟨_,_,_,by rw[nx];exact hp5.app (k5.lst e4),a1,a2,a3,by rw[Jd,lms,nx,JM];rfl,rfl⟩
  ·rw[Jf g] at nx ⊢;rw[hPw];exact⟨ws,_,_,by rw[nx];exact hp4,k4,e4,la,by rw[nx];exact lms,rfl⟩
 rw[hPw] at h;refine opq λ_ kq=> ?_;obtain⟨ws,x5,x6,hp4,k4,e4,la,lms,rfl⟩:=h;apply kq;open_k0;rw[Ja,JC] at hp4 lms;exact q l0 ws H4 (k1.frF fr1) hp4 (k1.trans k4) e4 la lms
theorem zmW{z:En}:eqb 2 (enD z) (.tup [.int day, .tup [.str [98,97,99,107]]])=(decide (z.2.2.1=day) && (match z.2.2.2 with| .back=>true|_=>false)):=by
 obtain⟨v,a,e,ch⟩:=z;have e1: ∀x y:Int,(x==y)=decide (x=y):=λx y=>rfl;cases ch with
 |word wd d=>simp [enD,chD,eqb,qW,e1]
 |back=>simp [enD,chD,eqb,qW,e1]
 |_=>simp [enD,chD,eqb,qW,e1]
theorem zgG{H:Hp}: ∀{ys:List En},yI K H ys-> ∃as:List Addr,ys.map (·.1)=as.map V.ref
 | [],_=>⟨[],rfl⟩
 |z::r,h=>by
  obtain⟨as,e⟩:=zgG (ys:=r) λx hx=>h x (Jl _ hx);obtain⟨p,e1,_⟩:=h z Jq;exact⟨p::as,by rw[JA,JA,e,e1]⟩
theorem zmX(day:Int)(z:En):yJ 2 (enD z) (.tup [.int day, .tup [.str [98,97,99,107]]]):=by
 unfold enD;simp only[yJ];intro j x y hx hy;match j,hx,hy with
 |0,hx,hy=>cases hx;cases hy;simp [yJ,xU]
 |1,hx,hy=>
  cases hx;cases hy;simp only[yJ];intro i x y hx hy;match i,hx,hy with
  |0,hx,hy=>
   cases hy;generalize z.2.2.2=ch at hx;cases ch<;>(cases hx;simp [yJ,xU])
  |i+1,_,hy=>simp at hy
 |j+2,hx,_=>simp at hx
def zqy(K:Fg)(t:Adr):Sp:=λvs H Q _=> ∃(p dx d le:Addr) (s:Pt) (day:Int) (ys:List En),vs= [.ref p, .ref le, .int day]/\Pot K t H p dx d s/\SqL K H le (ys.map (·.1))/\yI K H ys/\ys.length<=40/\ ∀r (ws:List (Addr×Ln)) H',Fr H r->Pot K t H' p dx d (yk day ys s).2->Kp H H'->H' r=some (.lst (ws.map λw=>V.ref w.1))->yo H' ws->ws.map (·.2)=(yk day ys s).1->Q (.ref r) H'
theorem sc_10:FnScope ["pots","entries","day","amount"] ["pots","entries","day"] (zC s_10):=by sl_open
theorem ok_10(T:Txt w K mg t):FnOk P w K mg base (CXE P w) 2 t.a_10 t.d_10 ["pots","entries","day"] (zqy K t):=by
 refine T.F_10.fn.okX sc_10 ?_ λcdv A outer s H vs Q E L hr h=> ?_
 ·kdl_open
 refine opq λ_ kq=> ?_;obtain⟨p,dx,d,le,s0,day,ys,rfl,hP,hS,hE,y40,q⟩:=h;apply kq;have nd:=sc_10.nd;refine⟨_,(zj (zP (q5 (qB (zkx hr) (zW (zb (pvJ 2) (zb (zW (zb (zZ st_16) zd)) zd wT) ze)) (pvJ 1) rfl)) (zk (zB (yi zd))) zQ) (zj (psJ 3 nd (zhx (pvJ 0) T.cs_Z07 T.me_1o (ok_1o T) (hr.mono 'd') T.b_1o .nil xZ)) (zj (zP (qg (pvJ 3) zc) (zk (zB (yi zd))) zQ) (zk (zB (yi (zb (zW (zb (pvJ 2) (zb (zZ st_16) (zb (v7 uu zc) (zb (pvJ 3) (zb zc (zb zc (zb zc zd zE) zE) zE) ze)) zE) ze)) zd))))))),?_⟩;open_k0;intro b1 H1 _ s1 e1;intro b2 H2 _ s2 e2;have s02:=s1.trans s2;obtain⟨as,ea⟩:=zgG hE;have hE2:=(hE.same s02).all2;rw[ea] at hE2;have hS2:=s02.seq hS;rw[ea] at hS2;refine⟨le,as,2,ys.map enD, .tup [.int day, .tup [.str [98,97,99,107]]],rfl,hS2,hE2,vz (SqT.of e2) ⟨by simp only[Dp],vz (s2.sqT (SqT.of e1)) ⟨xx,trivial⟩,trivial⟩,'d',λe he=> ?_,?_⟩
 ·obtain⟨z,_,rfl⟩:=Jw.mp he;exact zmX day z
 have eb:((ys.map enD).any λe=>eqb 2 e (.tup [.int day, .tup [.str [98,97,99,107]]]))=vM day ys:=by
  unfold vM;rw[List.any_map];congr 1;funext z;exact zmW
 rw[eb];simp only[if_true];refine⟨_,rfl,?_⟩;have P2:=hP.same s02;cases hb:vM day ys with
 |false=>
  simp only[Bool.not_false,if_true];intro r H3 hr3 s3 e3;have bf:yk day ys s0=([],s0):=by unfold yk;rw[hb];rfl
  exact q r [] H3 ((Kp.of_same s02).fr hr3) (by rw[bf];exact P2.same s3) (Kp.of_same (s02.trans s3)) e3 (List.forall_mem_nil _) (by rw[bf];rfl)
 |true=>
  simp only[Bool.not_true,Js,if_false];refine⟨_,_,P2.1,vk _ _ _ 'd' 'd' 'd',p,dx,d,s0.1,s0.2.1,rfl,P2.1,rfl,?_⟩;obtain⟨P3,b3⟩:=P2.put s0.1 0;have k03:=(Kp.of_same s02).trans b3;generalize upd H2 p (.ins t.c_Z07 dx (fsP s0.1 0 d))=H3 at P3 b3 k03 ⊢;by_cases z:s0.2.1=0
  ·rw[Jg (by rw[z])];intro r H4 hr4 s4 e4;have bf:yk day ys s0=([],(s0.1,0,s0.2.2)):=by unfold yk;rw[hb,Jg rfl,Jg z]
   exact q r [] H4 (k03.fr hr4) (by rw[bf];exact P3.same s4) (k03.trans (Kp.of_same s4)) e4 (List.forall_mem_nil _) (by rw[bf];rfl)
  ·rw[Jf (λh=>z (V.int.inj h))];intro r4 H4 hr4 s4 e4;intro r5 H5 hr5 s5 e5;have s45:=s4.trans s5;have bf:yk day ys s0=([(day,qi, -1,s0.2.1,0,0,0)],(s0.1,0,s0.2.2)):=by unfold yk;rw[hb,Jg rfl,Jf z]
   exact q r5 [(r4,(day,qi, -1,s0.2.1,0,0,0))] H5 ((k03.trans (Kp.of_same s4)).fr hr5) (by rw[bf];exact P3.same s45) (k03.trans (Kp.of_same s45)) e5 (λw h=>by rw[Jm.mp h];exact s5 _ _ e4) (by rw[bf];rfl)
theorem yn.kp{f:Int}(h:yn K H pa l f dy c zs)(s:Kp H H'):yn K H' pa l f dy c zs:=by
 obtain⟨⟨pc,h1,h2,h3,h4⟩,h5,h6,h7⟩:=h;exact⟨⟨pc,h1,h2,⟨s.sqT h3.1,h3.2⟩,s.tup h4⟩,s.lst h5,λz hz=>(let ⟨q,e,g⟩:=h6 z hz;⟨q,e,s.sqT g⟩),h7⟩
theorem EnX.kp{f:Int}(h:EnX zs f e K H ys)(s:Kp H H'):EnX zs f e K H' ys:=⟨s.ens h.1,h.2⟩
noncomputable def cstF(f:Int)(dy:Bool)(c:Int)(zs:List (V×Pl))(Gm:Int->Int->List D)(m k:Int):Int:=cK f dy c zs (Gm m) k
def zmY(K:Fg)(t:Adr):Sp:=λvs H Q _=> ∃(pa le la p dx d:Addr) (f:Int) (dy:Bool) (c:Int) (zs:List (V×Pl)) (ys:List En) (Gm:Int->Int->List D) (s:Pt) (day:Int) (k:Nat) (isb:Bool),vs= [.ref pa, .ref le, .ref p, .int day]/\yn K H pa la f dy c zs/\SqL K H le (ys.map (·.1))/\EnX zs f (Cal.beg f dy c 60) K H ys/\(∀m,GL f dy c ys m (Gm m))/\Pot K t H p dx d s/\le≠p/\le≠d/\SpAt f dy c day k isb/\s.2.2.length<=100/\ ∀r (ws:List (Addr×Ln)) H',Fr H r->Pot K t H' p dx d (yd (cstF f dy c zs Gm) ys day k isb s).2->Kp H H'->H' r=some (.lst (ws.map λw=>V.ref w.1))->yo H' ws->ws.map (·.2)=(yd (cstF f dy c zs Gm) ys day k isb s).1->Q (.ref r) H'
theorem zhk{f:Int}{d:Int}(h0:qu K H pa l f dy c)(h1:(∀k:Int,0<=k->k<60->Cal.beg f dy c k<=d->d<Cal.beg f dy c (k+1)-> ∀p H',zh H H'->H' p=some (.tup [.int k, .int (Cal.beg f dy c k), .int (Cal.beg f dy c (k+1))])->Q (.ref p) H'))(h2:(d<f-> ∀H',zh H H'->E (.ref t.c_Z06) none H'))(h3:(Cal.beg f dy c 60<=d-> ∀H',zh H H'->E (.ref t.c_Z0c) none H')):zfL K t [.ref pa, .int d] H Q E:=⟨_,_,_,_,_,_,rfl,h0,h1,h2,h3⟩
theorem zje{p d le:Addr}(h0:Pot K t H p dx d s)(h1:SqL K H le (ys.map (·.1)))(h2:le≠p)(h3:le≠d)(h4:yI K H ys)(h5:ys.length<=40)(h6: ∀r (ws:List (Addr×Ln)) H',Fr H r->Pot K t H' p dx d (s.1+zF day ys,s.2)->Kp H H'->H' r=some (.lst (ws.map λw=>V.ref w.1))->yo H' ws->ws.map (·.2)=zX day 0 ys->Q (.ref r) H'):zij K t [.ref p, .ref le, .int day] H Q E:=⟨_,_,_,_,_,_,_,rfl,h0,h1,h2,h3,h4,h5,h6⟩
theorem sc_11:FnScope ["account","entries","pots","day","k","begin","end","is_begin","lines"] ["account","entries","pots","day"] (zC s_11):=by sl_open
theorem ok_11(T:Txt w K mg t):FnOk P w K mg base (CXE P w) 12 t.a_11 t.d_11 ["account","entries","pots","day"] (zmY K t):=by
 refine T.F_11.fn.okX sc_11 ?_ λcdv A outer s H vs Q E L hr h=> ?_
 ·kdl_open
 refine opq λ_ kq=> ?_;obtain⟨pa,le,la,p,dx,d,f,dy,c,zs,ys,Gm,s0,day,k,isb,rfl,hz,hS,hY,hG,hP,n1,n2,sp,t100,q⟩:=h;apply kq;have nd:=sc_11.nd;refine⟨_,(zj (yv (peD L.toLv (ok_0b T) hr T.F_0b (zb (pvJ 0) (zb (pvJ 3) zd ze) ze)) (z7 (n:=3) rfl (zD (zq (i:=4) nd rfl (Or.inl rfl)) (zD (zq (i:=5) nd rfl (Or.inl rfl)) (zD (zq (i:=6) nd rfl (Or.inl rfl)) yD))))) (zj (psJ 7 nd (xh qR (pvJ 5) (pvJ 3) (yF _))) (zj (psJ 8 nd (peD L.toLv (ok_0w T) hr T.F_0w (zb (pvJ 2) (zb (pvJ 1) (zb (pvJ 3) zd ze) ze) ze))) (zj (xv (zP (q5 (qB kO (pvJ 3) (peD L.toLv (ok_0u T) hr T.F_0u (zb (pvJ 1) zd)) rfl)) (zk (qe (qw PySem.F.plainAttrs_list PySem.F.slot_list_extend PySem.F.type_list_extend kP (pvJ 8) (zb (peD L.toLv (ok_0z T) hr T.F_0z (zb (pvJ 2) (zb (pvJ 3) (zb (peD L.toLv (ok_0t T) hr T.F_0t (zb (pvJ 0) (zb (pvJ 1) (zb (zkD (q5 (jr (pvJ 7))) (pvJ 4) (zg zI (pvJ 4) zc)) (zb (pvJ 3) zd ze)) ze) ze)) zd yB) ze) ze)) zd)))) zQ)) (zj (xv (zP (q5 (jr (pvJ 7))) (zk (qe (qw PySem.F.plainAttrs_list PySem.F.slot_list_append PySem.F.type_list_append qT (pvJ 8) (zb (peD L.toLv (ok_0y T) hr T.F_0y (zb (pvJ 2) (zb (pvJ 3) (zb (zZ st_17) (zb (pvJ 4) (zb (peD L.toLv (ok_0o T) hr T.F_0o (zb (pvJ 0) (zb (peD L.toLv (ok_0s T) hr T.F_0s (zb (pvJ 1) (zb (pvJ 3) zd ze) ze)) (zb (pvJ 4) zd ze) yB) ze)) zd yB) ze) zE) ze) ze)) zd)))) zQ)) (zj (qe (qw PySem.F.plainAttrs_list PySem.F.slot_list_extend PySem.F.type_list_extend kP (pvJ 8) (zb (peD L.toLv (ok_10 T) hr T.F_10 (zb (pvJ 2) (zb (pvJ 1) (zb (pvJ 3) zd ze) ze) ze)) zd))) (zk (zB (pvJ 8))))))))),?_⟩;open_k0;obtain⟨f0,f1,hc⟩:=hz.1.cyc;have k60:=sp.k60;have b60:=Cal.beg_le f0 f1 hc (show 0<=(k:Int)+1 by omega) (show (k:Int)+1<=60 by omega) 'd';have bf:=Cal.beg_ge (k:=(k:Int)) f0 f1 hc 'o' 'o';have slo:=sp.lo;have shi:=sp.hi;refine zhk (hz.1) (λk' k0 k1 a b p1 H1 s1 e1=> ?_) (λz=>absurd z 'o') (λz=>absurd z 'o');obtain rfl:k'=(k:Int):=Cal.beg_one f0 f1 hc k0 k1 'o' 'o' a b slo shi;refine⟨p1,_,rfl,SqT.of e1,rfl,?_⟩;open_k0;rw[<-sp.ib];refine zje (hP.same s1) (s1.seq hS) (n1) (n2) (hY.1.same s1) (hY.2.1) (λlg ws1 H2 fr2 P2 k2 e2 la2 lm2=> ?_);have kk2:=(Kp.of_same s1).trans k2;have frg:=(Kp.of_same s1).frF fr2;obtain⟨r1,hr1⟩: ∃r1,r1=(if (ys.any λz=>decide (z.2.2.1=day))=true then yG day ((List.range (if isb=true then k else k+1)).map λi:Nat=>cstF f dy c zs Gm day i) (s0.1+zF day ys,s0.2) else ([],(s0.1+zF day ys,s0.2))):=⟨_,rfl⟩
 obtain⟨R,hR⟩: ∃R:St->Hp->Prop,R=λσ3 H3=> ∃ws:List (Addr×Ln),Pot K t H3 p dx d r1.2/\Kp H H3/\H3 lg=some (.lst (ws.map λw=>V.ref w.1))/\yo H3 ws/\ws.map (·.2)=zX day 0 ys++r1.1/\σ3= [some (.ref pa),some (.ref le),some (.ref p),some (.int day),some (.int k),some (.int (Cal.beg f dy c k)),some (.int (Cal.beg f dy c ((k:Int)+1))),some (.bl isb),some (.ref lg)]:=⟨_,rfl⟩
 have wl2:ws1.length<=40:=by
  have h:=congrArg List.length lm2;rw[Ja] at h;rw[h];exact JE (ux day ys 0) hY.2.1
 refine⟨R,?_,λσ3 H3 h3=> ?_⟩
 ·open_k0;refine⟨le,ys,rfl,kk2.sqL hS,kk2.ens hY.1,hY.2.1,λrd H3 _ s3 e3=>⟨rd,_,rfl, .inl (SqL.of e3),rfl,zgF _,_,rfl,?_⟩⟩;have kk3:=kk2.trans (Kp.of_same s3);have P3:=P2.same s3;rw[zok];simp only[Js,if_false];cases hany:(ys.any λz=>decide (z.2.2.1=day)) with
  |false=>
   rw[hany,Jf 'd'] at hr1;rw[Jf 'd',hR,hr1];exact⟨ws1,P3,kk3,s3 _ _ e2,la2.keep (Kp.of_same s3),by rw[lm2];exact(Jt _).symm,rfl⟩
  |true=>
   rw[hany,Jg rfl] at hr1;rw[Jg rfl]
   (open_k0;repeat (dsimp only[tBM];open_k0))
   refine⟨.inl ⟨rfl,_,SqL.of (s3 _ _ e2)⟩,?_⟩;have cb:zgD K [.ref pa, .ref le, .int ((if isb=true then k else k+1:Nat):Int), .int day] H3 (λx H1=>zj3 K t [.ref p, .int day,x] H1 (λx H1=>zjq (.ref lg) [x] H1 λx H1=>R [some (.ref pa),some (.ref le),some (.ref p),some (.int day),some (.int k),some (.int (Cal.beg f dy c k)),some (.int (Cal.beg f dy c ((k:Int)+1))),some (.bl isb),some (.ref lg)] H1) E) E:=by
    rw[hR,hr1];have n61:(if isb=true then k else k+1)<=60:=by split<;>omega
    generalize (if isb=true then k else k+1)=n at n61 ⊢;refine gq λ_ kq=>⟨pa,le,la,f,dy,c,zs,ys,Gm day,n,day,rfl,n61,hz.kp kk3,kk3.sqL hS,hY.kp kk3,hG day,λrc H4 s4 e4=>kq _ _ ?_⟩
    refine gq λ_ kq=>⟨p,dx,d,rc,_,day,_,rfl,P3.same s4,SqL.of e4,by rw[Ja,JI];exact n61,t100,λrr wr H5 fr5 P5 k5 e5 la5 lm5=>kq _ _ ?_⟩
    have k35:=(Kp.of_same s4).trans k5;have e25:=k35.lst (s3 _ _ e2);have wl:wr.length<=120:=by
     have h:=congrArg List.length lm5;rw[Ja] at h;rw[h];refine JE (zdR _ _ _) ?_;rw[Ja,JI];omega
    refine⟨lg,rr,_,_,rfl,rfl,e25,e5,by rw[Ja,Ja];exact qX 'o',?_⟩;obtain⟨a1,a2,a3⟩:=zjd (l1:=rr) (kk3.trans k35) frg e25 (la2.keep ((Kp.of_same s3).trans k35)) la5;exact⟨_,P5.app e25,a1,a2,a3,by rw[Jd,lm2,lm5];rfl,rfl⟩
   clear hR;cases isb with
   |true=>
    rw[Jg rfl];exact cb
   |false=>
    rw[Jf 'd'];exact cb
 rw[hR] at h3;refine opq λ_ kq=> ?_;obtain⟨ws3,P3,k3,e3,la3,lm3,rfl⟩:=h3;apply kq;clear hR;dsimp only;have r1t:r1.2.2.2.length<=300/\r1.1.length<=120:=by
  rw[hr1];split
  ·have h1:=zi4 day ((List.range (if isb=true then k else k+1)).map λi:Nat=>cstF f dy c zs Gm day i) (s0.1+zF day ys,s0.2);have h2:=zdR day ((List.range (if isb=true then k else k+1)).map λi:Nat=>cstF f dy c zs Gm day i) (s0.1+zF day ys,s0.2);rw[Ja,JI] at h1 h2;have n61:(if isb=true then k else k+1)<=60:=by split<;>omega
   have e9:(s0.1+zF day ys,s0.2).2.2.length=s0.2.2.length:=rfl;omega
  ·exact⟨JE t100 'd',Jv _⟩
 have wq:yd (cstF f dy c zs Gm) ys day k isb s0=(let b:=if isb=true then ([yE r1.2 day zL k (cstF f dy c zs Gm day k)],yq r1.2 k (cstF f dy c zs Gm day k)) else ([],r1.2);let e:=yk day ys b.2;(zX day 0 ys++r1.1++b.1++e.1,e.2)):=by
  rw[hr1];rfl
 rw[wq] at q;clear wq hr1;have wl3:ws3.length<=160:=by
  have h:=congrArg List.length lm3;rw[Ja,Jj] at h
  have:=JE (ux day ys 0) hY.2.1;omega
 obtain⟨R2,hR2⟩: ∃R2:St->Hp->Prop,R2=λσ4 H4=> ∃ws:List (Addr×Ln),Pot K t H4 p dx d (if isb=true then ([yE r1.2 day zL k (cstF f dy c zs Gm day k)],yq r1.2 k (cstF f dy c zs Gm day k)) else ([],r1.2)).2/\Kp H H4/\H4 lg=some (.lst (ws.map λw=>V.ref w.1))/\yo H4 ws/\ws.map (·.2)=zX day 0 ys++r1.1++(if isb=true then ([yE r1.2 day zL k (cstF f dy c zs Gm day k)],yq r1.2 k (cstF f dy c zs Gm day k)) else ([],r1.2)).1/\σ4= [some (.ref pa),some (.ref le),some (.ref p),some (.int day),some (.int k),some (.int (Cal.beg f dy c k)),some (.int (Cal.beg f dy c ((k:Int)+1))),some (.bl isb),some (.ref lg)]:=⟨_,rfl⟩
 refine⟨R2,?_,λσ4 H4 h4=> ?_⟩
 ·(open_k0;repeat (dsimp only[tBM];open_k0))
  rw[hR2];clear hR2 q;cases isb with
  |false=>
   rw[Jf 'd'];exact⟨ws3,P3,k3,e3,la3,by rw[lm3];exact(Jt _).symm,rfl⟩
  |true=>
   rw[Jg rfl];refine⟨.inl ⟨rfl,_,SqL.of e3⟩,le,ys,day,rfl,k3.sqL hS,k3.ens hY.1,hY.2.1,hY.2.2.1,hY.2.2.2.1,λrt as H4 _ s4 e4 t4=> ?_⟩;have k34:=k3.trans (Kp.of_same s4);refine opq λ_ kq=> ?_;obtain⟨ts,tA,tk,tz⟩:=jS dy c hY.2.2.1 hY.2.2.2.1 hY.2.1 (k34.ens hY.1) hY.2.2.2.2.1 e4 t4;apply kq;refine⟨pa,rt,la,f,dy,c,zs,ts,Gm day,k,rfl,hz.kp k34,tA,(hY.kp k34).tmx (λt h=>(tA.2.2.1 t h).2.2.1) tz,hG day ts tk,λ_ _ H5 s5=> ?_,λh=>absurd h 'o',λh=>absurd h (by have:=sp.k60;omega)⟩;refine gq λ_ kq=>⟨p,dx,d,r1.2,day,zL,k,_,rfl,(P3.same s4).same s5,JE r1t.1 'd',λrm H6 P6 k6 e6=>kq _ _ ?_⟩
   have k36:=(Kp.of_same (s4.trans s5)).trans k6;refine⟨lg,_,_,rfl,rfl,k36.lst e3,by rw[Ja];exact xl 'o',?_⟩;obtain⟨a1,a2,a3⟩:=jT (k3.trans k36) frg (k36.lst e3) (la3.keep k36) e6;exact⟨_,P6.app (k36.lst e3),a1,a2,a3,by rw[Jd,lm3];rfl,rfl⟩
 rw[hR2] at h4;refine opq λ_ kq=> ?_;obtain⟨ws4,P4,k4,e4,la4,lm4,rfl⟩:=h4;apply kq;clear hR2;dsimp only at q;obtain⟨b,hb⟩: ∃b,b=(if isb=true then ([yE r1.2 day zL k (cstF f dy c zs Gm day k)],yq r1.2 k (cstF f dy c zs Gm day k)) else ([],r1.2)):=⟨_,rfl⟩
 have b1:b.1.length<=1:=by
  rw[hb];split<;>simp
 rw[<-hb] at P4 lm4 q;clear hb
 (open_k0;repeat (dsimp only[tBM];open_k0))
 refine⟨.inl ⟨rfl,_,SqL.of e4⟩,p,dx,d,le,b.2,day,ys,rfl,P4,k4.sqL hS,k4.ens hY.1,hY.2.1,λrb wb H5 fr5 P5 k5 e5 la5 lm5=> ?_⟩;have wl4:ws4.length<=200:=by
  have h:=congrArg List.length lm4;rw[Ja,Jj,<-lm3,Ja] at h;omega
 have wl5:wb.length<=1:=by
  have h:=congrArg List.length lm5;rw[Ja] at h;rw[h];exact zgv _ _ _
 have e45:=k5.lst e4;refine⟨lg,rb,_,_,rfl,rfl,e45,e5,by rw[Ja,Ja];exact qX 'o',?_⟩;obtain⟨a1,a2,a3⟩:=zjd (l1:=rb) (k4.trans k5) frg e45 (la4.keep k5) la5;exact q lg _ _ frg (P5.app e45) a1 a2 a3 (by rw[Jd,lm4,lm5])
theorem zik{f:Int}{dy:Bool}{c:Int}: ∀{ws:List Int},(∀x∈ws,∃(k:Nat) (isb:Bool),SpAt f dy c x k isb)-> ∃ds:List (Int×Nat×Bool),ds.map (·.1)=ws/\ ∀z∈ds,SpAt f dy c z.1 z.2.1 z.2.2
 | [],_=>⟨[],rfl,(List.forall_mem_nil _)⟩
 |x::r,h=>by
  obtain⟨ds,e,hd⟩:=zik (ws:=r) λy hy=>h y (Jl _ hy);obtain⟨k,isb,hk⟩:=h x Jq;refine⟨(x,k,isb)::ds,by rw[JA,e],λz hz=> ?_⟩;rcases JD.mp hz with rfl|hz
  ·exact hk
  ·exact hd z hz
def zqz(K:Fg)(t:Adr):Sp:=λvs H Q E=> ∃(pa le la:Addr) (f:Int) (dy:Bool) (c:Int) (zs:List (V×Pl)) (ys:List En) (Gm:Int->Int->List D) (day:Int),vs= [.ref pa, .ref le, .int day]/\yn K H pa la f dy c zs/\H le=some (.lst (ys.map (·.1)))/\EnX zs f (Cal.beg f dy c 60) K H ys/\(∀z∈ys,f<=z.2.2.1)/\(∀m,GL f dy c ys m (Gm m))/\(f<=day->day<Cal.beg f dy c 60-> ∀r lr p dx d (ds:List (Int×Nat×Bool)) (ws:List (Addr×Ln)) H',WDays f dy c ys day ds->Fr H lr->ds.length<=100->Kp H H'->H' r=some (.tup [.ref lr, .ref p])->Pot K t H' p dx d (zJ (cstF f dy c zs Gm) ys ds (0,0, [])).2->H' lr=some (.lst (ws.map λw=>V.ref w.1))->yo H' ws->ws.map (·.2)=(zJ (cstF f dy c zs Gm) ys ds (0,0, [])).1->Q (.ref r) H')/\(day<f-> ∀H',zh H H'->E (.ref t.c_Z06) none H')/\(Cal.beg f dy c 60<=day-> ∀H',zh H H'->E (.ref t.c_Z0c) none H')
theorem sc_12:FnScope ["account","entries","day","pots","lines","work_day"] ["account","entries","day"] (zC s_12):=by sl_open
theorem ok_12(T:Txt w K mg t):FnOk P w K mg base (CXE P w) 13 t.a_12 t.d_12 ["account","entries","day"] (zqz K t):=by
 refine T.F_12.fn.okX sc_12 ?_ λcdv A outer s H vs Q E L hr h=> ?_
 ·kdl_open
 refine opq λ_ kq=> ?_;obtain⟨pa,le,la,f,dy,c,zs,ys,Gm,day,rfl,hz,hS,hY,hy0,hG,q,q2,q3⟩:=h;apply kq;have nd:=sc_12.nd;refine⟨_,(zj (psJ 3 nd (zli T.mk_Z07 (ok_1k T) (hr.mono 'd') (by rfl) T.mg_Z07 T.b_1k .nil xZ)) (zj (psJ 4 nd (yi zd)) (zj (qj (by passes_own) rfl (qb (peD L.toLv (ok_0v T) hr T.F_0v (zb (pvJ 0) (zb (pvJ 1) (zb (pvJ 2) zd ze) ze) ze))) (zq (i:=5) nd rfl (Or.inl rfl)) (zk (qe (qw PySem.F.plainAttrs_list PySem.F.slot_list_extend PySem.F.type_list_extend kP (pvJ 4) (zb (peD L.toLv (ok_11 T) hr T.F_11 (zb (pvJ 0) (zb (pvJ 1) (zb (pvJ 3) (zb (pvJ 5) zd ze) ze) ze) ze)) zd))))) (zk (zB (zW (zb (pvJ 4) (zb (pvJ 3) zd ze) ze))))))),?_⟩;open_k0;intro p dx hp hdx ndx;refine⟨p,dx,rfl,zN,λd H1 hd e1 ep b1=>⟨rfl,?_⟩⟩;have s1:zh H H1:=λb u e=>b1 b u (λz=>by rw[z,hp] at e;cases e) (by rw[zu (λz=>by rw[z,hp] at e;cases e),zu (λz=>by rw[z,hdx] at e;cases e)];exact e);clear b1 hd hdx ndx;intro l0 H2 hl0 s2 e2;have s12:=s1.trans s2;have fr2:Fr H l0:=λu e=>by rw[s1 _ _ e] at hl0;cases hl0
 have P2:Pot K t H2 p dx d (0,0, []):=⟨s2 _ _ ep, [],s2 _ _ e1,trivial⟩
 clear hl0 s1 s2 ep e1 hp
 ((try dsimp only);refine qq λR hR=> ?_;(open_k0;repeat (dsimp only[yr,qt,yZ,qm];open_k0)))
 obtain⟨f0,f1,hc⟩:=hz.1.cyc;refine gq λ_ kq=>⟨pa,le,la,f,dy,c,day,ys,rfl,hz.1.same s12,SqL.of (s12 _ _ hS),hY.1.same s12,hY.2.1,λd0 d1 lw ws H3 s3 e3 up mem l100=>kq _ _ ?_,λz H' s'=>q2 z H' (s12.trans s'),λz H' s'=>q3 z H' (s12.trans s')⟩
 obtain⟨ds,eds,hds⟩:=zik (f:=f) (dy:=dy) (c:=c) (ws:=ws) λx hx=>by
  have x0:f<=x/\x<=day:=by
   rcases (mem x).mp hx with⟨j,j1,j2,rfl⟩|⟨z,hz,rfl,z2⟩
   ·exact⟨Cal.beg_ge f0 f1 hc 'o' 'o',j2⟩
   ·exact⟨hy0 z hz,z2⟩
  refine opq λ_ kq=> ?_;obtain⟨k,k0,k1,a,b⟩:=jN (f:=f) (dy:=dy) (c:=c) (d:=x) (by rw[Cal.beg_zero f0 f1];exact x0.1) 60 (by show x<Cal.beg f dy c 60;omega);obtain⟨k,rfl⟩:=Int.eq_ofNat_of_zero_le k0;apply kq;exact⟨k,_,'o',a,b,rfl⟩
 have wd:WDays f dy c ys day ds:=⟨by rw[eds];exact up,hds,λx=>by
  rw[eds,mem];constructor
  ·rintro(⟨j,j1,j2,rfl⟩|⟨z,hz,rfl,z2⟩)
   ·exact⟨j2, .inl ⟨j,j1,rfl⟩⟩
   ·exact⟨z2, .inr ⟨z,hz,rfl⟩⟩
  ·rintro⟨h,⟨j,j1,rfl⟩|⟨z,hz,rfl⟩⟩
   ·exact .inl ⟨j,j1,h,rfl⟩
   ·exact .inr ⟨z,hz,rfl,h⟩⟩
 have dl:ds.length<=100:=by
  have:=congrArg List.length eds;rw[Ja] at this;omega
 have dk: ∀z∈ds,z.2.1<60:=λz hz=>(hds z hz).k60;have fw:f∈ws:=(mem f).mpr (.inl ⟨0,'d',by show Cal.beg f dy c 0<=day;rw[Cal.beg_zero f0 f1];exact d0,(Cal.beg_zero f0 f1).symm⟩);have nl:lw≠l0:=λz=>by
  have h:=s3 _ _ e2;rw[<-z,e3] at h;injection h with h
  injection h with h
  rw[List.map_eq_nil_iff.mp h] at fw;cases fw
 subst eds;clear up mem fw;refine⟨lw,rfl,⟨_,SqL.of e3⟩,hR _ _ ?_⟩;clear hR;have P3:=P2.same s3;have k3:=Kp.of_same (s12.trans s3);have e23:=s3 _ _ e2;clear P2 e2 s12 s3;obtain⟨Pw,hPw⟩: ∃Pw:Nat->St->Hp->Prop,Pw=λi σ1 H4=> ∃(ws:List (Addr×Ln)) (x5:Option V),Pot K t H4 p dx d (zJ (cstF f dy c zs Gm) ys (ds.take i) (0,0, [])).2/\Kp H H4/\H4 lw=some (.lst ((ds.map (·.1)).map V.int))/\H4 l0=some (.lst (ws.map λw=>V.ref w.1))/\yo H4 ws/\ws.map (·.2)=(zJ (cstF f dy c zs Gm) ys (ds.take i) (0,0, [])).1/\σ1= [some (.ref pa),some (.ref le),some (.int day),some (.ref p),some (.ref l0),x5]:=⟨_,rfl⟩
 refine v0 (xs:=(ds.map (·.1)).map V.int) Pw (by rw[hPw];exact⟨[],_,P3,k3,e3,e23,(List.forall_mem_nil _),rfl,rfl⟩) (λ_ _ _ _ h=>by rw[hPw] at h;obtain⟨_,_,_,_,k,_⟩:=h;exact SqL.of k) (λi x σ1 H4 hxx h=> ?_) (λσ1 H4 h=> ?_)
 ·rw[hPw] at h;refine opq λ_ kq=> ?_;obtain⟨ws,x5,P4,k4,k34,e4,la4,lm4,rfl⟩:=h;rw[Jh,Jh] at hxx;obtain⟨y,hy,rfl⟩:=Jk.mp hxx;obtain⟨z,hz1,rfl⟩:=Jk.mp hy;apply kq;have nx:=zkK (cstF f dy c zs Gm) ys (0,0, []) hz1;have zm:=Ji hz1;have il:=(Jc.mp hz1).1;have tk: ∀z∈ds.take i,z.2.1<60:=λz h=>dk z (List.mem_of_mem_take h);have tO:=(zh1 (cstF f dy c zs Gm) ys (ds.take i) (0,0, []) tk ⟨List.Pairwise.nil,(List.forall_mem_nil _)⟩).len;have wl:ws.length<=20000:=by
   have h1:=uy (cstF f dy c zs Gm) hY.2.1 (ds.take i) (0,0, []) tk;have h2:=congrArg List.length lm4;rw[Ja] at h2;rw[JB] at h1;omega
  have wl2:=zgx (cstF f dy c zs Gm) (ys:=ys) z.1 z.2.2 (zJ (cstF f dy c zs Gm) ys (ds.take i) (0,0, [])).2 (dk z zm) hY.2.1;have eS:=k4.lst hS
  (open_k0;repeat (dsimp only[tBM];open_k0))
  refine⟨.inl ⟨rfl,_,SqL.of e4⟩,pa,le,la,p,dx,d,f,dy,c,zs,ys,Gm,_,z.1,z.2.1,z.2.2,rfl,hz.kp k4,SqL.of eS,hY.kp k4,hG,P4,(λz=>by rw[z,P4.1] at eS;cases eS),(λz=>by obtain⟨_,kvs,g,_⟩:=P4;rw[z,g] at eS;cases eS),hds z zm,'o',λrw wr H5 fr5 P5 k5 e5 la5 lm5=> ?_⟩;have e45:=k5.lst e4;refine⟨l0,rw,_,_,rfl,rfl,e45,e5,by rw[Ja,Ja,sizeLine_eq];have h:=congrArg List.length lm5;rw[Ja] at h;omega,?_⟩;obtain⟨a1,a2,a3⟩:=zjd (l1:=rw) (k4.trans k5) fr2 e45 (la4.keep k5) la5;rw[hPw];exact⟨_,_,by rw[nx];exact P5.app e45,a1,by rw[zu nl];exact k5.lst k34,a2,a3,by rw[Jd,lm4,lm5,nx],rfl⟩
 rw[hPw] at h;refine opq λ_ kq=> ?_;obtain⟨ws,x5,P4,k4,k34,e4,la4,lm4,rfl⟩:=h;apply kq;open_k0;rw[Ja,Ja,JC] at P4 lm4;exact λr H5 hr s5 e5=>q d0 d1 r l0 p dx d ds ws H5 wd fr2 dl (k4.trans (Kp.of_same s5)) e5 (P4.same s5) (s5 _ _ e4) (la4.keep (Kp.of_same s5)) lm4
theorem zgH: ∀ks:List (List Nat),(ks.map λx=>V.str (SL x)).all xu=true
 | []=>rfl
 |_::r=>by rw[JA,List.all_cons,zgH r];rfl
def zmZ(K:Fg):Sp:=λvs H Q _=> ∃(l kp:Addr) (ks:List (List Nat)) (ws:List (Addr×Ln)),vs= [.ref l, .ref kp]/\H l=some (.lst (ws.map λw=>V.ref w.1))/\yo H ws/\ws.length<=20000/\SqT K H kp (ks.map λx=>V.str (SL x))/\ ∀H',zh H H'->Q (.int (zV ks (ws.map (·.2)))) H'
theorem sc_14:FnScope ["lines","kinds"] ["lines","kinds"] (zC s_14):=by sl_open
theorem ok_14(T:Txt w K mg t):FnOk P w K mg base (CXE P w) 1 t.a_14 t.d_14 ["lines","kinds"] (zmZ K):=by
 refine T.F_14.fn.okX sc_14 ?_ λcdv A outer s H vs Q E L hr h=> ?_
 ·kdl_open
 refine opq λ_ kq=> ?_;obtain⟨l,kp,ks,ws,rfl,hl0,la,wl,hk,q⟩:=h;apply kq;have nd:=sc_14.nd;refine⟨_,(zk (zB (zY (wx (by rfl)) (by rfl) T.no_sum xT (zb (qG (n:=1) (N:= ["line","kinds"]) (js:= [1]) (by rfl) rfl rfl (qb (pvJ 0)) (λa=>(zq (i:=0) (show List.Nodup (["line","kinds"]:List Str) from by decide+kernel) rfl (Or.inl rfl))) (λa=>(vw (qB kO (ixJ zH (pvJ 0) zc) (pvJ 1) rfl))) (λa=>(ixJ zH (pvJ 0) zc))) zd)))),?_⟩
 (open_k0;repeat (dsimp only[qk,yr];open_k0))
 refine⟨⟨_,SqL.of hl0⟩,λl2 hl2 aa=> ?_⟩;refine qr (λj xs _=>xs=((((ws.take j).map (·.2)).filter λz=>decide (z.2.1∈ks)).map λz=>z.2.2.2.1).map V.int) (qV (SqL.of hl0)) hl2 (by rw[Ja,sizeLine_eq];omega) (λ_ _=>rfl) (λj y xs H8 K1 K0 hx sm pv hl k1 k0=> ?_) (λxs H2 s2 pv _ w2=> ?_)
 ·obtain⟨w',hw,rfl⟩: ∃w',ws[j]? =some w'/\y= .ref w'.1:=by
   rw[Jh] at hx;obtain⟨u,e,rfl⟩:=Jk.mp hx;exact⟨u,e,rfl⟩
  have a4:=sm _ _ (la w' (Ji hw));unfold LnV at a4;have e:inV (.str (SL w'.2.2.1)) (ks.map λx=>V.str (SL x))=decide (w'.2.2.1∈ks):=zfg _ _;have nx:(((ws.take (j+1)).map (·.2)).filter λz=>decide (z.2.1∈ks)).map (λz=>z.2.2.2.1)=((((ws.take j).map (·.2)).filter λz=>decide (z.2.1∈ks)).map λz=>z.2.2.2.1)++if decide (w'.2.2.1∈ks)=true then [w'.2.2.2.2.1] else []:=by
   rw[JH,hw,Option.toList_some,Jd,JT,Jd];congr 1;rw[JA,JR,JU,List.filter_nil];split<;>rfl
  open_k0;refine ixT (SqT.of a4) (y8 _ _ _) ⟨kp,_,rfl, .inr (sm.sqT hk),rfl,zgH _,_,rfl,?_⟩;rw[e];simp only[Js,if_false];cases g:decide (w'.2.2.1∈ks) with
  |true=>
   rw[Jg rfl];refine ixT (SqT.of a4) (zql _ _ _ _ _) (k1 _ _ (zh.refl _) λH5 _=> ?_);rw[pv,nx,g,Jg rfl,Jd];rfl
  |false=>
   rw[Jf 'd'];exact k0 _ (zh.refl _) (by rw[pv,nx,g,Jf 'd',Jt])
 ·rw[Ja,JC] at pv;subst pv;exact⟨l2,rfl,_,SqL.of w2,q H2 s2⟩
def zm0(K:Fg)(t:Adr):Sp:=λvs H Q E=> ∃(pa le la:Addr) (f:Int) (dy:Bool) (c:Int) (zs:List (V×Pl)) (ys:List En) (Gm:Int->Int->List D) (day:Int),vs= [.ref pa, .ref le, .int day]/\yn K H pa la f dy c zs/\H le=some (.lst (ys.map (·.1)))/\EnX zs f (Cal.beg f dy c 60) K H ys/\(∀z∈ys,f<=z.2.2.1)/\(∀m,GL f dy c ys m (Gm m))/\(f<=day->day<Cal.beg f dy c 60-> ∀r (ds:List (Int×Nat×Bool)) H',WDays f dy c ys day ds->ds.length<=100->Kp H H'->(let B:=zJ (cstF f dy c zs Gm) ys ds (0,0, []);H' r=some (.tup [.int (zV [zL,zR] B.1), .int (xB B.1), .int (zV [qi] B.1), .int (zV [qh] B.1), .int B.2.2.1, .int B.2.1]))->Q (.ref r) H')/\(day<f-> ∀H',zh H H'->E (.ref t.c_Z06) none H')/\(Cal.beg f dy c 60<=day-> ∀H',zh H H'->E (.ref t.c_Z0c) none H')
theorem sc_15:FnScope ["account","entries","day","lines","pots","own","given","billed","paid"] ["account","entries","day"] (zC s_15):=by sl_open
theorem ok_15(T:Txt w K mg t):FnOk P w K mg base (CXE P w) 14 t.a_15 t.d_15 ["account","entries","day"] (zm0 K t):=by
 refine T.F_15.fn.okX sc_15 ?_ λcdv A outer s H vs Q E L hr h=> ?_
 ·kdl_open
 refine opq λ_ kq=> ?_;obtain⟨pa,le,la,f,dy,c,zs,ys,Gm,day,rfl,hz,hS,hY,hy0,hG,q,q2,q3⟩:=h;apply kq;have nd:=sc_15.nd;refine⟨_,(zj (yv (peD L.toLv (ok_12 T) hr T.F_12 (zb (pvJ 0) (zb (pvJ 1) (zb (pvJ 2) zd ze) ze) ze)) (z7 (n:=2) rfl (zD (zq (i:=3) nd rfl (Or.inl rfl)) (zD (zq (i:=4) nd rfl (Or.inl rfl)) yD)))) (zj (yv (zhx (pvJ 4) T.cs_Z07 T.me_1q (ok_1q T) (hr.mono 'd') T.b_1q .nil xZ) (z7 (n:=2) rfl (zD (zq (i:=5) nd rfl (Or.inl rfl)) (zD (zq (i:=6) nd rfl (Or.inl rfl)) yD)))) (zj (psJ 7 nd (peD L.toLv (ok_14 T) hr T.F_14 (zb (pvJ 3) (zb (zW (zb (zZ st_17) (zb (zZ st_15) zd zE) zE)) zd wT) ze))) (zj (psJ 8 nd (zY (wx (by rfl)) (by rfl) T.no_sum xT (zb (qG (n:=1) (N:= ["line"]) (js:= []) (by rfl) rfl rfl (qb (pvJ 3)) (λa=>(zq (i:=0) (show List.Nodup (["line"]:List Str) from by decide+kernel) rfl (Or.inl rfl))) (λa=>qM) (λa=>(ixJ zH (pvJ 0) zc))) zd))) (zk (zB (zW (zb (pvJ 7) (zb (pvJ 8) (zb (peD L.toLv (ok_14 T) hr T.F_14 (zb (pvJ 3) (zb (zW (zb (zZ st_16) zd)) zd wT) ze)) (zb (peD L.toLv (ok_14 T) hr T.F_14 (zb (pvJ 3) (zb (zW (zb (zZ st_14) zd)) zd wT) ze)) (zb (pvJ 5) (zb (pvJ 6) zd ze) ze) yB) yB) ze) ze)))))))),?_⟩;open_k0;refine gq λ_ kq=>⟨pa,le,la,f,dy,c,zs,ys,Gm,day,rfl,hz,hS,hY,hy0,hG,λd0 d1 r1 l1 p dx d ds ws H1 wd _ dl k1 e1 P1 el la1 lm=>kq _ _ ?_,q2,q3⟩
 have wl:ws.length<=20000:=by
  have h1:=uy (cstF f dy c zs Gm) hY.2.1 ds (0,0, []) λz hz=>(wd.sp z hz).k60;have h2:=congrArg List.length lm;rw[Ja] at h2;omega
 refine⟨r1,_,rfl,SqT.of e1,rfl,?_⟩;open_k0;refine⟨_,_,P1.1,(by simp [fsP];decide),p,dx,d,_,_,rfl,P1.1,λr2 H2 s2 e2=>⟨r2,_,rfl,SqT.of e2,rfl,?_⟩⟩;open_k0;refine λr3 H3 _ s3 e3=>⟨l1,r3, [zL,zR],ws,rfl,(s2.trans s3) _ _ el,la1.keep (Kp.of_same (s2.trans s3)),wl,SqT.of e3,λH4 s4=> ?_⟩
 have s14:=s2.trans (s3.trans s4);have el4:=s14 _ _ el;have la4:=la1.keep (Kp.of_same s14)
 (open_k0;repeat (dsimp only[qk,yr];open_k0))
 refine⟨⟨_,SqL.of el4⟩,λl2 hl2 aa=> ?_⟩;refine qr (λj xs _=>xs=(((ws.take j).map (·.2)).map λz=>z.2.2.2.2.2.2).map V.int) (qV (SqL.of el4)) hl2 (by rw[Ja,sizeLine_eq];omega) (λ_ _=>rfl) (λj y xs H8 K1 K0 hx sm pv hl k1 k0=> ?_) (λxs H5 s5 pv _ w5=> ?_)
 ·obtain⟨w',hw,rfl⟩: ∃w',ws[j]? =some w'/\y= .ref w'.1:=by
   rw[Jh] at hx;obtain⟨u,e,rfl⟩:=Jk.mp hx;exact⟨u,e,rfl⟩
  have a4:=sm _ _ (la4 w' (Ji hw));unfold LnV at a4;open_k0;refine ixT (SqT.of a4) (qp (j:=6) rfl) (k1 _ _ (zh.refl _) λH5 _=> ?_);rw[pv,JH,hw,Option.toList_some,Jd,Jd,Jd];rfl
 ·rw[Ja,JC] at pv;subst pv;refine⟨l2,rfl,_,SqL.of w5,?_⟩;open_k0;refine λr6 H6 _ s6 e6=>⟨l1,r6, [qi],ws,rfl,(s5.trans s6) _ _ el4,la4.keep (Kp.of_same (s5.trans s6)),wl,SqT.of e6,λH7 s7=> ?_⟩
  have s17:=s14.trans (s5.trans (s6.trans s7));refine λr8 H8 _ s8 e8=>⟨l1,r8, [qh],ws,rfl,(s17.trans s8) _ _ el,la1.keep (Kp.of_same (s17.trans s8)),wl,SqT.of e8,λH9 s9=> ?_⟩
  refine λr H10 _ s10 e10=>q d0 d1 r ds H10 wd dl (k1.trans (Kp.of_same (s17.trans (s8.trans (s9.trans s10))))) ?_;rw[e10,lm];rfl
def zm1(K:Fg)(t:Adr):Sp:=λvs H Q E=> ∃(pa le la:Addr) (f:Int) (dy:Bool) (c:Int) (zs:List (V×Pl)) (ys:List En) (G:Int->List D) (day:Int),vs= [.ref pa, .ref le, .int day]/\yn K H pa la f dy c zs/\SqL K H le (ys.map (·.1))/\EnX zs f (Cal.beg f dy c 60) K H ys/\GL f dy c ys day G/\(∀k:Int,0<=k->k<60->Cal.beg f dy c k<=day->day<Cal.beg f dy c (k+1)-> ∀H',zh H H'->Q (.int (Sb (λo=>yf zs (Cal.beg f dy c k) (Cal.beg f dy c (k+1)) o (o+1) (G o)) (day+1) (Cal.beg f dy c (k+1)))) H')/\(day<f-> ∀H',zh H H'->E (.ref t.c_Z06) none H')/\(Cal.beg f dy c 60<=day-> ∀H',zh H H'->E (.ref t.c_Z0c) none H')
theorem sc_16:FnScope ["account","entries","day","k","begin","end","ordered"] ["account","entries","day"] (zC s_16):=by sl_open
theorem ok_16(T:Txt w K mg t):FnOk P w K mg base (CXE P w) 10 t.a_16 t.d_16 ["account","entries","day"] (zm1 K t):=by
 refine T.F_16.fn.okX sc_16 ?_ λcdv A outer s H vs Q E L hr h=> ?_
 ·kdl_open
 refine opq λ_ kq=> ?_;obtain⟨pa,le,la,f,dy,c,zs,ys,G,day,rfl,hz,hS,hY,hG,q,q2,q3⟩:=h;apply kq;have nd:=sc_16.nd;refine⟨_,(zj (yv (peD L.toLv (ok_0b T) hr T.F_0b (zb (pvJ 0) (zb (pvJ 2) zd ze) ze)) (z7 (n:=3) rfl (zD (zq (i:=3) nd rfl (Or.inl rfl)) (zD (zq (i:=4) nd rfl (Or.inr rfl)) (zD (zq (i:=5) nd rfl (Or.inr rfl)) yD))))) (zj (psJ 6 nd (peD L.toLv (ok_0e T) hr T.F_0e (zb (pvJ 0) (zb (peD L.toLv (ok_0s T) hr T.F_0s (zb (pvJ 1) (zb (pvJ 2) zd ze) ze)) zd yB) ze))) (zk (zB (zY (wx (by rfl)) (by rfl) T.no_sum xT (zb (qG (n:=1) (N:= ["rest","account","begin","end"]) (js:= [0,4,5]) (by rfl) rfl rfl (qb (peD L.toLv (ok_0h T) hr T.F_0h (zb (pvJ 6) (zb (zg zI (pvJ 2) zc) (zb (pvJ 5) zd ze) zT) ze))) (λa=>(zq (i:=0) (show List.Nodup (["rest","account","begin","end"]:List Str) from by decide+kernel) rfl (Or.inl rfl))) (λa=>qM) (λa=>(peD vv (ok_0j T) hr T.F_0j (zb (pvJ 1) (zb (zW (zb (pvJ 2) (zb (pvJ 3) zd ze) ze)) (zb (pvJ 0) zd ze) wT) ze)))) zd)))))),?_⟩;obtain⟨f0,f1,hc⟩:=hz.1.cyc;open_k0;refine gq λ_ kq=>⟨pa,la,f,dy,c,day,rfl,hz.1,λk k0 k1 a b p1 H1 s1 e1=>kq _ _ ?_,q2,q3⟩
 have bw:=vh f0 f1 hc k0 k1;refine⟨p1,_,rfl,SqT.of e1,rfl,?_⟩;open_k0;refine⟨le,ys,day,rfl,(Kp.of_same s1).sqL hS,hY.1.same s1,hY.2.1,hY.2.2.1,hY.2.2.2.1,λrt as H2 _ s2 e2 t2=> ?_⟩;have s12:=s1.trans s2;refine opq λ_ kq=> ?_;obtain⟨ts,tA,tk,tz⟩:=jS dy c hY.2.2.1 hY.2.2.2.1 hY.2.1 (hY.1.same s12) hY.2.2.2.2.1 e2 t2;apply kq;have hx:=(hY.same s12).tmx (λt h=>(tA.2.2.1 t h).2.2.1) tz;refine⟨pa,rt,la,f,dy,c,ts,rfl,hz.1.same s12,tA,λlo os H3 s3 ho om=> ?_⟩;have s13:=s12.trans s3;have hxo:=jP om hx
 (open_k0;repeat (dsimp only[qk,yr];open_k0))
 refine⟨lo,day+1,Cal.beg f dy c (k+1),f,dy,c,os,G,rfl,ho,'o',hG ts tk _ om,λr rs H4 nr s4 yA yW yS yl=>⟨r,rfl,⟨_,SqL.of yA.1⟩,λl2 hl2 aa=> ?_⟩⟩;have s14:=s13.trans s4;refine qr (λj xs _=>xs=(((rs.take j).map (·.2)).map λx=>yf zs (Cal.beg f dy c k) (Cal.beg f dy c (k+1)) x.1 x.2.1 x.2.2).map V.int) (qV (SqL.of yA.1)) hl2 (by rw[Ja];exact qy 'o') (λ_ _=>rfl) (λj y xs H8 K1 K0 hxx sm pv hl kt ks=> ?_) (λxs H5 s5 pv _ w5=> ?_)
 ·obtain⟨y,hy,rfl⟩: ∃w',rs[j]? =some w'/\y= .ref w'.1:=by
   rw[Jh] at hxx;obtain⟨u,e,rfl⟩:=Jk.mp hxx;exact⟨u,e,rfl⟩
  have hm:=Ji hy;refine opq λ_ kq=> ?_;obtain⟨s,g1,g2,g3⟩:=yA.2 y hm;obtain⟨dd,o0,o1,o2,so,ey⟩:=yS y hm;have sx:=st_x (zs:=zs) (λt h=>by obtain⟨o,ho',rfl⟩:=Jw.mp h;exact(ho.2.2.1 o ho').2.2.1) (λt h=>by obtain⟨o,ho',rfl⟩:=Jw.mp h;exact hxo o ho') so;rw[<-ey] at sx;obtain⟨r1,r2,r3⟩:=Rws.in hy yW;apply kq;open_k0;refine(show New _ _ _ from λp5 H9 _ s9 e9=> ?_);refine⟨pa,la,f,dy,c,zs,_,p5,y.1,s,_,_,_,_,rfl,hz.same (s14.trans (sm.trans s9)),sx,e9,(sm.trans s9) _ _ g1,(sm.trans s9) _ _ g2,'o','o','o','o','o',λH10 s10=>kt _ _ (s9.trans s10) λH5 _=> ?_⟩;rw[pv,JH,hy,Option.toList_some,Jd,Jd,Jd];rfl
 ·rw[Ja,JC] at pv;subst pv;refine⟨l2,rfl,_,SqL.of w5,?_⟩;rw[uE yW];exact q k k0 k1 a b H5 (s14.trans s5)
def jU:Sp:=λvs H Q _=> ∃c k:Int,vs= [.int c, .int k]/\0<=k/\k<=1000/\ ∀r,0<=r->r<10 ^ 16->Q (.int r) H
theorem sc_17:FnScope ["_law_cell","_law_k","_law_number"] ["_law_cell","_law_k"] (zC s_17):=by sl_open
theorem ok_17(T:Txt w K mg t):FnOk P w K mg base (CXE P w) 1 t.a_17 t.d_17 ["_law_cell","_law_k"] (jU):=by
 refine T.F_17.fn.okX sc_17 ?_ λcdv A outer s H vs Q E L hr h=> ?_
 ·kdl_open
 refine opq λ_ kq=> ?_;obtain⟨c,k,rfl,k0,k1,q⟩:=h;apply kq;have nd:=sc_17.nd;refine⟨_,(zj (psJ 2 nd (zg zO (zg zI (zg zI (zg qA (zg zO (pvJ 0) zc) zc) (zg qA (pvJ 1) zc)) zc) zc)) (zj (psJ 2 nd (zg zO (zg zI (zg qA (pvJ 2) (pvJ 2)) (pvJ 1)) zc)) (zk (zB (zg zI (zg qA (zg zO (zg qA (pvJ 2) (zg zI (pvJ 2) zc)) zc) zc) (pvJ 2)))))),?_⟩;open_k0;generalize h1:(c % 2147483647*48271+k*69621+7919) % 2147483629=n1;have b1:0<=n1/\n1<2147483629:=by omega
 generalize h2:(n1*n1+k) % 2147483587=n2;have b2:0<=n2/\n2<2147483587:=by
  rw[<-h2];exact⟨JN _ 'd',JL _ 'd'⟩
 generalize h3:n2*(n2+69621) % 2147483563=n3;have b3:0<=n3/\n3<2147483563:=by
  rw[<-h3];exact⟨JN _ 'd',JL _ 'd'⟩
 refine⟨.inl ⟨'o','o'⟩, .inl ⟨'o','o'⟩, .inl ⟨'o','o'⟩, .inl ⟨'o','o'⟩, .inl ⟨'o','o'⟩,q _ 'o' 'o'⟩
def zjf(K:Fg):Sp:=λvs H Q _=> ∃(l:Addr) (cs:List Int) (k:Int),vs= [.ref l, .int k]/\SqL K H l (cs.map V.int)/\0<=k/\k<=1000/\cs.length<=10000/\ ∀r,Q (.int r) H
theorem sc_18:FnScope ["_law_script","_law_k"] ["_law_script","_law_k"] (zC s_18):=by sl_open
theorem ok_18(T:Txt w K mg t):FnOk P w K mg base (CXE P w) 2 t.a_18 t.d_18 ["_law_script","_law_k"] (zjf K):=by
 refine T.F_18.fn.okX sc_18 ?_ λcdv A outer s H vs Q E L hr h=> ?_
 ·kdl_open
 refine opq λ_ kq=> ?_;obtain⟨l,cs,k,rfl,hl,k0,k1,c1,q⟩:=h;apply kq;have nd:=sc_18.nd;refine⟨_,(zj (zP (PWQ.pq (wL (yu qo (pvJ 1) (zY xj (by rfl) T.no_len qU (zb (pvJ 0) zd))) (wK (qg (zg zO (ixJ z5 (pvJ 0) (zg zO zc (zY xj (by rfl) T.no_len qU (zb (pvJ 0) zd)))) zc) zc)))) (zk (zB (ixJ z5 (pvJ 0) (pvJ 1)))) zQ) (zj (zP (qg (zY xj (by rfl) T.no_len qU (zb (pvJ 0) zd)) zc) (zk (zB (peD L.toLv (ok_17 T) hr T.F_17 (zb zc (zb (pvJ 1) zd ze) zE)))) zQ) (zk (zB (peD L.toLv (ok_17 T) hr T.F_17 (zb (ixJ z5 (pvJ 0) (zg zO (pvJ 1) (zY xj (by rfl) T.no_len qU (zb (pvJ 0) zd)))) (zb (pvJ 1) zd ze) yH)))))),?_⟩;open_k0;have mixed: ∀c,jU [V.int c,V.int k] H Q E:=λc=>⟨c,k,rfl,k0,k1,λr _ _=>q r⟩
 have tail: ∃x,(SqL K H l x\/SqT K H l x)/\if (x.length:Int)=0 then jU [V.int 0,V.int k] H Q E else∃x,(SqL K H l x\/SqT K H l x)/\0<(x.length:Int)/\wu K (V.ref l) (V.int (k % x.length)) H λx H1=>jU [x,V.int k] H1 Q E:=by
  refine⟨_, .inl hl,?_⟩;rw[Ja];split
  ·exact mixed 0
  ·rename_i n0;refine⟨_, .inl hl,?_⟩;rw[Ja];exact⟨'o',ixL hl (wQ (JN _ n0) (JL _ 'o')) (mixed _)⟩
 refine⟨_, .inl hl,?_⟩;rw[Ja];split
 ·refine⟨_, .inl hl,?_⟩;rw[Ja];refine⟨'o',ixL hl (wQ (JN _ 'o') (JL _ 'o')) ⟨_,rfl,?_⟩⟩;split
  ·exact ixL hl (wQ k0 'o') (q _)
  ·exact tail
 ·exact tail
def zil(K:Fg):Sp:=λvs H Q _=> ∃c:Int,vs= [.int c]/\ ∀l (ws:List (List Nat)) H',zh H H'->ws.length=8->H' l=some (.lst (ws.map λw=> .str (SL w)))->Q (.ref l) H'
theorem sc_19:FnScope ["_law_cell","_law_size","_law_at","_law_other","_law_letters","_law_names_here","_law_k","_law_one"] ["_law_cell"] (zC s_19):=by sl_open
theorem ok_19(T:Txt w K mg t):FnOk P w K mg base (CXE P w) 1 t.a_19 t.d_19 ["_law_cell"] (zil K):=by
 refine T.F_19.fn.okX sc_19 ?_ λcdv A outer s H vs Q E L hr h=> ?_
 ·kdl_open
 obtain⟨c,rfl,q⟩:=h;have nd:=sc_19.nd;refine⟨_,(zj (psJ 1 nd (zg zI zc (zg zO (pvJ 0) zc))) (zj (psJ 2 nd (zg zO (zg yL (pvJ 0) zc) (pvJ 1))) (zj (psJ 3 nd (ixJ zqZ (zZ st_19) (zg zO (zg yL (pvJ 0) zc) zc))) (zj (psJ 4 nd (zZ st_18)) (zj (psJ 5 nd (yi zd)) (zj (qj (by passes_own) rfl (xR (by rfl) T.no_range (zb zc zd)) (zq (i:=6) nd rfl (Or.inl rfl)) (zj (psJ 7 nd (ixJ zqZ (pvJ 4) (zg zO (zg zI (zg yL (pvJ 0) zc) (zg qA zc (pvJ 6))) zc))) (zk (qe (qw PySem.F.plainAttrs_list PySem.F.slot_list_append PySem.F.type_list_append qT (pvJ 5) (zb (zg zhA (zg zhA (zg zhF (pvJ 3) (pvJ 2)) (pvJ 7)) (zg zhF (pvJ 3) (zg yj (zg yj (pvJ 1) zc) (pvJ 2)))) zd)))))) (zk (zB (pvJ 5))))))))),?_⟩;open_k0;have sb:1<=1+c % 8/\1+c % 8<=8:=by omega
 generalize 1+c % 8=sz at sb ⊢;have ab:0<=c / 8 % sz/\c / 8 % sz<sz:=⟨JN _ 'o',JL _ 'o'⟩
 generalize c / 8 % sz=at' at ab ⊢;obtain⟨ot,eo⟩: ∃ot,atI [97,98,99,100,101,102,103,104] (c / 64 % 8)=some ot:=by
  obtain⟨r,hr⟩: ∃r:Nat,c / 64 % 8=r:=⟨(c / 64 % 8).toNat,'o'⟩
  have r8:r<8:=by omega
  rw[hr];exact⟨_,qp (Jb (by show r<8;exact r8))⟩
 refine⟨'o',ot,eo,λln H1 hln s1 e1=> ?_⟩;clear eo;obtain⟨a,rfl⟩:=Int.eq_ofNat_of_zero_le ab.1
 ((try dsimp only);refine qq λR hR=> ?_;(open_k0;repeat (dsimp only[yr,qt,yZ,qm];open_k0)))
 refine⟨'o','o',hR _ _ ?_⟩;clear hR;obtain⟨Pv,hPv⟩: ∃Pv:Nat->St->Hp->Prop,Pv=λi σ1 H5=>zh H H5/\ ∃ws:List (List Nat),ws.length=i/\H5 ln=some (.lst (ws.map λw=>V.str (SL w)))/\ ∃x6 x7,σ1= [some (.int c),some (.int sz),some (.int (a:Nat)),some (.str (SL [ot])),some (.str (SL azL)),some (.ref ln),x6,x7]:=⟨_,rfl⟩
 refine wk Pv (by rw[hPv];exact⟨s1, [],rfl,e1,_,_,rfl⟩) (λi σ1 H5 hi h=> ?_) (λσ1 H5 h=> ?_)
 ·rw[hPv] at h;refine opq λ_ kq=> ?_;obtain⟨s5,ws,wl,e5,x6,x7,rfl⟩:=h;apply kq;open_k0;have rb:0<=(c / 512+3*(0+(i:Int))) % 26/\(c / 512+3*(0+(i:Int))) % 26<26:=⟨JN _ 'd',JL _ 'd'⟩
  refine⟨.inl ⟨'o','o'⟩,_,zq6 rb.1 rb.2,?_⟩;generalize 97+((c / 512+3*(0+(i:Int))) % 26).toNat=u
  (open_k0;repeat (dsimp only[tBM];open_k0))
  have rl: ∀n:Nat,(List.replicate n [ot]).flatten.length=n:=λn=>by simp
  obtain⟨b,hb⟩: ∃b:Nat,sz - 1 - (a:Int)=b:=⟨(sz - 1 - (a:Int)).toNat,'o'⟩
  refine⟨.inl ⟨rfl,_,SqL.of e5⟩,a,rfl,'o',qX (by rw[rl];omega),b,hb,'o',qX (by rw[Jj,rl,rl];show a+1+b<=1000;omega),?_⟩;refine⟨ln,_,_,rfl,rfl,e5,by rw[Ja];exact xl 'o',?_⟩;rw[hPv];exact⟨uc s5 hln,ws++ [_],by rw[Jj,wl];rfl,by rw[zN,Jd];rfl,_,_,rfl⟩
 ·rw[hPv] at h;refine opq λ_ kq=> ?_;obtain⟨s5,ws,wl,e5,x6,x7,rfl⟩:=h;apply kq;open_k0;exact q ln ws H5 s5 'o' e5
theorem vT(h:i.natAbs<=10 ^ 30):Sm i:=Sm.pow10 (k:=30) 'd' h
theorem qD{xs:List Int}{lo hi:Int}(b: ∀x∈xs,lo<=x/\x<=hi)(h0:0<=i)(h1:i<xs.length)(q: ∀v H',zh H H'->lo<=v->v<=hi->Q (.int v) H'):New H (.lst (xs.map V.int)) λx H1=>wu K x (.int i) H1 Q:=λp H1 _ s1 e1=>ixL (SqL.of e1) (wQ h0 h1) (q _ _ s1 (kT b h0 h1).1 (kT b h0 h1).2)
theorem zqA{z:V×Pl}{lp:Addr}{o:HO}(h:vB K H z)(e:H lp=some (.lst xs)):vB K (upd H lp o) z:=by
 obtain⟨p,e1,q⟩:=h;refine⟨p,e1,?_⟩;rcases q with(h|⟨o',h⟩)|h
 ·exact .inl (.inl (by rw[zu (λz=>by rw[z,e] at h;cases h)];exact h))
 ·exact .inl (.inr ⟨o',by rw[zu (λz=>by rw[z,e] at h;cases h)];exact h⟩)
 ·exact .inr h
def zim(K:Fg):Sp:=λvs H Q _=> ∃(c:Int) (ln:Addr) (ws:List (List Nat)),vs= [.int c, .ref ln]/\ws.length=8/\H ln=some (.lst (ws.map λw=> .str (SL w)))/\ ∀l (zs:List (V×Pl)) H',zh H H'->H' l=some (.lst (zs.map (·.1)))->wV K H' zs->vR zs->Q (.ref l) H'
theorem sc_1a:FnScope ["_law_cell","_law_names_here","_law_many","_law_plans_here","_law_k","_law_price","_law_count"] ["_law_cell","_law_names_here"] (zC s_1a):=by sl_open
theorem ok_1a(T:Txt w K mg t):FnOk P w K mg base (CXE P w) 1 t.a_1a t.d_1a ["_law_cell","_law_names_here"] (zim K):=by
 refine T.F_1a.fn.okX sc_1a ?_ λcdv A outer s H vs Q E L hr h=> ?_
 ·kdl_open
 refine opq λ_ kq=> ?_;obtain⟨c,ln,ws,rfl,w8,hn,q⟩:=h;apply kq;have nd:=sc_1a.nd;refine⟨_,(zj (psJ 2 nd (ixJ z5 (yi (zb (zg zI zc (zg zO (pvJ 0) zc)) (zb zc zd zE) zT)) (xJ v9 (by rfl) T.no_int ub (zb (xh qR (zg zO (zg yV (pvJ 0) zc) zc) zc (yF _)) zd)))) (zj (psJ 0 nd (zg yV (pvJ 0) zc)) (zj (psJ 3 nd (yi zd)) (zj (qj (by passes_own) rfl (xR (by rfl) T.no_range (zb (pvJ 2) zd)) (zq (i:=4) nd rfl (Or.inl rfl)) (zj (psJ 5 nd (ixJ z5 (yi (zb (zg zO (zg yV (pvJ 0) zc) zc) (zb (zg zO (zg yV (pvJ 0) zc) (zg zg7 zc zc)) (zb (zg zO (zg yV (pvJ 0) zc) zc) (zb zc zd zE) zT) zT) zT)) (zg zO (pvJ 0) zc))) (zj (psJ 0 nd (zg yV (zg yV (pvJ 0) zc) (ixJ z5 (yi (zb zc (zb (zg zg7 zc zc) (zb zc (zb zc zd zE) zE) zT) zE)) (zg zO (pvJ 0) zc)))) (zj (psJ 6 nd (ixJ z5 (yi (zb zc (zb zc (zb (ixJ z5 (yi (zb zc (zb zc (zb zc (zb zc zd zE) zE) zE) zE)) (zg zO (zg yV (pvJ 0) zc) zc)) (zb (zg zI zc (zg zO (zg yV (pvJ 0) zc) zc)) zd zT) yH) zE) zE)) (zg zO (pvJ 0) zc))) (zj (psJ 0 nd (zg yV (zg yV (pvJ 0) zc) (ixJ z5 (yi (zb zc (zb zc (zb zc (zb zc zd zE) zE) zE) zE)) (zg zO (pvJ 0) zc)))) (zk (qe (qw PySem.F.plainAttrs_list PySem.F.slot_list_append PySem.F.type_list_append qT (pvJ 3) (zb (zW (zb (ixJ z5 (pvJ 1) (pvJ 4)) (zb (pvJ 5) (zb (pvJ 6) zd ze) ze) yH)) zd))))))))) (zk (zB (pvJ 3))))))),?_⟩;open_k0;intro p1 H1 _ s1 e1;have e1':H1 p1=some (.lst (([1+c % 4,8]:List Int).map V.int)):=e1;obtain⟨ix,hix⟩: ∃ix:Int,ix=if c / 4 % 8=5 then 1 else 0:=⟨_,rfl⟩
 rw[<-hix];have ib:0<=ix/\ix<2:=by rw[hix];split<;>decide
 have bn:=kT (xs:= [1+c % 4,8]) (lo:=1) (hi:=8) (λx hx=>by
  simp only[JD,List.not_mem_nil,or_false] at hx;rcases hx with rfl|rfl<;>omega) ib.1 ib.2
 refine⟨vT 'd',ixL (SqL.of e1') (wQ ib.1 ib.2) ?_⟩;clear e1 e1' hix;generalize ([1+c % 4,8]:List Int).getD ix.toNat 0=n at bn ⊢;refine⟨vT 'd',λlp H2 hlp s2 e2=> ?_⟩;have s12:=s1.trans s2;have nlp:H lp=none:=by
  cases h:H lp with
  |none=>rfl
  |some u=>rw[s1 _ _ h] at hlp;cases hlp
 ((try dsimp only);refine qq λR hR=> ?_;(open_k0;repeat (dsimp only[yr,qt,yZ,qm];open_k0)))
 refine⟨'o','o',hR _ _ ?_⟩;clear hR;obtain⟨Pv,hPv⟩: ∃Pv:Nat->St->Hp->Prop,Pv=λi σ1 H5=>zh H H5/\ ∃(c':Int) (zs:List (V×Pl)),zs.length=i/\H5 lp=some (.lst (zs.map (·.1)))/\wV K H5 zs/\(∀z∈zs,(0<=z.2.2.1/\z.2.2.1<10 ^ 30)/\0<=z.2.2.2/\z.2.2.2<=400)/\ ∃x4 x5 x6,σ1= [some (.int c'),some (.ref ln),some (.int n),some (.ref lp),x4,x5,x6]:=⟨_,rfl⟩
 refine wk Pv (by rw[hPv];exact⟨s12,_, [],rfl,e2,(List.forall_mem_nil _),(List.forall_mem_nil _),_,_,_,rfl⟩) (λi σ1 H5 hi h=> ?_) (λσ1 H5 h=> ?_)
 ·rw[hPv] at h;refine opq λ_ kq=> ?_;obtain⟨s5,c',zs,zl,e5,pa5,pb5,x4,x5,x6,rfl⟩:=h;apply kq;open_k0;have i4: ∀x:Int,0<=x % 4/\x % 4<4:=λx=>by omega
  have S4:Sm 4:=vT 'd';have cp:wO 10 30:=by unfold wO;decide
  refine⟨S4,S4,cp,'d',S4,qD (xs:= [c' / 4 % 1000,c' / 4 % 10 ^ 30,c' / 4 % 7,0]) (lo:=0) (hi:=10 ^ 30 - 1) (λx hx=>by
   simp only[JD,List.not_mem_nil,or_false] at hx;rcases hx with rfl|rfl|rfl|rfl<;>omega) (i4 c').1 (i4 c').2 λpr H6 s6 pr0 pr1=>⟨S4,cp,qD (xs:= [1000,10 ^ 30,7,1]) (lo:=1) (hi:=10 ^ 30) (λx hx=>by
   simp only[JD,List.not_mem_nil,or_false] at hx;rcases hx with rfl|rfl|rfl|rfl<;>decide) (i4 c').1 (i4 c').2 λd1 H7 s7 d10 d11=>⟨d1,rfl,'o',vT 'o',?_⟩⟩⟩
  generalize c' / 4 / d1=c2;refine λp9 H9 h9 s9 e9=>⟨S4,qD (xs:= [7,28,30,31]) (lo:=0) (hi:=400) (λx hx=>by
   simp only[JD,List.not_mem_nil,or_false] at hx;rcases hx with rfl|rfl|rfl|rfl<;>decide) (i4 (c2 / 4)).1 (i4 (c2 / 4)).2 (λn1 H8 s8 n10 n11=> ?_) p9 H9 h9 s9 e9⟩
  refine⟨S4,qD (xs:= [0,0,n1,1+c2 / 4 % 400]) (lo:=0) (hi:=400) (λx hx=>by
   simp only[JD,List.not_mem_nil,or_false] at hx;rcases hx with rfl|rfl|rfl|rfl<;>omega) (i4 c2).1 (i4 c2).2 λct HA sA ct0 ct1=>⟨S4,qD (xs:= [1,1,4,400]) (lo:=1) (hi:=400) (λx hx=>by
   simp only[JD,List.not_mem_nil,or_false] at hx;rcases hx with rfl|rfl|rfl|rfl<;>decide) (i4 c2).1 (i4 c2).2 λd2 HB sB d20 d21=>⟨d2,rfl,'o',vT 'o',?_⟩⟩⟩
  have s5B:=s6.trans (s7.trans (s8.trans (sA.trans sB)));have sHB:=s5.trans s5B;have e5B:=s5B _ _ e5;have iw:i<ws.length:=by omega
  (open_k0;repeat (dsimp only[tBM];open_k0))
  refine⟨.inl ⟨rfl,_,SqL.of e5B⟩,ixL (v:= .str (SL ws[i])) (SqL.of (sHB _ _ hn)) (by rw[JS];exact qp (by rw[Jh,Jb iw];rfl)) ?_⟩;intro pt HC _ sC eC;refine⟨lp,_,_,rfl,rfl,sC _ _ e5B,by rw[Ja];exact xl 'o',?_⟩;rw[hPv];refine⟨uc (sHB.trans sC) nlp,_,zs++ [(.ref pt,ws[i],pr,ct)],by rw[Jj,zl];rfl,by rw[zN,Jd];rfl,λz hz=> ?_,λz hz=> ?_,_,_,_,rfl⟩
  ·refine zqA ?_ (sC _ _ e5B);rcases Jr.mp hz with h|h
   ·exact(pa5 z h).same (s5B.trans sC)
   ·rw[Jm.mp h];exact⟨pt,rfl,SqT.of eC⟩
  ·rcases Jr.mp hz with h|h
   ·exact pb5 z h
   ·rw[Jm.mp h];exact⟨⟨pr0,by show pr<10 ^ 30;omega⟩,ct0,ct1⟩
 ·rw[hPv] at h;refine opq λ_ kq=> ?_;obtain⟨s5,c',zs,zl,e5,pa5,pb5,x4,x5,x6,rfl⟩:=h;apply kq;open_k0;exact q lp zs H5 s5 e5 pa5 ⟨'o','o',pb5⟩
def zm2(K:Fg):Sp:=λvs H Q _=> ∃(a:Addr) (cs:List Int),vs= [.ref a]/\SqL K H a (cs.map V.int)/\cs.length<=10000/\ ∀p l (zs:List (V×Pl)) (f:Int) dy cc H',zh H H'->yn K H' p l f dy cc zs->Q (.ref p) H'
theorem sc_1b:FnScope ["_law_script","_law_x","_law_y","_law_first","_law_cycle"] ["_law_script"] (zC s_1b):=by sl_open
theorem ok_1b(T:Txt w K mg t):FnOk P w K mg base (CXE P w) 3 t.a_1b t.d_1b ["_law_script"] (zm2 K):=by
 refine T.F_1b.fn.okX sc_1b ?_ λcdv A outer s H vs Q E L hr h=> ?_
 ·kdl_open
 refine opq λ_ kq=> ?_;obtain⟨a,cs,rfl,hS,cl,q⟩:=h;apply kq;have nd:=sc_1b.nd;refine⟨_,(zj (psJ 1 nd (peD L.toLv (ok_18 T) hr T.F_18 (zb (pvJ 0) (zb zc zd zE) ze))) (zj (psJ 2 nd (peD L.toLv (ok_18 T) hr T.F_18 (zb (pvJ 0) (zb zc zd zE) ze))) (zj (psJ 3 nd (ixJ z5 (yi (zb zc (zb zc (zb zc (zb zc (zb (zg zO (zg yL (pvJ 1) zc) zc) (zb (zg zI zc (zg zO (zg yL (pvJ 1) zc) zc)) zd zT) zT) zE) zE) zE) zE)) (zg zO (pvJ 1) zc))) (zj (psJ 4 nd (zW (zb (zZ st_4) (zb (ixJ z5 (yi (zb zc (zb (zg zI zc (zg zO (zg yL (pvJ 2) zc) zc)) (zb (zg zI zc (zg zO (zg yL (pvJ 2) zc) zc)) (zb zc zd zE) zT) zT) zE)) (zg zO (zg yL (pvJ 2) zc) zc)) zd yH) zE))) (zj (zP (qg (zg zO (pvJ 2) zc) zc) (zk (psJ 4 nd (zW (zb (zZ st_20) (zb (ixJ z5 (yi (zb (zg zI zc (zg zO (zg yL (pvJ 2) zc) zc)) (zb zc (zb zc (zb (zg zI zc (zg zO (zg yL (pvJ 2) zc) zc)) zd zT) zE) zE) zT)) (zg zO (zg yL (pvJ 2) zc) zc)) zd yH) zE)))) zQ) (zk (zB (zW (zb (peD L.toLv (ok_1a T) hr T.F_1a (zb (peD L.toLv (ok_18 T) hr T.F_18 (zb (pvJ 0) (zb zc zd zE) ze)) (zb (peD L.toLv (ok_19 T) hr T.F_19 (zb (zg yL (pvJ 2) zc) zd)) zd yB) yB)) (zb (pvJ 3) (zb (pvJ 4) zd ze) ze) yB))))))))),?_⟩;open_k0;refine⟨a,cs,0,rfl,hS,'d','d',cl,λx=> ?_⟩;refine⟨a,cs,1,rfl,hS,'d','d',cl,λy=> ?_⟩;try open_k0
 have last: ∀(f:Int) (dy:Bool) (cc:Int) (pc:Addr) (H1:Hp),zh H H1->0<=f->f<=3500000->H1 pc=some (.tup [.str (SL (if dy then [100,97,121,115] else [109,111,110,116,104,115])), .int cc])->Cal.CycOk dy cc->zjf K [V.ref a,V.int 2] H1 (λx_8 H1=>zil K [V.int (y / 3)] H1 (λx_9 H1=>zim K [x_8,x_9] H1 (λx_10 H1=>New H1 (HO.tup [x_10, .int f, .ref pc]) Q) E) E) E:=λf dy cc pc H1 s1 f0 f1 e1 hc=>
  ⟨a,cs,2,rfl,(Kp.of_same s1).sqL hS,'d','d',cl,λz=>⟨y / 3,rfl,λln ws H2 s2 w8 e2=>⟨z,ln,ws,rfl,w8,e2,λl zs H3 s3 e3 p3 i3 p H4 _ s4 e4=>q p l zs f dy cc H4 (s1.trans (s2.trans (s3.trans s4))) ⟨⟨pc,f0,f1,⟨SqT.of ((s2.trans (s3.trans s4)) _ _ e1),hc⟩,e4⟩,s4 _ _ e3,p3.same s4,i3⟩⟩⟩⟩
 refine qD (xs:= [738915,738944,0,3500000,x / 6 % 3500001,738915+x / 6 % 1461]) (lo:=0) (hi:=3500000) (λx hx=>by
  simp only[JD,List.not_mem_nil,or_false] at hx;rcases hx with rfl|rfl|rfl|rfl|rfl|rfl<;>omega) (JN x (show (6:Int)≠0 by decide)) (JL x (show (0:Int)<6 by decide)) λf H1 s1 f0 f1=> ?_
 refine qD (xs:= [1,1+y / 4 % 3,1+y / 4 % 12,1]) (lo:=1) (hi:=12) (λx hx=>by
  simp only[JD,List.not_mem_nil,or_false] at hx;rcases hx with rfl|rfl|rfl|rfl<;>omega) (JN _ (show (4:Int)≠0 by decide)) (JL _ (show (0:Int)<4 by decide)) λm H2 s2 m0 m1=> ?_
 refine λp3 H3 _ s3 e3=>yC (λ_=> ?_) (λ_=>last f false m p3 H3 (s1.trans (s2.trans s3)) f0 f1 e3 (Cal.cyc_months 'o' 'o'));refine qD (xs:= [1+y / 2 % 31,7,30,1+y / 2 % 400]) (lo:=1) (hi:=400) (λx hx=>by
  simp only[JD,List.not_mem_nil,or_false] at hx;rcases hx with rfl|rfl|rfl|rfl<;>omega) (JN _ (show (4:Int)≠0 by decide)) (JL _ (show (0:Int)<4 by decide)) λdd H4 s4 d0 d1=> ?_
 exact λp5 H5 _ s5 e5=>last f true dd p5 H5 (s1.trans (s2.trans (s3.trans (s4.trans s5)))) f0 f1 e5 (Cal.cyc_days 'o' 'o')
def zin(K:Fg):Sp:=λvs H Q _=> ∃(pa l:Addr) (f:Int) (dy:Bool) (c:Int) (b:Bool),vs= [.ref pa, .bl b]/\qu K H pa l f dy c/\ ∀k:Int,2<=k->k<=60-> ∀H',zh H H'->Q (.int (Cal.beg f dy c k - f)) H'
theorem sc_1c:FnScope ["_law_account_here","_law_far","_law_word","_law_many","_law_spans"] ["_law_account_here","_law_far"] (zC s_1c):=by sl_open
theorem ok_1c(T:Txt w K mg t):FnOk P w K mg base (CXE P w) 6 t.a_1c t.d_1c ["_law_account_here","_law_far"] (zin K):=by
 refine T.F_1c.fn.okX sc_1c ?_ λcdv A outer s H vs Q E L hr h=> ?_
 ·kdl_open
 refine opq λ_ kq=> ?_;obtain⟨pa,l,f,dy,c,b,rfl,⟨pc,f0,f1,hc,ep⟩,q⟩:=h;apply kq;have nd:=sc_1c.nd;refine⟨_,(zj (yv (ixJ zH (pvJ 0) zc) (z7 (n:=2) rfl (zD (zq (i:=2) nd rfl (Or.inl rfl)) (zD (zq (i:=3) nd rfl (Or.inl rfl)) yD)))) (zj (psJ 4 nd zc) (zj (zP (yu xt (pvJ 3) (ixJ z5 (yi (zb zc (zb zc zd zE) zE)) (xJ v9 (by rfl) T.no_int ub (zb (xh qR (pvJ 2) (zZ st_20) (yF _)) zd)))) (zk (psJ 4 nd zc)) zQ) (zj (zP (PWQ.pq (wL (q5 (jr (pvJ 1))) (wK (yu zor (pvJ 3) (ixJ z5 (yi (zb zc (zb zc zd zE) zE)) (xJ v9 (by rfl) T.no_int ub (zb (xh qR (pvJ 2) (zZ st_20) (yF _)) zd))))))) (zk (psJ 4 nd (ixJ z5 (yi (zb zc (zb zc zd zE) zE)) (xJ v9 (by rfl) T.no_int ub (zb (xh qR (pvJ 2) (zZ st_20) (yF _)) zd))))) zQ) (zk (zB (zg yj (peD L.toLv (ok_07 T) hr T.F_07 (zb (ixJ zH (pvJ 0) zc) (zb (ixJ zH (pvJ 0) zc) (zb (pvJ 4) zd ze) yH) yH)) (ixJ zH (pvJ 0) zc)))))))),?_⟩;open_k0;refine ixT (SqT.of ep) (xO _ _ _ _) ⟨pc,_,rfl,hc.1,rfl,?_⟩;open_k0;obtain⟨ix,hix⟩: ∃ix:Int,ix=if (if dy=true then [100,97,121,115] else [109,111,110,116,104,115])= [100,97,121,115] then 1 else 0:=⟨_,rfl⟩
 rw[<-hix];have ib:0<=ix/\ix<2:=by rw[hix];split<;>decide
 clear hix;have last: ∀(k:Int) (H2:Hp),zh H H2->2<=k->k<=60->vq K (V.ref pa) (V.int 1) H2 λx H1=>vq K (V.ref pa) (V.int 2) H1 λx_1 H1=>zj0 K t [x,x_1,V.int k] H1 (λx H1=>vq K (V.ref pa) (V.int 1) H1 λy H2=> ∃i,x=V.int i/\ ∃x,y=V.int x/\Q (V.int (i - x)) H2) E:=λk H2 s2 k0 k1=>
  ixT (SqT.of (s2 _ _ ep)) (y8 _ _ _) (ixT (SqT.of (s2 _ _ ep)) (xO _ _ _ _) ⟨f,pc,dy,c,k,rfl,f0,f1,hc.same s2,λ_ _ H3 s3=>ixT (SqT.of (s3 _ _ (s2 _ _ ep))) (y8 _ _ _) ⟨_,rfl,_,rfl,q k k0 k1 H3 (s2.trans s3)⟩,λz=>absurd z 'o',λz=>absurd z 'o'⟩)
 have bd: ∀a d:Int,∀x∈ [a,d],min a d<=x/\x<=max a d:=λa d x hx=>by
  simp only[JD,List.not_mem_nil,or_false] at hx;rcases hx with rfl|rfl<;>omega
 refine qD (xs:= [3,40]) (bd 3 40) ib.1 ib.2 λv H2 s2 _ _=>⟨_,rfl,?_⟩
 refine yC (λ_=>yC (λ_=>qD (xs:= [1,31]) (bd 1 31) ib.1 ib.2 λw H3 s3 _ _=>⟨_,rfl,yC (λ_=>qD (xs:= [20,60]) (bd 20 60) ib.1 ib.2 λu H4 s4 u0 u1=>last u H4 ((s2.trans s3).trans s4) 'o' 'o') (λ_=>last 2 H3 (s2.trans s3) 'd' 'd')⟩) (λ_=>last 2 H2 s2 'd' 'd'))
  (λ_=>yC (λ_=>qD (xs:= [1,31]) (bd 1 31) ib.1 ib.2 λw H3 s3 _ _=>⟨_,rfl,yC (λ_=>qD (xs:= [20,60]) (bd 20 60) ib.1 ib.2 λu H4 s4 u0 u1=>last u H4 ((s2.trans s3).trans s4) 'o' 'o') (λ_=>last 8 H3 (s2.trans s3) 'd' 'd')⟩) (λ_=>last 8 H2 s2 'd' 'd'))
theorem zio: ∀{L:List Int} {i:Nat} {k:Int},L.Nodup->L[i]? =some k->L.erase k=L.eraseIdx i
 | [],i,k,_,h=>by simp at h
 |x::r,0,k,_,h=>by cases h;exact List.erase_cons_head ..
 |x::r,i+1,k,d,h=>by
  have h':r[i]? =some k:=h;have ne: ¬x=k:=λz=>(List.nodup_cons.mp d).1 (z ▸ Ji h');rw[List.erase_cons_tail (by simpa using ne),List.eraseIdx_cons_succ,zio (List.nodup_cons.mp d).2 h']
theorem zru{j n:Nat}(h:j<n):PySem.seqIndex? (j:Int) n=some j:=by
 have c0: ¬((j:Int)<0):=by omega
 simp [PySem.seqIndex?,c0,h]
theorem zqB{a:Int}(a0:0<=a)(a1:a<2)(i0:0<=i)(i1:i<4): ∃w,w<4/\ ∃v,atI [V.str (SL [115,116,111,112]),V.str (SL [108,97,115,116])] a=some v/\atI [V.str (SL [104,111,108,100]),V.str (SL [103,111]),v,V.str (SL [103,111])] i=some (.str (SL (xm w))):=by
 have h:i=0\/i=1\/i=2\/i=3:=by omega
 have g:a=0\/a=1:=by omega
 rcases g with rfl|rfl
 ·rcases h with rfl|rfl|rfl|rfl
  ·exact⟨0,'d',_,rfl,rfl⟩
  ·exact⟨1,'d',_,rfl,rfl⟩
  ·exact⟨2,'d',_,rfl,rfl⟩
  ·exact⟨1,'d',_,rfl,rfl⟩
 ·rcases h with rfl|rfl|rfl|rfl
  ·exact⟨0,'d',_,rfl,rfl⟩
  ·exact⟨1,'d',_,rfl,rfl⟩
  ·exact⟨3,'d',_,rfl,rfl⟩
  ·exact⟨1,'d',_,rfl,rfl⟩
def zkU(K:Fg):Sp:=λvs H Q _=> ∃(x n en:Int) (pa la ll:Addr) (f:Int) (dy:Bool) (c:Int) (zs:List (V×Pl)) (re:Int) (N:Nat) (L:List Int),vs= [.int x, .int n, .int en, .ref pa, .int re, .ref ll]/\n=N/\yn K H pa la f dy c zs/\0<re/\re<10 ^ 9/\f+re<=Cal.beg f dy c 60/\0<=en/\en<re/\H ll=some (.lst (L.map V.int))/\L.length<=40/\L.Nodup/\ ∀p ch H',(∀b o,b≠ll->H b=some o->H' b=some o)->H' ll=some (.lst ((qO N L ch).map V.int))->H' p=some (.tup ((chD ch).map sv))->jc (zs.map λz=>z.2.1) f (Cal.beg f dy c 60) L ch->Q (.ref p) H'
theorem sc_1d:FnScope ["_law_x","_law_number","_law_entered","_law_account_here","_law_reach_here","_law_open_terms","_law_own","_law_way"] ["_law_x","_law_number","_law_entered","_law_account_here","_law_reach_here","_law_open_terms"] (zC s_1d):=by sl_open
theorem ok_1d(T:Txt w K mg t):FnOk P w K mg base (CXE P w) 1 t.a_1d t.d_1d ["_law_x","_law_number","_law_entered","_law_account_here","_law_reach_here","_law_open_terms"] (zkU K):=by
 refine T.F_1d.fn.okX sc_1d ?_ λcdv A outer s H vs Q E L hr h=> ?_
 ·kdl_open
 refine opq λ_ kq=> ?_;obtain⟨x,n,en,pa,la,ll,f,dy,c,zs,re,N,L,rfl,rfl,hz,r0,r1,r2,en0,en1,el,l40,nd,q⟩:=h;apply kq;have nd:=sc_1d.nd;refine⟨_,(zj (psJ 6 nd (zg zI (ixJ zH (pvJ 3) zc) (ixJ z5 (yi (zb (zg zO (zg yV (pvJ 0) zc) (pvJ 4)) (zb (pvJ 2) (zb (zY (xG (by rfl)) (by rfl) T.no_min xK (zb (zg yj (pvJ 4) zc) (zb (zg zI (pvJ 2) (zg zO (zg yV (pvJ 0) zc) zc)) zd zT) zT)) zd yB) ze) zT)) (zg zO (zg yV (pvJ 0) zc) zc)))) (zj (psJ 7 nd (zg zO (pvJ 0) zc)) (zj (xv (zP (PWQ.pq (wL (qg (pvJ 7) zc) (wK (q5 (qB (uY hr) (pvJ 5) (yi zd) (yF _)))))) (zk (zB (zW (zb (zZ st_13) (zb (qw PySem.F.plainAttrs_list PySem.F.slot_list_pop PySem.F.type_list_pop zll (pvJ 5) (zb (zg zO (zg yV (pvJ 0) zc) (zY xj (by rfl) T.no_len qU (zb (pvJ 5) zd))) zd)) zd yB) zE)))) zQ)) (zj (xv (zP (PWQ.pq (wL (yu xt (pvJ 7) zc) (wK (yu qo (pvJ 7) zc)))) (zk (zB (zW (zb (zZ st_14) (zb (zg zI zc (ixJ z5 (yi (zb (zg zO (zg yV (pvJ 0) zc) zc) (zb (zg zO (zg yV (pvJ 0) zc) (zg yj (zg zg7 zc zc) zc)) zd zT) zT)) (zg zO (zg yV (pvJ 0) zc) zc))) zd zT) zE)))) zQ)) (zj (zP (qg (pvJ 7) zc) (zk (zB (zW (zb (zZ st_16) zd)))) zQ) (zj (qe (qw PySem.F.plainAttrs_list PySem.F.slot_list_append PySem.F.type_list_append qT (pvJ 5) (zb (pvJ 1) zd))) (zj (psJ 0 nd (zg yV (zg yV (pvJ 0) zc) (pvJ 4))) (zj (zP (yu qo (pvJ 7) zc) (zk (zB (zW (zb (zZ st_11) (zb (pvJ 6) (zb (ixJ zH (ixJ z5 (ixJ zH (pvJ 3) zc) (zg zO (pvJ 0) (zY xj (by rfl) T.no_len qU (zb (ixJ zH (pvJ 3) zc) zd)))) zc) zd yH) ze) zE)))) zQ) (zj (zP (yu qo (pvJ 7) zc) (zk (zB (zW (zb (zZ st_12) (zb (pvJ 6) (zb (ixJ z5 (yi (zb (zg zO (pvJ 0) zc) (zb (zg zO (pvJ 0) zc) zd zT) zT)) (zg yj (pvJ 7) zc)) zd yH) ze) zE)))) zQ) (zk (zB (zW (zb (ixJ z5 (yi (zb (zZ st_21) (zb (zZ st_22) (zb (ixJ z5 (yi (zb (zZ st_23) (zb (zZ st_9) zd zE) zE)) (zg zO (pvJ 0) zc)) (zb (zZ st_22) zd zE) yH) zE) zE)) (zg yj (pvJ 7) zc)) (zb (pvJ 6) zd ze) yH))))))))))))),?_⟩;refine opq λ_ kq=> ?_;obtain⟨⟨pc,_,_,_,ep⟩,ela,za,zi⟩:=hz;apply kq;have hT:=SqT.of (K:=K) ep;have hW: ∀i:Int,i.natAbs<=10 ^ 30->Sm i:=λi h=>vT h;open_k0;refine ixT hT (y8 _ _ _) ⟨hW _ 'd',r0,hW _ 'd',λp1 H1 h1 s1 e1=>⟨hW _ 'd',?_⟩⟩;refine qD (xs:= [x / 72 % re,en,if en+x / 72 % 9<re - 1 then en+x / 72 % 9 else re - 1]) (lo:=0) (hi:=re - 1) (λy hy=>by
  have q1:=JN (x / 72) (show re≠0 by omega);have q2:=JL (x / 72) r0;simp only[JD,List.not_mem_nil,or_false] at hy;rcases hy with rfl|rfl|rfl
  ·omega
  ·omega
  ·split<;>omega) (show 0<=x / 24 % 3 by omega) (show x / 24 % 3<3 by omega) (λo H2 s2 o0 o1=>⟨_,rfl,_,rfl,?_⟩) p1 H1 h1 s1 e1
 clear e1 s1 h1;obtain⟨R,hR⟩: ∃R:St->Hp->Prop,R=λσ' H'=>zh H H'/\σ'= [some (.int x),some (.int (N:Int)),some (.int en),some (.ref pa),some (.int re),some (.ref ll),some (.int (f+o)),some (.int (x % 12))]:=⟨_,rfl⟩
 refine⟨R,?_,λσ2 H3 h3=> ?_⟩
 ·open_k0;refine yC (λ_=>λp3 H3 _ s3 e3=> ?_) (λ_=>by rw[hR];exact⟨s2,rfl⟩);have s23:=s2.trans s3;refine⟨0, .lst (L.map D.int), .lst [],wz (SqL.of (s23 _ _ el)) (zgb _),wz (SqL.of e3) trivial,rfl,rfl,'d',λj a b _ h=>by simp at h,_,rfl,?_⟩;cases L with
  |nil=>rw[hR];exact⟨s23,rfl⟩
  |cons u r=>
   refine xW rfl ?_
   (open_k0;repeat (dsimp only[tBM];open_k0))
   refine⟨.inl ⟨rfl,_,SqL.of (s23 _ _ el)⟩,hW _ 'd',_, .inl (SqL.of (s23 _ _ el)),?_⟩;rw[Ja];have l0:0<((u::r).length:Int):=by rw[Jp];omega
   have i1:0<=x / 72 % ((u::r).length:Int)/\x / 72 % ((u::r).length:Int)<(u::r).length:=⟨JN _ 'o',JL _ l0⟩
   obtain⟨j,hj⟩:=Int.eq_ofNat_of_zero_le i1.1;rw[hj] at i1 ⊢;have jl:j<(u::r).length:=by omega
   have gk:(u::r)[j]? =some ((u::r)[j]):=Jb jl;refine⟨l0,ll,_,(j:Int),j, .int ((u::r)[j]),rfl,rfl,s23 _ _ el,'o','o',?_,by rw[Jh,gk];rfl,?_⟩
   ·rw[Ja];exact zru jl
   ·intro p4 H4 h4 s4 e4;refine q p4 (.undo ((u::r)[j])) H4 (λb o hb e=>s4 _ _ (by rw[zu hb];exact s23 _ _ e)) ?_ e4 (List.getElem_mem jl);rw[s4 _ _ zN,<-zge];show some (HO.lst (((u::r).eraseIdx j).map V.int))=some (HO.lst (((u::r).erase ((u::r)[j])).map V.int));rw[zio nd gk]
 rw[hR] at h3;obtain⟨s3,rfl⟩:=h3;clear hR;have kp: ∀{H'},zh H3 H'-> ∀b o,b≠ll->H b=some o->H' b=some o:=λs b o _ e=>s _ _ (s3 _ _ e);obtain⟨R,hR⟩: ∃R:St->Hp->Prop,R=λσ' H'=>(x % 12<=8\/x % 12=11)/\H'=H3/\σ'= [some (.int x),some (.int (N:Int)),some (.int en),some (.ref pa),some (.int re),some (.ref ll),some (.int (f+o)),some (.int (x % 12))]:=⟨_,rfl⟩
 refine⟨R,?_,λσ4 H4 h4=> ?_⟩
 ·open_k0;have cp:wO 10 30:=by unfold wO;decide
  have gr:Sm 72/\Sm 72/\wO 10 30/\(0:Int)<10 ^ 30 - 1/\New H3 (HO.lst [V.int (x / 72 % 2000),V.int (x / 72 % (10 ^ 30 - 1))]) λx_1 H1=>Sm 12/\wu K x_1 (V.int (x / 12 % 2)) H1 λy H2=> ∃x,y=V.int x/\New H2 (HO.tup [V.str (SL [103,114,97,110,116]),V.int (1+x)]) Q:=by
   refine⟨hW _ 'd',hW _ 'd',cp,'d',λp5 H5 h5 s5 e5=>⟨hW _ 'd',?_⟩⟩;refine qD (xs:= [x / 72 % 2000,x / 72 % (10 ^ 30 - 1)]) (lo:=0) (hi:=10 ^ 30 - 2) (λy hy=>by
    simp only[JD,List.not_mem_nil,or_false] at hy;rcases hy with rfl|rfl<;>omega) (show 0<=x / 12 % 2 by omega) (show x / 12 % 2<2 by omega) (λa H6 s6 a0 a1=>⟨_,rfl,λp7 H7 _ s7 e7=> ?_⟩) p5 H5 h5 s5 e5
   exact q p7 (.grant (1+a)) H7 (kp (s6.trans s7)) ((s6.trans s7) _ _ (s3 _ _ el)) e7 ⟨'o','o'⟩
  refine yC (λ_=>yC (λ_=>gr) (λ_=>by rw[hR];exact⟨'o',rfl,rfl⟩)) (λ_=>by rw[hR];exact⟨'o',rfl,rfl⟩)
 rw[hR] at h4;obtain⟨x8,rfl,rfl⟩:=h4;clear hR
 (open_k0;repeat (dsimp only[tBM];open_k0))
 refine yC (λ_=>λp5 H5 _ s5 e5=>q p5 .back H5 (kp s5) (s5 _ _ (s3 _ _ el)) e5 trivial) (λx11=>⟨.inl ⟨rfl,_,SqL.of (s3 _ _ el)⟩,ll,_,_,rfl,rfl,s3 _ _ el,by rw[Ja];exact xl 'o',hW _ 'd',r0,hW _ 'o',?_⟩);have kp5: ∀b o,b≠ll->H b=some o->upd H4 ll (.lst (L.map V.int++ [.int (N:Int)])) b=some o:=λb o hb e=>by rw[zu hb];exact s3 _ _ e
 have el5:upd H4 ll (.lst (L.map V.int++ [.int (N:Int)])) ll=some (.lst ((L++ [(N:Int)]).map V.int)):=by rw[zN,Jd];rfl
 generalize upd H4 ll (.lst (L.map V.int++ [.int (N:Int)]))=H5 at kp5 el5 ⊢;have tp: ∀{p:Addr} {xs:List V},SqT K H p xs->SqT K H5 p xs:=fun {p xs} h=>znO h el kp5;have nla:la≠ll:=λz=>by
  rw[z,el] at ela;have e:L.map V.int=zs.map (·.1):=by injection ela with e;injection e
  refine opq λ_ kq=> ?_;obtain⟨z0,hz0⟩: ∃z0,zs[0]? =some z0:=⟨zs[0]'(by have:=zi.1;omega),Jb _⟩
  obtain⟨p,ez,_⟩:=za z0 (Ji hz0);have h:(L.map V.int)[0]? =(zs.map (·.1))[0]? :=by rw[e]
  rw[Jh,Jh,hz0,Option.map_some,ez] at h;obtain⟨k,_,hk⟩:=Jk.mp h;apply kq;cases hk
 have ela5:=kp5 _ _ nla ela;refine yC (λ_=> ?_) (λ_=>yC (λ_=> ?_) (λ_=> ?_))
 ·have l1:=zi.1;refine ixT (tp hT) (yx _ _) (ixT (tp hT) (yx _ _) ⟨la,rfl,_, .inl (SqL.of ela5),?_⟩);rw[Ja];generalize x / 72 / re=y;have i1:0<=y % (zs.length:Int)/\y % (zs.length:Int)<zs.length:=⟨JN _ 'o',JL _ 'o'⟩
  obtain⟨j,hj⟩:=Int.eq_ofNat_of_zero_le i1.1;rw[hj] at i1 ⊢;refine opq λ_ kq=> ?_;obtain⟨z,hz⟩: ∃z,zs[j]? =some z:=⟨zs[j]''o',Jb _⟩
  obtain⟨p,ez,hq⟩:=za z (Ji hz);apply kq;refine⟨'o',ixL (v:=z.1) (SqL.of ela5) (qp (by rw[Jh,hz];rfl)) ?_⟩;rw[ez];exact ixT (tp hq) (v:= .str (SL z.2.1)) rfl λp1 H1 _ s1 e1=>q p1 (.plan (f+o) z.2.1) H1 (λb o hb e=>s1 _ _ (kp5 b o hb e)) (s1 _ _ el5) e1 ⟨'o','o',Jw.mpr ⟨z,Ji hz,rfl⟩⟩
 ·generalize x / 72 / re=y;refine qD (xs:= [y % 4,y % 1000001]) (lo:=0) (hi:=1000000) (λy hy=>by
   simp only[JD,List.not_mem_nil,or_false] at hy;rcases hy with rfl|rfl<;>omega) (show 0<=x % 12 - 3 by omega) (show x % 12 - 3<2 by omega) λa H6 s6 a0 a1=> ?_
  exact λp1 H1 _ s1 e1=>q p1 (.seats (f+o) a) H1 (λb o hb e=>(s6.trans s1) _ _ (kp5 b o hb e)) ((s6.trans s1) _ _ el5) e1 ⟨'o','o',a0,a1⟩
 ·generalize x / 72 / re=y;intro p6 H6 _ s6 e6;refine opq λ_ kq=> ?_;obtain⟨w,w4,v,ev,ew⟩:=zqB (a:=y % 2) (i:=x % 12 - 5) 'o' 'o' 'o' 'o';apply kq;refine ixL (SqL.of e6) ev λp7 H7 _ s7 e7=>ixL (SqL.of e7) ew λp8 H8 _ s8 e8=> ?_;exact q p8 (.word w (f+o)) H8 (λb o hb e=>((s6.trans s7).trans s8) _ _ (kp5 b o hb e)) (((s6.trans s7).trans s8) _ _ el5) e8 ⟨w4,'o','o'⟩
theorem zm3{le ll:Addr}{f:Int}{zs:List En}{pe p:Addr}{en:Int}(I:EnInv K H0 H le ll nms f e zs)(ep:H' pe=some (.tup [.int en, .ref p]))(ec:H' p=some (.tup ((chD ch).map sv)))
  (kp: ∀b o,b≠le->b≠ll->H b=some o->H' b=some o) (e1:H' le=some (.lst (zs.map (·.1)++ [.ref pe]))) (e2:H' ll=some (.lst ((qO zs.length (yt (chs zs)) ch).map V.int)))
  (h1:f<=en) (h2:en<e) (h3: ∀y∈zs,y.2.2.1<=en) (h4:jc nms f e (yt (chs zs)) ch):EnInv K H0 H' le ll nms f e (zs++ [(.ref pe,p,en,ch)]):=by
 refine⟨λb o eb=>kp b o (qa eb I.n1) (qa eb I.n2) (I.same b o eb),I.n1,I.n2,I.ne,by rw[e1,Jd];rfl,?_,λz hz=> ?_,I.ok.snoc h1 h2 h3 h4⟩
 ·have ec:chs (zs++ [(V.ref pe,p,en,ch)])=chs zs++ [ch]:=by unfold chs;rw[Jd];rfl
  rw[e2,ec,zdL,wC]
 ·rcases Jr.mp hz with y|y
  ·obtain⟨q,ez,q1,q2⟩:=I.at' z y;exact⟨q,ez,zhI q1 I.e1 I.e2 kp,zhI q2 I.e1 I.e2 kp⟩
  ·rw[Jm.mp y];exact⟨pe,rfl,SqT.of ep,SqT.of ec⟩
def zfR(K:Fg):Sp:=λvs H Q _=> ∃(a:Addr) (cs:List Int) (pa la:Addr) (f:Int) (dy:Bool) (c:Int) (zs:List (V×Pl)) (re:Int) (mn:Nat),vs= [.ref a, .ref pa, .int re, .int 5, .int mn]/\SqL K H a (cs.map V.int)/\cs.length<=10000/\yn K H pa la f dy c zs/\0<re/\re<10 ^ 9/\f+re<=Cal.beg f dy c 60/\mn<=24/\ ∀le ys H',zh H H'->yI K H' ys->qz (zs.map λz=>z.2.1) f (Cal.beg f dy c 60) ys->ys.length<=40->H' le=some (.lst (ys.map (·.1)))->Q (.ref le) H'
theorem sc_1e:FnScope ["_law_script","_law_account_here","_law_reach_here","_law_start","_law_many","_law_days","_law_found","_law_open_terms","_law_k","_law_x"] ["_law_script","_law_account_here","_law_reach_here","_law_start","_law_many"] (zC s_1e):=by sl_open
theorem ok_1e(T:Txt w K mg t):FnOk P w K mg base (CXE P w) 3 t.a_1e t.d_1e ["_law_script","_law_account_here","_law_reach_here","_law_start","_law_many"] (zfR K):=by
 refine T.F_1e.fn.okX sc_1e ?_ λcdv A outer s H vs Q E L hr h=> ?_
 ·kdl_open
 refine opq λ_ kq=> ?_;obtain⟨a,cs,pa,la,f,dy,c,zs,re,mn,rfl,hS,cl,hz,r0,r1,r2,m24,q⟩:=h;apply kq;have nd:=sc_1e.nd;refine⟨_,(zj (psJ 5 nd (zY zgZ (by rfl) T.no_sorted uT (zb (qG (n:=1) (N:= ["_law_k","_law_script","_law_start","_law_reach_here"]) (js:= [0,3,2]) (by rfl) rfl rfl (xR (by rfl) T.no_range (zb (pvJ 4) zd)) (λa=>(zq (i:=0) (show List.Nodup (["_law_k","_law_script","_law_start","_law_reach_here"]:List Str) from by decide+kernel) rfl (Or.inl rfl))) (λa=>qM) (λa=>(zg zO (peD vv (ok_18 T) hr T.F_18 (zb (pvJ 1) (zb (zg zI (pvJ 2) (zg qA zc (pvJ 0))) zd zT) ze)) (pvJ 3)))) zd))) (zj (psJ 6 nd (yi zd)) (zj (psJ 7 nd (yi zd)) (zj (qj (by passes_own) rfl (xR (by rfl) T.no_range (zb (pvJ 4) zd)) (zq (i:=8) nd rfl (Or.inl rfl)) (zj (psJ 9 nd (peD L.toLv (ok_18 T) hr T.F_18 (zb (pvJ 0) (zb (zg zI (zg zI (pvJ 3) (zg qA zc (pvJ 8))) zc) zd zT) ze))) (zk (qe (qw PySem.F.plainAttrs_list PySem.F.slot_list_append PySem.F.type_list_append qT (pvJ 6) (zb (zW (zb (zg zI (ixJ zH (pvJ 1) zc) (ixJ z5 (pvJ 5) (pvJ 8))) (zb (peD L.toLv (ok_1d T) hr T.F_1d (zb (pvJ 9) (zb (pvJ 8) (zb (ixJ z5 (pvJ 5) (pvJ 8)) (zb (pvJ 1) (zb (pvJ 2) (zb (pvJ 7) zd ze) ze) ze) yH) ze) ze)) zd yB) zT)) zd)))))) (zk (zB (pvJ 6))))))),?_⟩;open_k0
 (open_k0;repeat (dsimp only[qk,yZ,yr];open_k0))
 refine⟨'o','o',λlc hlc aa=> ?_⟩;rw[JF];refine qr (λj ys _=> ∃ds:List Int,ys=ds.map V.int/\ds.length=j/\ ∀d∈ds,0<=d/\d<re) (uS 0 _ H) hlc (by rw[qH];exact qy 'o') (λ_ _=>⟨[],rfl,rfl,(λ_ h=>nomatch h)⟩) (λj y ys H8 K1 K0 hx sm pv hl k1 k0=> ?_) (λys H7 s7 pv _ w7=> ?_)
 ·have hj:=(Jc.mp hx).1;rw[qH] at hj;rw[uf hj] at hx;cases hx;refine opq λ_ kq=> ?_;obtain⟨ds,rfl,dl,db⟩:=pv;apply kq;open_k0;refine⟨.inl ⟨'o','o'⟩,a,cs,_,rfl,sm.seq hS,'o','o',cl,λr=>⟨_,rfl,r0,?_⟩⟩;have b0:=JN r (show re≠0 by omega);have b1:=JL r r0;refine k1 _ _ (zh.refl _) λH5 _=>⟨ds++ [r % re],by rw[Jd];rfl,by rw[Jj,dl];rfl,λd hd=> ?_⟩
  rcases Jr.mp hd with z|z
  ·exact db d z
  ·rw[Jm.mp z];exact⟨b0,b1⟩
 rw[qH] at pv;refine opq λ_ kq=> ?_;obtain⟨ds,rfl,dl,db⟩:=pv;apply kq;refine⟨lc,rfl,ds,w7,'o',λws wp wo lw H8 hlw s8 e8 le H9 hle s9 e9 ll H10 hll s10 e10=> ?_⟩;have wl:ws.length=mn:=wp.length_eq.trans dl;have wb: ∀d∈ws,0<=d/\d<re:=λd hd=>db d (wp.mem_iff.mp hd);have s08:=s7.trans s8;have I0:EnInv K H8 H10 le ll (zs.map λz=>z.2.1) f (Cal.beg f dy c 60) []:=by
  refine⟨s9.trans s10,hle,s9.none hll,λz=> ?_,s10 _ _ e9,e10,(List.forall_mem_nil _),qz.nil⟩;rw[<-z,e9] at hll;cases hll
 have hz8:=hz.same s08;have hS8:=s08.seq hS;clear hS hz
 ((try dsimp only);refine qq λR hR=> ?_;(open_k0;repeat (dsimp only[yr,qt,yZ,qm];open_k0)))
 refine⟨'o','o',hR _ _ ?_⟩;clear hR;rw[JF];obtain⟨Pw,hPw⟩: ∃Pw:Nat->St->Hp->Prop,Pw=λi σ1 H5=> ∃(ys:List En) (x8 x9:Option V),EnInv K H8 H5 le ll (zs.map λz=>z.2.1) f (Cal.beg f dy c 60) ys/\ys.length=i/\(∀(j:Nat) y,ys[j]? =some y->ws[j]? =some (y.2.2.1 - f))/\σ1= [some (.ref a),some (.ref pa),some (.int re),some (.int 5),some (.int mn),some (.ref lw),some (.ref le),some (.ref ll),x8,x9]:=⟨_,rfl⟩
 refine wk (n:=mn) Pw (by rw[hPw];exact⟨[],_,_,I0,rfl,(λj y h=>by rw[List.getElem?_nil] at h;cases h),rfl⟩) (λi σ1 H5 hi hv=> ?_) (λσ1 H5 hv=> ?_)
 ·rw[hPw] at hv;refine opq λ_ kq=> ?_;obtain⟨ys,x8,x9,I5,rfl,yw,rfl⟩:=hv;obtain⟨en,hen⟩: ∃en,ws[ys.length]? =some en:=⟨ws[ys.length]''o',Jb _⟩
  apply kq;have eb:=wb en (Ji hen);have yle: ∀y∈ys,y.2.2.1<=f+en:=λy hy=>by
   refine opq λ_ kq=> ?_;obtain⟨j,hj,ej⟩:=List.mem_iff_getElem.mp hy;have h1:=yw j y (by rw[Jb hj,ej]);obtain⟨j1,e1⟩:=Jc.mp h1;obtain⟨j2,e2⟩:=Jc.mp hen;apply kq
   have:=List.pairwise_iff_getElem.mp wo j ys.length j1 j2 hj;rw[e1,e2] at this;omega
  have aw:atI (ws.map V.int) (0+(ys.length:Int))=some (.int en):=by rw[JS];exact qp (by rw[Jh,hen];rfl)
  have w5:=SqL.of (K:=K) (I5.same _ _ e8);have sl:=zet (chs ys);rw[wC] at sl;refine opq λ_ kq=> ?_;obtain⟨pc,f0,f1,hc,ep⟩:=id hz8.1;apply kq;have ep5:=SqT.of (K:=K) (I5.same _ _ ep)
  (open_k0;repeat (dsimp only[tBM];open_k0))
  refine⟨.inl ⟨'o','o'⟩,a,cs,_,rfl,I5.same.seq hS8,'o','o',cl,λx=>⟨.inl ⟨rfl,_,SqL.of I5.e1⟩,ixT ep5 (y8 _ _ _) (ixL w5 aw ⟨_,rfl,_,rfl,ixL w5 aw ?_⟩)⟩⟩;refine gq λ_ kq=>⟨x,_,en,pa,la,ll,f,dy,c,zs,re,ys.length,_,rfl,'o',hz8.same I5.same,r0,r1,r2,eb.1,eb.2,I5.e2,'o',(wY (chs ys)).1,λp ch H6 kp6 el6 ec6 ci=>kq _ _ ?_⟩
  intro pe H7 _ s7 e7;have ele7:=s7 _ _ (kp6 _ _ I5.ne I5.e1);refine⟨le,_,_,rfl,rfl,ele7,by rw[Ja];exact xl 'o',?_⟩;have ne1:pe≠le:=λz=>by rw[z,ele7] at e7;cases e7
  have ec7:=s7 _ _ ec6;have ne2:p≠le:=λz=>by rw[z,ele7] at ec7;cases ec7
  rw[hPw];refine⟨_,_,_,zm3 I5 (pe:=pe) (p:=p) (en:=f+en) (ch:=ch) (by rw[zu ne1];exact e7) (by rw[zu ne2];exact ec7) (λb o b1 b2 e=>by rw[zu b1];exact s7 _ _ (kp6 b o b2 e)) zN (by rw[zu I5.ne.symm];exact s7 _ _ el6) 'o' 'o' yle ci,by rw[Jj];rfl,λj y h=> ?_,rfl⟩;rw[List.getElem?_append] at h;by_cases jl:j<ys.length
  ·rw[Jg jl] at h;exact yw j y h
  ·rw[Jf jl] at h;have j0:j - ys.length=0:=by
    rcases Nat.lt_or_ge (j - ys.length) 1 with z|z
    ·omega
    ·rw[List.getElem?_eq_none (by simpa using z)] at h;cases h
   rw[j0] at h;cases h;obtain rfl:j=ys.length:=by omega
   rw[hen];exact congrArg some (by show en=f+en - f;omega)
 ·rw[hPw] at hv;refine opq λ_ kq=> ?_;obtain⟨ys,x8,x9,I5,yl,yw,rfl⟩:=hv;apply kq;open_k0;exact q le ys H5 (s08.trans I5.same) I5.at' I5.ok 'o' I5.e1
def zhm(K:Fg)(t:Adr):Sp:=λvs H Q E=> ∃(pa le la:Addr) (f:Int) (dy:Bool) (c:Int) (zs:List (V×Pl)) (ys:List En) (Gm:Int->Int->List D) (day:Int),vs= [.ref pa, .ref le, .int day]/\yn K H pa la f dy c zs/\H le=some (.lst (ys.map (·.1)))/\EnX zs f (Cal.beg f dy c 60) K H ys/\(∀z∈ys,f<=z.2.2.1)/\(∀m,GL f dy c ys m (Gm m))/\(f<=day->day<Cal.beg f dy c 60-> ∀lr (ds:List (Int×Nat×Bool)) (ws:List (Addr×Ln)) H',WDays f dy c ys day ds->Fr H lr->ds.length<=100->Kp H H'->H' lr=some (.lst (ws.map λw=>V.ref w.1))->yo H' ws->ws.map (·.2)=(zJ (cstF f dy c zs Gm) ys ds (0,0, [])).1->Q (.ref lr) H')/\(day<f-> ∀H',zh H H'->E (.ref t.c_Z06) none H')/\(Cal.beg f dy c 60<=day-> ∀H',zh H H'->E (.ref t.c_Z0c) none H')
theorem sc_13:FnScope ["account","entries","day","lines","pots"] ["account","entries","day"] (zC s_13):=by sl_open
theorem ok_13(T:Txt w K mg t):FnOk P w K mg base (CXE P w) 14 t.a_13 t.d_13 ["account","entries","day"] (zhm K t):=by
 refine T.F_13.fn.okX sc_13 ?_ λcdv A outer s H vs Q E L hr h=> ?_
 ·kdl_open
 refine opq λ_ kq=> ?_;obtain⟨pa,le,la,f,dy,c,zs,ys,Gm,day,rfl,hz,hS,hY,hy0,hG,q,q2,q3⟩:=h;apply kq;have nd:=sc_13.nd;refine⟨_,(zj (yv (peD L.toLv (ok_12 T) hr T.F_12 (zb (pvJ 0) (zb (pvJ 1) (zb (pvJ 2) zd ze) ze) ze)) (z7 (n:=2) rfl (zD (zq (i:=3) nd rfl (Or.inl rfl)) (zD (zq (i:=4) nd rfl (Or.inl rfl)) yD)))) (zk (zB (pvJ 3)))),?_⟩;open_k0;refine⟨pa,le,la,f,dy,c,zs,ys,Gm,day,rfl,hz,hS,hY,hy0,hG,λd0 d1 r lr p dx d ds ws H1 wd frr dl k1 e1 _ e2 la2 lm=>⟨r,_,rfl,SqT.of e1,rfl,?_⟩,q2,q3⟩;open_k0;exact q d0 d1 lr ds ws H1 wd frr dl k1 e2 la2 lm
theorem zm4{f:Int}{zs:List En}(h:qz nms f e zs):qJ (chs zs):=λi k hi=>by
 unfold chs at hi;rw[Jh] at hi;obtain⟨z,hz,e⟩:=Jk.mp hi
 have:=(h i z hz).2.2.2;rw[e,wZ] at this;exact this
theorem zm5{f:Int}(yA:yI K H ys)(yO:qz (zs.map λz=>z.2.1) f e ys)(yl:ys.length<=40):EnX zs f e K H ys/\ ∀z∈ys,f<=z.2.2.1:=by
 refine⟨⟨yA,yl,yO.pair,zm4 yO,EnB.of yO,λz hz' tm=> ?_⟩,λz hz'=> ?_⟩
 ·obtain⟨i,hi,ez⟩:=List.mem_iff_getElem.mp hz';have ci:=(yO i z (by rw[Jb hi,ez])).2.2.2;exact⟨λd nm h'=>by rw[h'] at ci;exact ci.2.2,λd n h'=>by rw[h'] at ci;exact ci.2.2⟩
 ·obtain⟨i,hi,ez⟩:=List.mem_iff_getElem.mp hz';exact(yO i z (by rw[Jb hi,ez])).1
noncomputable def dcF(f:Int)(dy:Bool)(c:Int)(zs:List (V×Pl))(G:Int->List D)(o:Int):Int:=open Classical in if h: ∃k:Int,(0<=k/\k<60)/\Cal.beg f dy c k<=o/\o<Cal.beg f dy c (k+1) then yf zs (Cal.beg f dy c h.choose) (Cal.beg f dy c (h.choose+1)) o (o+1) (G o) else 0
theorem jV{f:Int}(zs:List (V×Pl))(G:Int->List D){o k:Int}(f0:0<=f)(f1:f<=3500000)(hc:Cal.CycOk dy c)(k0:0<=k)(k1:k<60)(a:Cal.beg f dy c k<=o)(b:o<Cal.beg f dy c (k+1)):dcF f dy c zs G o=yf zs (Cal.beg f dy c k) (Cal.beg f dy c (k+1)) o (o+1) (G o):=by
 have h: ∃k:Int,(0<=k/\k<60)/\Cal.beg f dy c k<=o/\o<Cal.beg f dy c (k+1):=⟨k,⟨k0,k1⟩,a,b⟩
 unfold dcF;rw[dif_pos h];obtain⟨⟨j0,j1⟩,ja,jb⟩:=h.choose_spec;have e:h.choose=k:=by
  rcases Int.lt_trichotomy h.choose k with q|q|q
  ·have:=Cal.beg_le (k:=h.choose+1) (j:=k) f0 f1 hc 'o' 'o' 'o';omega
  ·exact q
  ·have:=Cal.beg_le (k:=k+1) (j:=h.choose) f0 f1 hc 'o' 'o' 'o';omega
 rw[e]
theorem ziq{f:Int}{dy:Bool}{c:Int}(zs:List (V×Pl))(G:Int->List D)(f0:0<=f)(f1:f<=3500000)(hc:Cal.CycOk dy c): ∀C:Nat,C<=60->qP (λi=>cK f dy c zs G i) C=Sb (dcF f dy c zs G) f (Cal.beg f dy c C)
 |0,_=>by
  show 0=Sb _ f (Cal.beg f dy c 0);rw[Cal.beg_zero f0 f1,Sb.self]
 |C+1,h=>by
  rw[qP,ziq zs G f0 f1 hc C 'o'];have b1:=Cal.beg_ge (k:=C) f0 f1 hc 'o' 'o';have b2:=Cal.beg_lt (k:=C) (j:=(C:Int)+1) f0 f1 hc 'o' 'o' 'o';rw[show (((C+1:Nat):Int))=(C:Int)+1 by omega,<-Sb.add b1 (by omega:Cal.beg f dy c C<=Cal.beg f dy c ((C:Int)+1))];unfold cK;rw[Sb.congr λo h1 h2=>(jV zs G f0 f1 hc 'o' 'o' h1 h2).symm]
theorem zrv{f:Int}(f0:0<=f)(f1:f<=3500000)(hc:Cal.CycOk dy c)(hY:EnX zs f (Cal.beg f dy c 60) K H ys): ∃Gm:Int->Int->List D,(∀m,GL f dy c ys m (Gm m))/\ ∀x y,zK ys x=zK ys y->Gm x=Gm y:=by
 obtain⟨Gn,hn⟩: ∃Gn:List Int->Int->List D,∀L m,zK ys m=L->GL f dy c ys m (Gn L):=Classical.axiomOfChoice (r:=λ(L:List Int) (G:Int->List D)=> ∀m,zK ys m=L->GL f dy c ys m G) λL=>by
  by_cases h: ∃m,zK ys m=L
  ·obtain⟨m,rfl⟩:=h;obtain⟨G,hG⟩:=zoE m f0 f1 hc hY;exact⟨G,λm' e=>λts et=>hG ts (by rw[et,e])⟩
  ·exact⟨λ_=> [],λm e=>absurd ⟨m,e⟩ h⟩
 exact⟨λm=>Gn (zK ys m),λm=>hn _ m rfl,λx y e=>by dsimp only;rw[e]⟩
theorem zfS{y:Int}(h:x<=y)(no: ∀e∈ys,¬(x<e.2.2.1/\e.2.2.1<=y)):zK ys x=zK ys y:=by
 have e:mOf ys x=mOf ys y:=by
  unfold mOf;congr 1;refine List.filter_congr λz hz=> ?_
  have:=no z hz;unfold enL;rw[decide_eq_decide];omega
 unfold zK;rw[e]
theorem zir{f:Int}{k:Nat}(f0:0<=f)(f1:f<=3500000)(hc:Cal.CycOk dy c)(hy0: ∀z∈ys,f<=z.2.2.1)(wd:WDays f dy c ys day ds)(k1:k<60)(a:Cal.beg f dy c k<=day)(b:day<Cal.beg f dy c ((k:Int)+1)):vP ys day (k+1) (f - 1) 0 ds:=by
 have b0:Cal.beg f dy c ((0:Nat):Int)=f:=Cal.beg_zero f0 f1;have fd:f<=day:=by have:=Cal.beg_ge (k:=k) f0 f1 hc 'o' 'o';omega
 have hm: ∀i j:Nat,i<j->j<=60->Cal.beg f dy c i<Cal.beg f dy c j:=λi j h1 h2=>Cal.beg_lt f0 f1 hc 'o' 'o' 'o';refine zh4 (bg:=λj:Nat=>Cal.beg f dy c j) hm 'o' (by show day<Cal.beg f dy c ((k+1:Nat):Int);exact b) (λj hj=> ?_) ds (f - 1) 0 wd.up (λt=> ?_) (λz hz=> ?_) 'o' 'o' (by show f - 1<Cal.beg f dy c ((0:Nat):Int);omega) (λj hj=>absurd hj 'o')
 ·have:=Cal.beg_le (k:=j) (j:=k) f0 f1 hc 'o' 'o' 'o';show Cal.beg f dy c j<=day;omega
 ·rw[wd.mem];refine⟨λh=>⟨?_,h⟩,λh=>h.2⟩;rcases h.2 with⟨j,j1,rfl⟩|⟨z,hz,rfl⟩
  ·have:=Cal.beg_ge (k:=j) f0 f1 hc 'o' 'o';omega
  ·have:=hy0 z hz;omega
 ·obtain⟨h1,h2,h3,h4⟩:=wd.sp z hz;exact⟨h1,h2,h3,by rw[h4];exact decide_eq_true_iff⟩
theorem zqC{f:Int}{k:Nat}(f0:0<=f)(f1:f<=3500000)(hc:Cal.CycOk dy c)(hy0: ∀z∈ys,f<=z.2.2.1)(hg: ∀x y,zK ys x=zK ys y->Gm x=Gm y)(wd:WDays f dy c ys day ds)(k1:k<60)(a:Cal.beg f dy c k<=day)(b:day<Cal.beg f dy c ((k:Int)+1)):zV [zL,zR] (zJ (cstF f dy c zs Gm) ys ds (0,0, [])).1=Sb (dcF f dy c zs (Gm day)) f (Cal.beg f dy c ((k:Int)+1)):=by
 rw[zkL (cstF f dy c zs Gm) (λx y h no i=>by unfold cstF;rw[hg x y (zfS h no)]) (zir f0 f1 hc hy0 wd k1 a b) (λz hz=>(wd.sp z hz).k60) 'o'];exact ziq zs (Gm day) f0 f1 hc (k+1) 'o'
theorem zqD(h:vR zs)(nm:List Nat):0<=(plF zs nm).1/\0<=(plF zs nm).2:=by
 unfold plF;cases e:(zs.filter λz=>decide (z.2.1=nm))[0]? with
 |none=>exact⟨Jz _,Jz _⟩
 |some z=>
  have:=h.2.2 z (List.mem_filter.mp (Ji e)).1;exact⟨this.1.1,this.2.1⟩
theorem zol(hz:vR zs){d:List D}(hd:StX zs d)(h2:b<=e)(h3:sb<se):0<=yf zs sb se b e d:=by
 obtain⟨d0,n,wd,rfl,_,n0,_⟩:=hd;unfold yf;split
 ·rename_i nm st wd' heq;split
  ·have p:=zqD hz nm;have e1:st=n:=by injection heq with _ h;injection h with h _;injection h with h;exact h.symm
   unfold uD;have q:0<=(plF zs nm).1*st:=Int.mul_nonneg p.1 'o';have m:(plF zs nm).1*st*(b - sb)<=(plF zs nm).1*st*(e - sb):=Int.mul_le_mul_of_nonneg_left 'o' q;have c0:0<(if (plF zs nm).2=0 then se - sb else (plF zs nm).2):=by split<;>omega
   have:=Int.ediv_le_ediv c0 m;omega
  ·exact Jz _
 ·exact Jz _
theorem zrw{f:Int}(mo:Int)(f0:0<=f)(f1:f<=3500000)(hc:Cal.CycOk dy c)(hz:vR zs)(hY:EnX zs f (Cal.beg f dy c 60) K H ys): ∃G,GL f dy c ys mo G/\ ∀o sb se b e,b<=e->sb<se->0<=yf zs sb se b e (G o):=by
 obtain⟨G,hG⟩:=zoE mo f0 f1 hc hY;obtain⟨ts0,h0⟩: ∃ts0:List Tm,ts0=(zK ys mo).map λk=>((0:Addr),(0:Addr),k,(ys.getD k.toNat (.non,0,0, .back)).2.2.2):=⟨_,rfl⟩
 have e0:ts0.map (rtT f dy c)=(zK ys mo).map (rtK f dy c ys):=by rw[h0,List.map_map];rfl
 obtain⟨_,ki⟩:=jR (mo:=mo) hY.2.2.1 hY.2.2.2.1;have at0: ∀t∈ts0,∃z∈ys,yP z.2.2.2=true/\t.2.2.2=z.2.2.2:=λt ht=>by
  rw[h0] at ht;obtain⟨k,hk,rfl⟩:=Jw.mp ht;obtain⟨z,k0,e1,tm⟩:=ki k hk;refine⟨z,Ji e1,tm,?_⟩;show (ys.getD k.toNat (.non,0,0, .back)).2.2.2=_;rw[Jo,e1];rfl
 refine⟨λo=>open Classical in if StX zs (G o) then G o else [],λts er ts' m d o0 o1 o2 hs=> ?_,λo sb se b e h1 h2=> ?_⟩
 ·have g:=hG ts er ts' m d o0 o1 o2 hs;have mm: ∀t,t∈ts0.map (rtT f dy c)↔t∈ts'.map (rtT f dy c):=λt=>by
   rw[e0,<-er];constructor
   ·intro h;obtain⟨x,hx,rfl⟩:=Jw.mp h;exact Jw.mpr ⟨x,(m x).mpr hx,rfl⟩
   ·intro h;obtain⟨x,hx,rfl⟩:=Jw.mp h;exact Jw.mpr ⟨x,(m x).mp hx,rfl⟩
  have sx:=st_x (zs:=zs) (λt ht=>by obtain⟨z,_,h2,h3⟩:=at0 t ht;rw[h3];exact h2) (λt ht=>by obtain⟨z,h1,h2,h3⟩:=at0 t ht;rw[h3];exact hY.2.2.2.2.2 z h1 h2) (show xf f dy c ts0 d o0 o1 o2 from⟨hs.1.mem mm,hs.2.1.mem mm,hs.2.2.mem mm⟩);rw[g] at sx ⊢;exact(Jg sx).symm
 ·dsimp only;split
  ·rename_i sx;exact zol hz sx h1 h2
  ·exact Jz _
theorem zrx{f:Int}(f0:0<=f)(f1:f<=3500000)(hc:Cal.CycOk dy c)(hz:vR zs)(hY:EnX zs f (Cal.beg f dy c 60) K H ys): ∃Gm:Int->Int->List D,(∀m,GL f dy c ys m (Gm m))/\(∀x y,zK ys x=zK ys y->Gm x=Gm y)/\ ∀m o sb se b e,b<=e->sb<se->0<=yf zs sb se b e (Gm m o):=by
 obtain⟨Gn,hn⟩: ∃Gn:List Int->Int->List D,∀L,(∀m,zK ys m=L->GL f dy c ys m (Gn L))/\ ∀o sb se b e,b<=e->sb<se->0<=yf zs sb se b e (Gn L o):=Classical.axiomOfChoice (r:=λ(L:List Int) (G:Int->List D)=>(∀m,zK ys m=L->GL f dy c ys m G)/\ ∀o sb se b e,b<=e->sb<se->0<=yf zs sb se b e (G o)) λL=>by
  by_cases h: ∃m,zK ys m=L
  ·obtain⟨m,rfl⟩:=h;obtain⟨G,hG,hn⟩:=zrw m f0 f1 hc hz hY;exact⟨G,λm' e=>λts et=>hG ts (by rw[et,e]),hn⟩
  ·exact⟨λ_=> [],λm e=>absurd ⟨m,e⟩ h,λ_ _ _ _ _ _ _=>Jz _⟩
 exact⟨λm=>Gn (zK ys m),λm=>(hn _).1 m rfl,λx y e=>by dsimp only;rw[e],λm=>(hn _).2⟩
theorem zqE{f:Int}(f0:0<=f)(f1:f<=3500000)(hc:Cal.CycOk dy c)(nn: ∀m o sb se b e,b<=e->sb<se->0<=yf zs sb se b e (Gm m o))(m:Int){k:Int}(k0:0<=k)(k1:k<60):0<=cstF f dy c zs Gm m k:=by
 have bw:=vh f0 f1 hc k0 k1;unfold cstF cK Sb;generalize (Cal.beg f dy c (k+1) - Cal.beg f dy c k).toNat=n;induction n with
 |zero=>exact Jz _
 |succ n ih=>exact Int.add_nonneg ih (nn _ _ _ _ _ _ 'o' bw.2.1)
theorem zm6: ∀{a b:List Int},a.Pairwise (· < ·)->b.Pairwise (· < ·)->(∀x,x∈a↔x∈b)->a=b
 | [], [],_,_,_=>rfl
 | [],y::b,_,_,h=>nomatch (h y).mpr Jq
 |x::a, [],_,_,h=>nomatch (h x).mp Jq
 |x::a,y::b,ha,hb,h=>by
  obtain⟨a1,a2⟩:=List.pairwise_cons.mp ha;obtain⟨b1,b2⟩:=List.pairwise_cons.mp hb;have e:x=y:=by
   rcases JD.mp ((h x).mp Jq) with e|e
   ·exact e
   ·rcases JD.mp ((h y).mpr Jq) with e2|e2
    ·exact e2.symm
    ·have:=b1 x e;have:=a1 y e2;omega
  subst e;rw[zm6 a2 b2 λt=>⟨λht=> ?_,λht=> ?_⟩]
  ·rcases JD.mp ((h t).mp (Jl _ ht)) with e|e
   ·have:=a1 t ht;omega
   ·exact e
  ·rcases JD.mp ((h t).mpr (Jl _ ht)) with e|e
   ·have:=b1 t ht;omega
   ·exact e
theorem zm7{f:Int}{dy:Bool}{c:Int}(f0:0<=f)(f1:f<=3500000)(hc:Cal.CycOk dy c): ∀{a b:List (Int×Nat×Bool)},a.map (·.1)=b.map (·.1)->(∀z∈a,SpAt f dy c z.1 z.2.1 z.2.2)->(∀z∈b,SpAt f dy c z.1 z.2.1 z.2.2)->a=b
 | [], [],_,_,_=>rfl
 | [],_::_,h,_,_=>by cases h
 |_::_, [],h,_,_=>by cases h
 |(x,k,i)::a,(y,j,l)::b,h,ha,hb=>by
  rw[JA,JA] at h;injection h with h1 h2
  obtain rfl:x=y:=h1;obtain⟨p1,p2,p3,p4⟩:=ha _ Jq;obtain⟨q1,q2,q3,q4⟩:=hb _ Jq;dsimp only at p1 p2 p3 p4 q1 q2 q3 q4;obtain rfl:k=j:=by
   rcases Nat.lt_trichotomy k j with z|z|z
   ·have:=Cal.beg_le (k:=(k:Int)+1) (j:=j) f0 f1 hc 'o' 'o' 'o';omega
   ·exact z
   ·have:=Cal.beg_le (k:=(j:Int)+1) (j:=k) f0 f1 hc 'o' 'o' 'o';omega
  rw[p4,q4,zm7 f0 f1 hc h2 (λz hz=>ha z (Jl _ hz)) (λz hz=>hb z (Jl _ hz))]
theorem jW{f:Int}{a b:List (Int×Nat×Bool)}(f0:0<=f)(f1:f<=3500000)(hc:Cal.CycOk dy c)(ha:WDays f dy c ys day a)(hb:WDays f dy c ys day b):a=b:=
 zm7 f0 f1 hc (zm6 ha.up hb.up λx=>by rw[ha.mem,hb.mem]) ha.sp hb.sp
theorem zj5{f k:Int}(f0:0<=f)(f1:f<=3500000)(hc:Cal.CycOk dy c)(k0:0<=k)(k1:k<60)(he:e<=Cal.beg f dy c (k+1)):Sb (λo=>yf zs (Cal.beg f dy c k) (Cal.beg f dy c (k+1)) o (o+1) (G o)) (Cal.beg f dy c k) e=Sb (dcF f dy c zs G) (Cal.beg f dy c k) e:=
 Sb.congr λo h1 h2=>(jV zs G f0 f1 hc k0 k1 h1 'o').symm
def zry(K:Fg):Sp:=λvs H Q _=> ∃(pa l:Addr) (f:Int) (dy:Bool) (c:Int),vs= [.ref pa]/\qu K H pa l f dy c/\ ∀H',zh H H'->Q (.int (Cal.beg f dy c 60)) H'
theorem sc_09:FnScope ["account","plans","first","cycle"] ["account"] (zC s_09):=by sl_open
theorem ok_09(T:Txt w K mg t):FnOk P w K mg base (CXE P w) 6 t.a_09 t.d_09 ["account"] (zry K):=by
 refine T.F_09.fn.okX sc_09 ?_ λcdv A outer s H vs Q E L hr h=> ?_
 ·kdl_open
 refine opq λ_ kq=> ?_;obtain⟨pa,l,f,dy,c,rfl,⟨pc,f0,f1,hc,ep⟩,q⟩:=h;have nd:=sc_09.nd;obtain⟨u_Z09,h_Z09,r_Z09⟩:=T.k_Z09;apply kq;refine⟨_,(zj (yv (pvJ 0) (z7 (n:=3) rfl (zD (zq (i:=1) nd rfl (Or.inl rfl)) (zD (zq (i:=2) nd rfl (Or.inl rfl)) (zD (zq (i:=3) nd rfl (Or.inl rfl)) yD))))) (zk (zB (peD L.toLv (ok_07 T) hr T.F_07 (zb (pvJ 2) (zb (pvJ 3) (zb (qF (by rfl) h_Z09 r_Z09) zd ze) ze) ze))))),?_⟩;open_k0;refine⟨pa,_,rfl,SqT.of ep,rfl,?_⟩;open_k0;exact⟨f,pc,dy,c,60,rfl,f0,f1,hc,λ_ _ H1 s1=>q H1 s1,λz=>absurd z 'd',λz=>absurd z 'd'⟩
def zm8(K:Fg):Sp:=λvs H Q _=> ∃(pa l la:Addr) (f:Int) (dy:Bool) (c d:Int) (zs:List (V×Pl)) (ts:List Tm) (G:Int->List D),vs= [.ref pa, .ref l, .int d]/\yn K H pa la f dy c zs/\xp K H l f (Cal.beg f dy c 60) ts/\(∀t∈ts,TmX zs t.2.2.2)/\vS f dy c ts G/\f<=d/\d<=Cal.beg f dy c 60/\ ∀H',zh H H'->Q (.int (Sb (dcF f dy c zs G) f d)) H'
theorem sc_0p:FnScope ["account","terms","day","ordered","total","k","span"] ["account","terms","day"] (zC s_0p):=by sl_open
theorem ok_0p(T:Txt w K mg t):FnOk P w K mg base (CXE P w) 10 t.a_0p t.d_0p ["account","terms","day"] (zm8 K):=by
 refine T.F_0p.fn.okX sc_0p ?_ λcdv A outer s H vs Q E L hr h=> ?_
 ·kdl_open
 refine opq λ_ kq=> ?_;obtain⟨pa,l,la,f,dy,c,d,zs,ts,G,rfl,hz,ht,hx,hG,d0,d1,q⟩:=h;have nd:=sc_0p.nd;obtain⟨u_Z09,h_Z09,r_Z09⟩:=T.k_Z09;apply kq;refine⟨_,(zj (xv (zP (vF (pvJ 2) (peD L.toLv (ok_09 T) hr T.F_09 (zb (pvJ 0) zd))) (zk (qe (peD L.toLv (ok_0b T) hr T.F_0b (zb (pvJ 0) (zb (pvJ 2) zd ze) ze)))) zQ)) (zj (psJ 3 nd (peD L.toLv (ok_0e T) hr T.F_0e (zb (pvJ 0) (zb (pvJ 1) zd ze) ze))) (zj (psJ 4 nd zc) (zj (qj (by passes_own) rfl (xR (by rfl) T.no_range (zb (qF (by rfl) h_Z09 r_Z09) zd)) (zq (i:=5) nd rfl (Or.inl rfl)) (zj (psJ 6 nd (peD L.toLv (ok_0a T) hr T.F_0a (zb (pvJ 0) (zb (pvJ 5) zd ze) ze))) (zj (zP (yu ko (ixJ zH (pvJ 6) zc) (pvJ 2)) (zk zht) zQ) (zk (uv (i:=4) nd rfl (Or.inl rfl) (peD L.toLv (ok_0m T) hr T.F_0m (zb (peD L.toLv (ok_0l T) hr T.F_0l (zb (pvJ 0) (zb (pvJ 3) (zb (pvJ 6) (zb (zY (xG (by rfl)) (by rfl) T.no_min xK (zb (ixJ zH (pvJ 6) zc) (zb (pvJ 2) zd ze) yH)) zd yB) ze) ze) ze)) zd)) zg8))))) (zk (zB (pvJ 4))))))),?_⟩;obtain⟨f0,f1,hc⟩:=hz.1.cyc;have b0:Cal.beg f dy c 0=f:=Cal.beg_zero f0 f1;open_k0;obtain⟨R,hR⟩: ∃R:St->Hp->Prop,R=λσ' H'=>zh H H'/\σ'= [some (.ref pa),some (.ref l),some (.int d),none,none,none,none]:=⟨_,rfl⟩
 refine⟨R,?_,λσ1 H1 h1=> ?_⟩
 ·open_k0;refine⟨pa,la,f,dy,c,rfl,hz.1,λH1 s1=>⟨rfl,yC (λh=>⟨pa,la,f,dy,c,d,rfl,hz.1.same s1,λk k0 k1 a1 a2 p1 H2 s2 e2=> ?_,λz=>by omega,λz=> ?_⟩) (λ_=> ?_)⟩⟩
  ·rw[hR];exact⟨s1.trans s2,rfl⟩
  ·exact absurd (by rw[show d=Cal.beg f dy c 60 by omega]) h
  ·rw[hR];exact⟨s1,rfl⟩
 rw[hR] at h1;obtain⟨s1,rfl⟩:=h1;clear hR;open_k0;refine gq λ_ kq=>⟨pa,l,la,f,dy,c,ts,rfl,hz.1.same s1,ht.same s1,λl2 os H2 s2 ho om=>kq _ _ ?_⟩
 have s12:=s1.trans s2;have hox:=jP om hx
 ((try dsimp only);refine qq λR hR=> ?_;(open_k0;repeat (dsimp only[yr,qt,yZ,qm];open_k0)))
 refine⟨'d','d',hR _ _ ?_⟩;clear hR;obtain⟨mf,hmf⟩: ∃mf:Int->Int,mf=λi=>if Cal.beg f dy c i<=d then Cal.beg f dy c i else d:=⟨_,rfl⟩
 have m0:mf 0=f:=by rw[hmf];dsimp only;rw[b0,Jg d0]
 obtain⟨Pv,hPv⟩: ∃Pv:Nat->St->Hp->Prop,Pv=λ(i:Nat) σ1 H7=>zh H2 H7/\ ∃x5 x6:Option V,σ1= [some (.ref pa),some (.ref l),some (.int d),some (.ref l2),some (.int (Sb (dcF f dy c zs G) f (mf (i:Int)))),x5,x6]:=⟨_,rfl⟩
 refine wk (n:=60) Pv (by rw[hPv];exact⟨zh.refl _,_,_,by rw[show ((0:Nat):Int)=0 from rfl,m0,Sb.self]⟩) (λi σ1 H7 hi h=> ?_) (λσ1 H7 h=> ?_)
 ·rw[hPv] at h;refine opq λ_ kq=> ?_;obtain⟨s7,x5,x6,rfl⟩:=h;apply kq;have s17:=s12.trans s7;have bw:=vh (k:=(i:Int)) f0 f1 hc 'o' 'o';have bge:=Cal.beg_ge (k:=(i:Int)) f0 f1 hc 'o' 'o'
  (open_k0;repeat (dsimp only[j5];open_k0))
  refine⟨pa,la,f,dy,c,(i:Int),by rw[JS],hz.1.same s17,λ_ _ p1 H8 s8 e8=> ?_,λz=>absurd z 'o',λz=>absurd z 'o'⟩;refine ixT (SqT.of e8) (yx _ _) ⟨_,rfl,yC (λhb=> ?_) (λhb=> ?_)⟩
  ·have em:mf (i:Int)=d:=by rw[hmf];dsimp only;split<;>omega
   rw[em];exact q H8 (s17.trans s8)
  ·have em:mf (i:Int)=Cal.beg f dy c i:=by rw[hmf];dsimp only;rw[Jg 'o']
   have em1:mf ((i+1:Nat):Int)=if d<Cal.beg f dy c ((i:Int)+1) then d else Cal.beg f dy c ((i:Int)+1):=by
    rw[hmf,show ((i+1:Nat):Int)=(i:Int)+1 by omega];dsimp only;split<;>split<;>omega
   have s18:=s17.trans s8;refine ixT (SqT.of e8) (y8 _ _ _) ⟨_,rfl,pa,l2,p1,la,f,dy,c,zs,_,_,_,os,G,rfl,hz.same s18,ho.same (s7.trans s8),e8,by split<;>omega,by split<;>omega,bw.2.1,'o',hG _ om,hox,λr ws H9 _ s9 wA wl wR=>⟨r,zs,_,_,ws,rfl,wA,wl,λH10 s10=>⟨_,rfl,?_⟩⟩⟩;rw[hPv,uE wR,zj5 f0 f1 hc 'o' 'o' (by split<;>omega),em,Sb.add bge (by split<;>omega),<-em1];exact⟨s7.trans (s8.trans (s9.trans s10)),_,_,rfl⟩
 ·rw[hPv] at h;refine opq λ_ kq=> ?_;obtain⟨s7,x5,x6,rfl⟩:=h;apply kq;have em:mf ((60:Nat):Int)=d:=by rw[hmf];dsimp only;rw[show ((60:Nat):Int)=60 from rfl];split<;>omega
  rw[em];open_k0;exact q H7 (s12.trans s7)
def lnD(z:Ln):D:= .tup [.int z.1, .str z.2.1, .int z.2.2.1, .int z.2.2.2.1, .int z.2.2.2.2.1, .int z.2.2.2.2.2.1, .int z.2.2.2.2.2.2]
theorem yo.dp{H:Hp}: ∀{ws:List (Addr×Ln)},yo H ws->all2 (Dp K H 1) ((ws.map (·.2)).map lnD) (ws.map λw=>V.ref w.1)
 | [],_=>trivial
 |w::r,h=>⟨vz (SqT.of (show H w.1=some (.tup [.int w.2.1, .str (SL w.2.2.1), .int w.2.2.2.1, .int w.2.2.2.2.1, .int w.2.2.2.2.2.1, .int w.2.2.2.2.2.2.1, .int w.2.2.2.2.2.2.2]) from h w Jq)) ⟨qx,xx,qx,qx,qx,qx,qx,trivial⟩,yo.dp λx hx=>h x (Jl _ hx)⟩
def yY(φ:Int×Int->Int)(T:Tab):List (Key×V):=T.map λz=>(Sum.inl z.1, .int (φ z.2))
theorem zj6(φ:Int×Int->Int)(T:Tab)(k:Int)(v:Int×Int):yU (yY φ T) (Sum.inl k) (.int (φ v))=yY φ (yc T k v):=by
 unfold yU yY yc;rw[List.any_map];have e:(T.any ((λkv:Key×V=>decide (kv.1=Sum.inl k)) ∘ λz=>(Sum.inl z.1,V.int (φ z.2))))=T.any λz=>decide (z.1=k):=by
  congr 1;funext z;show decide ((Sum.inl z.1:Key)=Sum.inl k)=decide (z.1=k);exact decide_eq_decide.mpr ⟨Sum.inl.inj,λh=>by rw[h]⟩
 rw[e];split
 ·rw[List.map_map,List.map_map];refine List.map_congr_left λz _=> ?_;show (if (Sum.inl z.1:Key)=Sum.inl k then ((Sum.inl z.1:Key),V.int (φ v)) else (Sum.inl z.1,V.int (φ z.2)))=(Sum.inl (if z.1=k then (z.1,v) else z).1,V.int (φ (if z.1=k then (z.1,v) else z).2));by_cases h:z.1=k
  ·rw[Jg (by rw[h]),Jg h]
  ·rw[Jf (λq=>h (Sum.inl.inj q)),Jf h]
 ·rw[Jd];rfl
theorem uH(φ:Int×Int->Int)(h0:φ (0,0)=0)(k:Int): ∀T:Tab,(yN (yY φ T) (Sum.inl k)).getD (.int 0)= .int (φ (zr T k))
 | []=>by show V.int 0=V.int (φ (0,0));rw[h0]
 |z::r=>by
  have ih:=uH φ h0 k r;unfold zr;by_cases h:z.1=k
  ·rw[Jg h];unfold yN yY;rw[JA,List.find?_cons,show decide ((Sum.inl z.1:Key)=Sum.inl k)=true from JO (by rw[h])];rfl
  ·rw[Jf h,<-ih];unfold yN yY;rw[JA,List.find?_cons,show decide ((Sum.inl z.1:Key)=Sum.inl k)=false from JP λq=>h (Sum.inl.inj q)]
theorem jX{a b:List Nat}(h:V.str (SL a)=V.str (SL b)):a=b:=by
 rw[V.str.injEq,ww] at h;exact h
theorem uI(φ:Int×Int->Int)(T:Tab):(yY φ T).length=T.length:=Ja ..
def zj7(K:Fg):Sp:=λvs H Q _=> ∃(lr:Addr) (ws:List (Addr×Ln)),vs= [.ref lr]/\H lr=some (.lst (ws.map λw=>V.ref w.1))/\yo H ws/\ws.length<=20000/\(∀w∈ws,zqh w.2)/\ ∀r d1 d2 H',Kp H H'->H' r=some (.tup [.ref d1, .ref d2])->H' d1=some (.dK (yY (·.2) ((ws.map (·.2)).foldl tk1 (0,0, [])).2.2))->H' d2=some (.dK (yY (·.1) ((ws.map (·.2)).foldl tk1 (0,0, [])).2.2))->Q (.ref r) H'
theorem sc_1f:FnScope ["_law_lines","_law_money","_law_granted","_law_line"] ["_law_lines"] (zC s_1f):=by sl_open
theorem ok_1f(T:Txt w K mg t):FnOk P w K mg base (CXE P w) 1 t.a_1f t.d_1f ["_law_lines"] (zj7 K):=by
 refine T.F_1f.fn.okX sc_1f ?_ λcdv A outer s H vs Q E L hr h=> ?_
 ·kdl_open
 refine opq λ_ kq=> ?_;obtain⟨lr,ws,rfl,hl,hW,w2,hA,q⟩:=h;apply kq;have nd:=sc_1f.nd;refine⟨_,(zj (psJ 1 nd u7) (zj (psJ 2 nd u7) (zj (qj (by passes_own) rfl (qb (pvJ 0)) (zq (i:=3) nd rfl (Or.inl rfl)) (zk (zP (PWQ.pq (xN (qg (ixJ zH (pvJ 3) zc) (zZ st_17)) (wc (qg (ixJ zH (pvJ 3) zc) (zZ st_15))))) (zj (uk (xk hr) (pvJ 1) (ixJ zH (pvJ 3) zc) (zg zI (zg zI (um (xk hr) (pvJ 1) (ixJ zH (pvJ 3) zc) zc ⟨by rfl,by rfl,by rfl,by rfl⟩) (ixJ zH (pvJ 3) zc)) (ixJ zH (pvJ 3) zc)) rfl) (zk (uk (xk hr) (pvJ 2) (ixJ zH (pvJ 3) zc) (zg zI (um (xk hr) (pvJ 2) (ixJ zH (pvJ 3) zc) zc ⟨by rfl,by rfl,by rfl,by rfl⟩) (ixJ zH (pvJ 3) zc)) rfl))) zQ))) (zk (zB (zW (zb (pvJ 1) (zb (pvJ 2) zd ze) ze))))))),?_⟩;open_k0;intro d1 H1 hd1 s1 e1 d2 H2 hd2 s2 e2;have s12:=s1.trans s2;have nd12:d1≠d2:=λz=>by rw[<-z,e1] at hd2;cases hd2
 ((try dsimp only);refine qq λR hR=> ?_;(open_k0;repeat (dsimp only[yr,qt,yZ,qm];open_k0)))
 refine⟨⟨_,SqL.of (s12 _ _ hl)⟩,hR _ _ ?_⟩;clear hR;have f1:Fr H d1:=λu e=>by rw[hd1] at e;cases e
 have f2:Fr H d2:=(Kp.of_same s1).fr hd2;obtain⟨Pv,hPv⟩: ∃Pv:Nat->St->Hp->Prop,Pv=λi σ1 H5=>Kp H H5/\ ∃(T:Tab) (x3:Option V),T=(((ws.take i).map (·.2)).foldl tk1 (0,0, [])).2.2/\H5 d1=some (.dK (yY (·.2) T))/\H5 d2=some (.dK (yY (·.1) T))/\T.length<=i/\σ1= [some (.ref lr),some (.ref d1),some (.ref d2),x3]:=⟨_,rfl⟩
 refine v0 (xs:=ws.map λw=>V.ref w.1) Pv (by rw[hPv];exact⟨Kp.of_same s12, [],_,rfl,s2 _ _ e1,e2,Je _,rfl⟩) (λ_ _ _ _ h=>by rw[hPv] at h;exact SqL.of (h.1.lst hl)) (λi x σ1 H5 hx h=> ?_) (λσ1 H5 h=> ?_)
 ·rw[hPv] at h;refine opq λ_ kq=> ?_;obtain⟨k5,T,x3,hT,t1,t2,tl,rfl⟩:=h;rw[Jh] at hx;obtain⟨y,hy,rfl⟩:=Jk.mp hx;apply kq;have ym:=Ji hy;have il:=(Jc.mp hy).1;have ey:=hW.keep k5 y ym;unfold LnV at ey;have ty:=SqT.of (K:=K) ey;have nx:(((ws.take (i+1)).map (·.2)).foldl tk1 (0,0, [])).2.2=(tk1 (((ws.take i).map (·.2)).foldl tk1 (0,0, [])) y.2).2.2:=by
   rw[JH,hy,Option.toList_some,Jd,List.foldl_append];rfl
  have am:=hA y ym;open_k0;refine ixT ty (y8 _ _ _) ⟨rfl,yC (λh=> ?_) λn1=>ixT ty (y8 _ _ _) ⟨rfl,yC (λh=> ?_) λn2=> ?_⟩⟩;rotate_left 2
  ·have e:(tk1 (((ws.take i).map (·.2)).foldl tk1 (0,0, [])) y.2).2.2=(((ws.take i).map (·.2)).foldl tk1 (0,0, [])).2.2:=by
    unfold tk1;rcases am with a|a|⟨a|a,_⟩
    ·rw[Jg a]
    ·rw[Jf (by rw[a];decide),Jg a]
    ·exact absurd (by rw[a];rfl) n2
    ·exact absurd (by rw[a];rfl) n1
   rw[hPv];exact⟨k5,T,_,by rw[nx,e];exact hT,t1,t2,'o',rfl⟩
  all_goals
   have hk:y.2.2.1=zL\/y.2.2.1=zR:=by first|exact .inl (jX h)|exact .inr (jX h)
   have e:(tk1 (((ws.take i).map (·.2)).foldl tk1 (0,0, [])) y.2).2.2=yc T y.2.2.2.1 ((zr T y.2.2.2.1).1+y.2.2.2.2.2.1,(zr T y.2.2.2.1).2+y.2.2.2.2.2.2.1+y.2.2.2.2.2.2.2):=by
    rw[hT];unfold tk1;rw[Jf (by rcases hk with h|h<;>rw[h]<;>decide),Jf (by rcases hk with h|h<;>rw[h]<;>decide)]
   refine⟨.inl ⟨_,Rd.of t1⟩,ixT ty (xO _ _ _ _) ⟨_,qY.k (k:=Sum.inl y.2.2.2.1) t1,ixT ty (v:= .int y.2.2.2.2.2.2.1) rfl ⟨_,uH _ rfl _ T,_,rfl,ixT ty (v:= .int y.2.2.2.2.2.2.2) rfl ⟨_,rfl,ixT ty (xO _ _ _ _) ⟨_,xV.k (k:=Sum.inl y.2.2.2.1) t1 (by rw[uI,sizeLine_eq];omega),?_⟩⟩⟩⟩⟩;rw[zj6 (·.2) T y.2.2.2.1 ((zr T y.2.2.2.1).1+y.2.2.2.2.2.1,(zr T y.2.2.2.1).2+y.2.2.2.2.2.2.1+y.2.2.2.2.2.2.2),<-e];have k6:Kp H (upd H5 d1 (.dK (yY (·.2) (tk1 (((ws.take i).map (·.2)).foldl tk1 (0,0, [])) y.2).2.2))):=k5.put f1;have t6:(upd H5 d1 (.dK (yY (·.2) (tk1 (((ws.take i).map (·.2)).foldl tk1 (0,0, [])) y.2).2.2))) d2=some (.dK (yY (·.1) T)):=by rw[zu nd12.symm];exact t2
   have u6:(upd H5 d1 (.dK (yY (·.2) (tk1 (((ws.take i).map (·.2)).foldl tk1 (0,0, [])) y.2).2.2))) d1=some _:=zN;generalize upd H5 d1 _=H6 at k6 t6 u6 ⊢;have ty6:=SqT.of (K:=K) (show H6 y.1=some (.tup [.int y.2.1, .str (SL y.2.2.1), .int y.2.2.2.1, .int y.2.2.2.2.1, .int y.2.2.2.2.2.1, .int y.2.2.2.2.2.2.1, .int y.2.2.2.2.2.2.2]) from hW.keep k6 y ym);refine⟨.inl ⟨_,Rd.of t6⟩,ixT ty6 (xO _ _ _ _) ⟨_,qY.k (k:=Sum.inl y.2.2.2.1) t6,ixT ty6 (v:= .int y.2.2.2.2.2.1) rfl ⟨_,uH _ rfl _ T,_,rfl,ixT ty6 (xO _ _ _ _) ⟨_,xV.k (k:=Sum.inl y.2.2.2.1) t6 (by rw[uI,sizeLine_eq];omega),?_⟩⟩⟩⟩;rw[zj6 (·.1) T y.2.2.2.1 ((zr T y.2.2.2.1).1+y.2.2.2.2.2.1,(zr T y.2.2.2.1).2+y.2.2.2.2.2.2.1+y.2.2.2.2.2.2.2),<-e,hPv];exact⟨k6.put f2,_,_,nx.symm,by rw[zu nd12];exact u6,zN,by rw[e];exact JE (zfy ..) 'o',rfl⟩
 rw[hPv] at h;refine opq λ_ kq=> ?_;obtain⟨k5,T,x3,hT,t1,t2,tl,rfl⟩:=h;apply kq;rw[Ja,JC] at hT;open_k0;intro r H6 _ s6 e6;subst hT;exact q r d1 d2 H6 (k5.trans (Kp.of_same s6)) e6 (s6 _ _ t1) (s6 _ _ t2)
theorem zm9(F:Int->Int)(a:Int): ∀n:Nat,((List.range n).map λi:Nat=>F (a+i)).sum=Ss F a n
 |0=>rfl
 |n+1=>by
  rw[JQ,Jd,List.sum_append,zm9 F a n];show _+(F (a+n)+0)=Ss F a n+F (a+n);omega
def zis(K:Fg):Sp:=λvs H Q _=> ∃(pa rt lt la:Addr) (f:Int) (dy:Bool) (c:Int) (zs:List (V×Pl)) (ts:List Tm) (G:Int->List D) (C:Nat),vs= [.ref pa, .ref rt, .ref lt]/\yn K H pa la f dy c zs/\xp K H rt f (Cal.beg f dy c 60) ts/\(∀t∈ts,TmX zs t.2.2.2)/\vS f dy c ts G/\C<=60/\H lt=some (.lst (((List.range C).map λi:Nat=>cK f dy c zs G i).map V.int))/\ ∀H',zh H H'->Q (.bl true) H'
theorem sc_1g:FnScope ["_law_account_here","_law_terms","_law_took_here","_law_k","_law_begin","_law_end"] ["_law_account_here","_law_terms","_law_took_here"] (zC s_1g):=by sl_open
theorem ok_1g(T:Txt w K mg t):FnOk P w K mg base (CXE P w) 12 t.a_1g t.d_1g ["_law_account_here","_law_terms","_law_took_here"] (zis K):=by
 refine T.F_1g.fn.okX sc_1g ?_ λcdv A outer s H vs Q E L hr h=> ?_
 ·kdl_open
 refine opq λ_ kq=> ?_;obtain⟨pa,rt,lt,la,f,dy,c,zs,ts,G,C,rfl,hz,ht,hx,hG,C60,hl,q⟩:=h;apply kq;have nd:=sc_1g.nd;refine⟨_,(zj (qj (by passes_own) rfl (zkG (by rfl) T.no_range (zb zc (zb (zY xj (by rfl) T.no_len qU (zb (pvJ 2) zd)) (zb (zg zI zc (zg yL (zY xj (by rfl) T.no_len qU (zb (pvJ 2) zd)) zc)) zd zT) yB) zE)) (zq (i:=3) nd rfl (Or.inl rfl)) (zj (psJ 4 nd (peD L.toLv (ok_07 T) hr T.F_07 (zb (ixJ zH (pvJ 0) zc) (zb (ixJ zH (pvJ 0) zc) (zb (pvJ 3) zd ze) yH) yH))) (zj (psJ 5 nd (peD L.toLv (ok_07 T) hr T.F_07 (zb (ixJ zH (pvJ 0) zc) (zb (ixJ zH (pvJ 0) zc) (zb (zg zI (pvJ 3) zc) zd zT) yH) yH))) (zk (zP (vF (zY (wx (by rfl)) (by rfl) T.no_sum xT (zb (qG (n:=1) (N:= ["_law_one","_law_account_here","_law_terms"]) (js:= [0,1]) (by rfl) rfl rfl (ke (by rfl) T.no_range (zb (pvJ 4) (zb (pvJ 5) zd ze) ze)) (λa=>(zq (i:=0) (show List.Nodup (["_law_one","_law_account_here","_law_terms"]:List Str) from by decide+kernel) rfl (Or.inl rfl))) (λa=>qM) (λa=>(peD vv (ok_0k T) hr T.F_0k (zb (pvJ 1) (zb (pvJ 2) (zb (pvJ 0) zd ze) ze) ze)))) zd)) (ixJ z5 (pvJ 2) (pvJ 3))) (zk (zB wj)) zQ))))) (zk (zB wj))),?_⟩;refine opq λ_ kq=> ?_;obtain⟨pc,f0,f1,hc,ep⟩:=id hz.1;apply kq;have row: ∀(o:Int) (H8:Hp) (Q:VK),zh H H8->f<=o->o<Cal.beg f dy c 60->(∀H9,zh H8 H9->Q (.int (dcF f dy c zs G o)) H9)->zgE K t [.ref pa, .ref rt, .int o] H8 Q (λ_ _ _=>False):=λo H8 Q s8 o0 o1 h=>by
  refine gq λ_ kq=>⟨pa,rt,la,f,dy,c,o,zs,ts,rfl,hz.same s8,ht.same s8,hx,λk k0 k1 a b ts' r0 r1 r2 H9 s9 om so=>kq _ _ ?_,λz=>absurd z 'o',λz=>absurd z 'o'⟩
  rw[hG ts' om o r0 r1 r2 so,<-jV zs G f0 f1 hc.2 k0 k1 a b];exact h H9 s9
 refine qq λR hR=> ?_
 (open_k0;repeat (dsimp only[zoC];open_k0))
 have hl1':=SqL.of (K:=K) hl;have ll:(((List.range C).map λi:Nat=>cK f dy c zs G i).map V.int).length=C:=by rw[Ja,Ja,JI]
 refine⟨_, .inl hl1',_, .inl hl1',?_⟩;rw[ll];refine⟨'o','o','o','o',hR _ _ ?_⟩;clear hR;have hT:=SqT.of (K:=K) ep;obtain⟨Pv,hPv⟩: ∃Pv:Nat->St->Hp->Prop,Pv=λ_ σ1 H7=>zh H H7/\ ∃x3 x4 x5:Option V,σ1= [some (.ref pa),some (.ref rt),some (.ref lt),x3,x4,x5]:=⟨_,rfl⟩
 refine ziY Pv (by rw[hPv];exact⟨zh.refl _,_,_,_,rfl⟩) (λi σ1 H7 hi h=> ?_) (λσ1 H7 h=> ?_)
 ·rw[hPv] at h;refine opq λ_ kq=> ?_;obtain⟨s7,x3,x4,x5,rfl⟩:=h;obtain⟨k0,k1⟩:=zrn (show 0<1+(C:Int) / 9 by omega) hi;apply kq;rw[JS];generalize (i:Int)*(1+(C:Int) / 9)=k at k0 k1
  (open_k0;repeat (dsimp only[qk,qm];open_k0))
  have hT7:=s7.sqT hT;refine ixT hT7 (y8 _ _ _) (ixT hT7 (xO _ _ _ _) ⟨f,pc,dy,c,k,rfl,f0,f1,hc.same s7,λ_ _ H8 s8=> ?_,λz=>absurd z 'o',λz=>absurd z 'o'⟩);have s78:=s7.trans s8;have hT8:=s78.sqT hT;refine ixT hT8 (y8 _ _ _) (ixT hT8 (xO _ _ _ _) ⟨f,pc,dy,c,k+1,rfl,f0,f1,hc.same s78,λ_ _ H9 s9=> ?_,λz=>absurd z 'o',λz=>absurd z 'o'⟩);have s79:=s78.trans s9;have bw:=vh f0 f1 hc.2 k0 'o';have b6:=Cal.beg_le (k:=k+1) (j:=60) f0 f1 hc.2 'o' 'o' 'o';have bg:=Cal.beg_ge (k:=k) f0 f1 hc.2 k0 'o';refine⟨_,rfl,_,rfl,'o','o','o','o',λl1 hl1 aa=> ?_⟩;refine qr (λj xs _=>xs=((List.range j).map λi:Nat=>dcF f dy c zs G (Cal.beg f dy c k+i)).map V.int) (uS _ _ H9) hl1 (by rw[qH,sizeLine_eq];omega) (λ_ _=>rfl) (λj y xs H2 K1 K0 hxx sm pv hl kk k0'=> ?_) (λxs H2 s2 pv _ w2=> ?_)
  ·have hj:=(Jc.mp hxx).1;rw[qH] at hj;rw[uf hj] at hxx;cases hxx;open_k0;refine row _ _ _ (s79.trans sm) 'o' 'o' λH9 s9=>kk _ _ s9 λH5 _=> ?_;rw[pv,JQ,Jd,Jd];rfl
  rw[qH] at pv;subst pv;have s72:=s79.trans s2;refine⟨l1,rfl,_,SqL.of w2,?_⟩;obtain⟨kn,rfl⟩:=Int.eq_ofNat_of_zero_le k0;refine ixL (s72.seq hl1') (v:= .int (cK f dy c zs G kn)) (qp (by rw[Jh,Jh,List.getElem?_range 'o'];rfl)) ⟨rfl,yg (λz=>z ?_) ?_⟩
  ·rw[zm9];show V.int (Sb (dcF f dy c zs G) (Cal.beg f dy c kn) (Cal.beg f dy c ((kn:Int)+1)))=_;rw[<-zj5 f0 f1 hc.2 k0 'o' (Jz _)];rfl
  ·rw[hPv];exact⟨s72,_,_,_,rfl⟩
 rw[hPv] at h;refine opq λ_ kq=> ?_;obtain⟨s7,x3,x4,x5,rfl⟩:=h;apply kq;open_k0;exact q H7 s7
theorem zj8{f g:Ln->Int}: ∀ls:List Ln,(ls.map λz=>f z+g z).sum=(ls.map f).sum+(ls.map g).sum
 | []=>rfl
 |z::r=>by
  rw[JA,JA,JA,List.sum_cons,List.sum_cons,List.sum_cons,zj8 r];omega
theorem zna{φ:Int×Int->Int}: ∀{T:Tab},(∀z∈T,0<=φ z.2)->0<=qQ φ T
 | [],_=>Jz _
 |z::r,h=>by
  have h1:=h z Jq;have h2:=zna λy hy=>h y (Jl _ hy);show 0<=φ z.2+qQ φ r;omega
theorem zj9(φ:Int×Int->Int): ∀{T:Tab},(T.map (·.1)).Nodup-> ∀z∈T,yN (yY φ T) (Sum.inl z.1)=some (.int (φ z.2))
 |y::r,h,z,hz=>by
  rw[JA,List.nodup_cons] at h;unfold yN yY;rw[JA,List.find?_cons];rcases JD.mp hz with rfl|hz
  ·rw[show decide ((Sum.inl z.1:Key)=Sum.inl z.1)=true from JO rfl];rfl
  ·rw[show decide ((Sum.inl y.1:Key)=Sum.inl z.1)=false from JP λq=>h.1 (by rw[Sum.inl.inj q];exact Jw.mpr ⟨z,hz,rfl⟩)];exact zj9 φ h.2 z hz
def znb(K:Fg)(t:Adr):Sp:=λvs H Q _=> ∃(pa le la lr:Addr) (f:Int) (dy:Bool) (c:Int) (zs:List (V×Pl)) (ys:List En) (Gm:Int->Int->List D) (day:Int) (ds:List (Int×Nat×Bool)) (ws:List (Addr×Ln)),vs= [.ref pa, .ref le, .int day, .ref lr]/\yn K H pa la f dy c zs/\H le=some (.lst (ys.map (·.1)))/\EnX zs f (Cal.beg f dy c 60) K H ys/\(∀z∈ys,f<=z.2.2.1)/\(∀m,GL f dy c ys m (Gm m))/\(∀x y,zK ys x=zK ys y->Gm x=Gm y)/\(∀m o sb se b e,b<=e->sb<se->0<=yf zs sb se b e (Gm m o))/\(∀z∈ys,∀a,z.2.2.2= .grant a->0<=a)/\f<=day/\day<Cal.beg f dy c 60/\WDays f dy c ys day ds/\ds.length<=100/\H lr=some (.lst (ws.map λw=>V.ref w.1))/\yo H ws/\ws.map (·.2)=(zJ (cstF f dy c zs Gm) ys ds (0,0, [])).1/\ ∀H',Kp H H'->Q (.bl true) H'
theorem znc{t:Adr}{Q:VK}{E:XK}{le:Addr}{f:Int}(h0:yn K H pa la f dy c zs)(h1:H le=some (.lst (ys.map (·.1))))(h2:EnX zs f (Cal.beg f dy c 60) K H ys)(h3:(∀z∈ys,f<=z.2.2.1))(h4:(∀m,GL f dy c ys m (Gm m)))(h5:(f<=day->day<Cal.beg f dy c 60-> ∀r (ds:List (Int×Nat×Bool)) H',WDays f dy c ys day ds->ds.length<=100->Kp H H'->(let B:=zJ (cstF f dy c zs Gm) ys ds (0,0, []);H' r=some (.tup [.int (zV [zL,zR] B.1), .int (xB B.1), .int (zV [qi] B.1), .int (zV [qh] B.1), .int B.2.2.1, .int B.2.1]))->Q (.ref r) H'))(h6:(day<f-> ∀H',zh H H'->E (.ref t.c_Z06) none H'))(h7:(Cal.beg f dy c 60<=day-> ∀H',zh H H'->E (.ref t.c_Z0c) none H')):zm0 K t [.ref pa, .ref le, .int day] H Q E:=⟨_,_,_,_,_,_,_,_,_,_,rfl,h0,h1,h2,h3,h4,h5,h6,h7⟩
theorem zkV(h0:H lr=some (.lst (ws.map λw=>V.ref w.1)))(h1:yo H ws)(h2:ws.length<=20000)(h3:(∀w∈ws,zqh w.2))(h4: ∀r d1 d2 H',Kp H H'->H' r=some (.tup [.ref d1, .ref d2])->H' d1=some (.dK (yY (·.2) ((ws.map (·.2)).foldl tk1 (0,0, [])).2.2))->H' d2=some (.dK (yY (·.1) ((ws.map (·.2)).foldl tk1 (0,0, [])).2.2))->Q (.ref r) H'):zj7 K [.ref lr] H Q E:=⟨_,_,rfl,h0,h1,h2,h3,h4⟩
theorem zit{zs:List En}(h0:SqL K H a (zs.map (·.1)))(h1:yI K H zs)(h2:zs.length<=40)(h3:zs.Pairwise (λa b=>a.2.2.1<=b.2.2.1))(h4:qJ (chs zs))(h5: ∀r as H',H r=none->zh H H'->H' r=some (.lst (as.map V.ref))->zqo H' zs (zK zs mo) as->Q (.ref r) H'):zgC K [.ref a, .int mo] H Q E:=⟨_,_,_,rfl,h0,h1,h2,h3,h4,h5⟩
theorem znd(h0:SqL K H a (cs.map V.int))(h1:cs.length<=10000)(h2: ∀p l (zs:List (V×Pl)) (f:Int) dy cc H',zh H H'->yn K H' p l f dy cc zs->Q (.ref p) H'):zm2 K [.ref a] H Q E:=⟨_,_,rfl,h0,h1,h2⟩
theorem zne{k:Int}(h0:SqL K H l (cs.map V.int))(h1:0<=k)(h2:k<=1000)(h3:cs.length<=10000)(h4: ∀r,Q (.int r) H):zjf K [.ref l, .int k] H Q E:=⟨_,_,_,rfl,h0,h1,h2,h3,h4⟩
theorem zjg{f:Int}{b:Bool}(h0:qu K H pa l f dy c)(h1: ∀k:Int,2<=k->k<=60-> ∀H',zh H H'->Q (.int (Cal.beg f dy c k - f)) H'):zin K [.ref pa, .bl b] H Q E:=⟨_,_,_,_,_,_,rfl,h0,h1⟩
theorem zhp{f:Int}{re:Int}{mn:Nat}(h0:SqL K H a (cs.map V.int))(h1:cs.length<=10000)(h2:yn K H pa la f dy c zs)(h3:0<re)(h4:re<10 ^ 9)(h5:f+re<=Cal.beg f dy c 60)(h6:mn<=24)(h7: ∀le ys H',zh H H'->yI K H' ys->qz (zs.map λz=>z.2.1) f (Cal.beg f dy c 60) ys->ys.length<=40->H' le=some (.lst (ys.map (·.1)))->Q (.ref le) H'):zfR K [.ref a, .ref pa, .int re, .int 5, .int mn] H Q E:=⟨_,_,_,_,_,_,_,_,_,_,rfl,h0,h1,h2,h3,h4,h5,h6,h7⟩
theorem zkW{le:Addr}{f:Int}(h0:yn K H pa la f dy c zs)(h1:H le=some (.lst (ys.map (·.1))))(h2:EnX zs f (Cal.beg f dy c 60) K H ys)(h3:(∀z∈ys,f<=z.2.2.1))(h4:(∀m,GL f dy c ys m (Gm m)))(h5:(f<=day->day<Cal.beg f dy c 60-> ∀lr (ds:List (Int×Nat×Bool)) (ws:List (Addr×Ln)) H',WDays f dy c ys day ds->Fr H lr->ds.length<=100->Kp H H'->H' lr=some (.lst (ws.map λw=>V.ref w.1))->yo H' ws->ws.map (·.2)=(zJ (cstF f dy c zs Gm) ys ds (0,0, [])).1->Q (.ref lr) H'))(h6:(day<f-> ∀H',zh H H'->E (.ref t.c_Z06) none H'))(h7:(Cal.beg f dy c 60<=day-> ∀H',zh H H'->E (.ref t.c_Z0c) none H')):zhm K t [.ref pa, .ref le, .int day] H Q E:=⟨_,_,_,_,_,_,_,_,_,_,rfl,h0,h1,h2,h3,h4,h5,h6,h7⟩
theorem zjh{rt lt:Addr}{f:Int}{C:Nat}(h0:yn K H pa la f dy c zs)(h1:xp K H rt f (Cal.beg f dy c 60) ts)(h2:(∀t∈ts,TmX zs t.2.2.2))(h3:vS f dy c ts G)(h4:C<=60)(h5:H lt=some (.lst (((List.range C).map λi:Nat=>cK f dy c zs G i).map V.int)))(h6: ∀H',zh H H'->Q (.bl true) H'):zis K [.ref pa, .ref rt, .ref lt] H Q E:=⟨_,_,_,_,_,_,_,_,_,_,_,rfl,h0,h1,h2,h3,h4,h5,h6⟩
theorem znf{le:Addr}{f:Int}(h0:yn K H pa la f dy c zs)(h1:SqL K H le (ys.map (·.1)))(h2:EnX zs f (Cal.beg f dy c 60) K H ys)(h3:GL f dy c ys day G)(h4:(∀k:Int,0<=k->k<60->Cal.beg f dy c k<=day->day<Cal.beg f dy c (k+1)-> ∀H',zh H H'->Q (.int (Sb (λo=>yf zs (Cal.beg f dy c k) (Cal.beg f dy c (k+1)) o (o+1) (G o)) (day+1) (Cal.beg f dy c (k+1)))) H'))(h5:(day<f-> ∀H',zh H H'->E (.ref t.c_Z06) none H'))(h6:(Cal.beg f dy c 60<=day-> ∀H',zh H H'->E (.ref t.c_Z0c) none H')):zm1 K t [.ref pa, .ref le, .int day] H Q E:=⟨_,_,_,_,_,_,_,_,_,_,rfl,h0,h1,h2,h3,h4,h5,h6⟩
theorem sc_1h:FnScope ["_law_account_here","_law_entries_here","_law_day","_law_lines","_law_billed","_law_paid","_law_back","_law_granted","_law_own","_law_given","_law_money","_law_of_granted","_law_terms"] ["_law_account_here","_law_entries_here","_law_day","_law_lines"] (zC s_1h):=by sl_open
theorem ok_1h(T:Txt w K mg t):FnOk P w K mg base (CXE P w) 15 t.a_1h t.d_1h ["_law_account_here","_law_entries_here","_law_day","_law_lines"] (znb K t):=by
 refine T.F_1h.fn.okX sc_1h ?_ λcdv A outer s H vs Q E L hr h=> ?_
 ·kdl_open
 refine opq λ_ kq=> ?_;obtain⟨pa,le,la,lr,f,dy,c,zs,ys,Gm,day,ds,ws,rfl,hz,hS,hY,hy0,hG,hg,nn,gr0,d0,d1,wd,dl,hl,hW,lm,q⟩:=h;apply kq;have nd:=sc_1h.nd;refine⟨_,(zj (yv (peD L.toLv (ok_15 T) hr T.F_15 (zb (pvJ 0) (zb (pvJ 1) (zb (pvJ 2) zd ze) ze) ze)) (z7 (n:=6) rfl (zD (zq (i:=4) nd rfl (Or.inl rfl)) (zD (zq (i:=5) nd rfl (Or.inl rfl)) (zD (zq (i:=6) nd rfl (Or.inl rfl)) (zD (zq (i:=7) nd rfl (Or.inl rfl)) (zD (zq (i:=8) nd rfl (Or.inl rfl)) (zD (zq (i:=9) nd rfl (Or.inl rfl)) yD)))))))) (zj (yv (peD L.toLv (ok_1f T) hr T.F_1f (zb (pvJ 3) zd)) (z7 (n:=2) rfl (zD (zq (i:=10) nd rfl (Or.inr rfl)) (zD (zq (i:=11) nd rfl (Or.inr rfl)) yD)))) (zj (psJ 12 nd (peD L.toLv (ok_0s T) hr T.F_0s (zb (pvJ 1) (zb (pvJ 2) zd ze) ze))) (zj (zP (zmj (vW (peD L.toLv (ok_1g T) hr T.F_1g (zb (pvJ 0) (zb (pvJ 12) (zb (qG (n:=1) (N:= ["_law_k","_law_money","_law_of_granted"]) (js:= [10,11]) (by rfl) rfl rfl (xR (by rfl) T.no_range (zb (zY ziS (by rfl) T.no_len qU (zb (pvJ 10) zd)) zd)) (λa=>(zq (i:=0) (show List.Nodup (["_law_k","_law_money","_law_of_granted"]:List Str) from by decide+kernel) rfl (Or.inl rfl))) (λa=>qM) (λa=>(zg zI (um (xk hr) (pvJ 1) (pvJ 0) zc ⟨by rfl,by rfl,by rfl,by rfl⟩) (um (xk hr) (pvJ 2) (pvJ 0) zc ⟨by rfl,by rfl,by rfl,by rfl⟩)))) zd) ze) ze)))) (zk (zB wj)) zQ) (zj (zP (PWQ.pq (xN (vF (zg yj (pvJ 5) (pvJ 6)) (zg zI (zY (wx (by rfl)) (by rfl) T.no_sum xT (zb (qG (n:=1) (N:= ["_law_k","_law_money"]) (js:= [10]) (by rfl) rfl rfl (qb (xJ (zdr (by rfl)) (by rfl) T.no_list uQ (zb (pvJ 10) zd))) (λa=>(zq (i:=0) (show List.Nodup (["_law_k","_law_money"]:List Str) from by decide+kernel) rfl (Or.inl rfl))) (λa=>qM) (λa=>(zju (xk hr) (pvJ 1) (pvJ 0) (λ_ _=>rfl)))) zd)) (pvJ 8))) (wc (yu qo (pvJ 5) (pvJ 6))))) (zk (zB wj)) zQ) (zj (zP (PWQ.pq (xN (vF (pvJ 7) (zg zI (zY (wx (by rfl)) (by rfl) T.no_sum xT (zb (qG (n:=1) (N:= ["_law_k","_law_of_granted"]) (js:= [11]) (by rfl) rfl rfl (qb (xJ (zdr (by rfl)) (by rfl) T.no_list uQ (zb (pvJ 11) zd))) (λa=>(zq (i:=0) (show List.Nodup (["_law_k","_law_of_granted"]:List Str) from by decide+kernel) rfl (Or.inl rfl))) (λa=>qM) (λa=>(zju (xk hr) (pvJ 1) (pvJ 0) (λ_ _=>rfl)))) zd)) (pvJ 9))) (xN (yu qo (pvJ 8) zc) (wc (yu qo (pvJ 9) zc))))) (zk (zB wj)) zQ) (zj (zP (vF (pvJ 4) (zY (wx (by rfl)) (by rfl) T.no_sum xT (zb (qG (n:=1) (N:= ["_law_line"]) (js:= []) (by rfl) rfl rfl (qb (pvJ 3)) (λa=>(zq (i:=0) (show List.Nodup (["_law_line"]:List Str) from by decide+kernel) rfl (Or.inl rfl))) (λa=>(vw (zom (qB qR (ixJ zH (pvJ 0) zc) (zZ st_17) (yF _)) (zk1 (qB qR (ixJ zH (pvJ 0) zc) (zZ st_15) (yF _)))).pt)) (λa=>(ixJ zH (pvJ 0) zc))) zd))) (zk (zB wj)) zQ) (zk (zB (xh qR (pvJ 4) (zg zI (peD L.toLv (ok_16 T) hr T.F_16 (zb (pvJ 0) (zb (pvJ 1) (zb (pvJ 2) zd ze) ze) ze)) (peD L.toLv (ok_0p T) hr T.F_0p (zb (pvJ 0) (zb (pvJ 12) (zb (zg zI (pvJ 2) zc) zd zT) ze) ze))) (yF _))))))))))),?_⟩;refine opq λ_ kq=> ?_;obtain⟨pc,f0,f1,hc,ep⟩:=id hz.1;apply kq;open_k0;refine znc (hz) (hS) (hY) (hy0) (hG) (λ_ _ r1 ds1 H1 wd1 _ k1 e1=> ?_) (λz=>absurd z 'o') (λz=>absurd z 'o');obtain rfl:=jW f0 f1 hc.2 wd wd1;dsimp only at e1;refine⟨r1,_,rfl,SqT.of e1,rfl,?_⟩;have wl:ws.length<=20000:=by
  have h1:=uy (cstF f dy c zs Gm) hY.2.1 ds (0,0, []) λz hz=>(wd.sp z hz).k60;have h2:=congrArg List.length lm;rw[Ja] at h2;omega
 have tk:=zh9 (cstF f dy c zs Gm) ys ds (0,0, []);refine opq λ_ kq=> ?_;obtain⟨k,k0,k60,ka,kb⟩:=jN (f:=f) (dy:=dy) (c:=c) (d:=day) (by rw[Cal.beg_zero f0 f1];exact d0) 60 (by show day<Cal.beg f dy c 60;omega);obtain⟨k,rfl⟩:=Int.eq_ofNat_of_zero_le k0;have ch:=zir f0 f1 hc.2 hy0 wd 'o' ka kb;obtain⟨ld,po⟩:=zh7 (cstF f dy c zs Gm) ys gr0 ds (0,0, []) Pos.zero (λz hz=>(wd.sp z hz).k60) (λz _ i hi=>zqE f0 f1 hc.2 nn z.1 'o' 'o');apply kq;have tks:=(zhg (cstF f dy c zs Gm) (λx y h no i=>by unfold cstF;rw[hg x y (zfS h no)]) ds (0,0, []) (f - 1) 0 ch (λi h=>absurd h (Nat.not_lt_zero i)) (λ_ _=>rfl)).1;have key:=zia (cstF f dy c zs Gm) ys ds (0,0, []) (f - 1) 0 ch rfl;have bl:=zqC (zs:=zs) f0 f1 hc.2 hy0 hg wd 'o' ka kb;have zz:=zjW (cstF f dy c zs Gm) ys ds (0,0, []);rw[<-lm] at tk ld bl e1 zz ⊢;generalize (zJ (cstF f dy c zs Gm) ys ds (0,0, [])).2=S at*;have nd1:(S.2.2.map (·.1)).Nodup:=by
  rw[key];exact List.Pairwise.map _ (λa b h e=>h (Int.ofNat.inj e)) List.nodup_range
 have c1:qQ (·.1) S.2.2=s4F (ws.map (·.2)):=by
  have:=uC (·.1) (λz=>z.2.2.2.2.1) rfl (λ_ _=>rfl) (λz h q=>(h q).1) (ws.map (·.2)) (0,0, []) List.Pairwise.nil zz;rw[tk.1] at this;rw[this];exact JS _
 have c2:qQ (·.2) S.2.2=s5F (ws.map (·.2))+xB (ws.map (·.2)):=by
  have:=uC (·.2) (λz=>z.2.2.2.2.2.1+z.2.2.2.2.2.2) rfl (λ_ _=>by dsimp only;omega) (λz h q=>by have:=h q;omega) (ws.map (·.2)) (0,0, []) List.Pairwise.nil zz;rw[tk.1] at this;rw[this,zj8];exact JS _
 have cn:0<=qQ (·.2) S.2.2:=zna λz hz=>by
  have:=(po.t z.1).2;rw[zjY nd1 z hz] at this;exact this
 (open_k0;repeat (dsimp only[qk,yZ,yr];open_k0))
 refine zkV (k1.lst hl) (hW.keep k1) (wl) (λw hw=>tk.2 w.2 (Jw.mpr ⟨w,hw,rfl⟩)) (λr2 d1' d2' H2 k2 e2 t1 t2=>⟨r2,_,rfl,SqT.of e2,rfl,?_⟩);rw[tk.1] at t1 t2
 (open_k0;repeat (dsimp only[qk,yZ,yr];open_k0))
 have k12:=k1.trans k2;refine zit (SqL.of (k12.lst hS)) (k12.ens hY.1) (hY.2.1) (hY.2.2.1) (hY.2.2.2.1) (λrt as H3 _ s3 e3 t3=> ?_);have k13:=k12.trans (Kp.of_same s3);refine opq λ_ kq=> ?_;obtain⟨ts,tA,tkn,tz⟩:=jS dy c hY.2.2.1 hY.2.2.2.1 hY.2.1 (k13.ens hY.1) hY.2.2.2.2.1 e3 t3;apply kq;have hx3:=(hY.kp k13).tmx (λt h=>(tA.2.2.1 t h).2.2.1) tz;have hGt:=hG day ts tkn;have t13:=s3 _ _ t1;have t23:=s3 _ _ t2;refine⟨_,t13,?_⟩;rw[uI,key.len];refine⟨'o','o',λl4 hl4 aa=> ?_⟩;rw[JF];refine qr (λj xs _=>xs=((List.range j).map λi:Nat=>(zr S.2.2 i).2+(zr S.2.2 i).1).map V.int) (uS _ _ H3) hl4 (by rw[qH];exact qy 'o') (λ_ _=>rfl) (λj y xs H4 K1 K0 hxx sm pv hl kk k0'=> ?_) (λxs H4 s4 pv _ w4=> ?_)
 ·have hj:=(Jc.mp hxx).1;rw[qH] at hj;rw[uf hj] at hxx;cases hxx;open_k0;refine⟨.inl ⟨_,Rd.of (sm _ _ t13)⟩,_,qY.k (k:=Sum.inl (0+(j:Int))) (sm _ _ t13), .inl ⟨_,Rd.of (sm _ _ t23)⟩,_,qY.k (k:=Sum.inl (0+(j:Int))) (sm _ _ t23),_,uH _ rfl _ _,_,uH _ rfl _ _,kk _ _ (zh.refl _) λH5 _=> ?_⟩;rw[pv,JQ,Jd,Jd,JS];rfl
 rw[qH] at pv;have pv':xs=((List.range (k+1)).map λi:Nat=>cK f dy c zs (Gm day) i).map V.int:=by
  rw[pv];congr 1;refine List.map_congr_left λi hi=> ?_
  have:=tks i (List.mem_range.mp hi);unfold tkS cstF at this;omega
 rw[pv'] at w4;clear pv pv';have k14:=k13.trans (Kp.of_same s4);refine zjh (hz.kp k14) (tA.same s4) (hx3) (hGt) 'o' (w4) (λH5 s5=>⟨_,rfl,yg 'd' ?_⟩);have s35:=s4.trans s5;have tl:S.2.2.length<=60:=by rw[key.len];omega
 have col: ∀(φ:Int×Int->Int) (d l kl:Addr) (HH:Hp) (Q2:VK),HH d=some (.dK (yY φ S.2.2))->HH kl=some (.lst ((yY φ S.2.2).map λkv=>kV kv.1))->HH l=none->(∀H',zh HH H'->H' l=some (.lst ((S.2.2.map λz=>φ z.2).map V.int))->Q2 (.ref l) H')->vx (Itl K kl) [none,some (V.ref d)] (xE 0) uR (zlC (vE 1) (vE 0)) l Q2 HH:=λφ d l kl HH Q2 hd hk hl h=>by
  refine qr (λj xs _=>xs=((S.2.2.take j).map λz=>φ z.2).map V.int) (qV (SqL.of hk)) hl (by rw[Ja,uI];exact qy 'o') (λ_ _=>rfl) (λj y xs H6 K1 K0 hxx sm pv hl kk k0'=> ?_) (λxs H6 s6 pv _ w6=> ?_)
  ·unfold yY at hxx;rw[Jh,Jh] at hxx;refine opq λ_ kq=> ?_;obtain⟨u,hu,rfl⟩:=Jk.mp hxx;obtain⟨z,hz',rfl⟩:=Jk.mp hu;apply kq;open_k0;refine⟨_,(zj9 φ nd1 z (Ji hz')) ▸ qY.k (k:=Sum.inl z.1) (sm _ _ hd),kk _ _ (zh.refl _) λH5 _=> ?_⟩;rw[pv,JH,hz',Option.toList_some,Jd,Jd];rfl
  ·rw[Ja,uI,JC] at pv;subst pv;exact h H6 s6 w6
 refine⟨_,s35 _ _ t13,λl6 H6 _ s6 e6=>⟨l6,rfl,⟨_,SqL.of e6⟩,λl7 hl7 ab=> ?_⟩⟩;refine col (·.2) _ _ _ _ _ (s6 _ _ (s35 _ _ t13)) e6 hl7 λH7 s7 w7=>⟨l7,rfl,_,SqL.of w7,?_⟩
 have ow:=ld.ow;have gv:=ld.gv;have p1:=po.g;have p2:=po.o;rw[show (S.2.2.map λz=>z.2.2).sum=_ from c2];have ow':S.2.1=0 - s5F (ws.map (·.2)) - zV [qi] (ws.map (·.2)):=ow;have gv':S.1=0+zV [qh] (ws.map (·.2)) - s4F (ws.map (·.2)):=gv;refine yg (λz=>z 'o') (yg 'o' ?_);have s37:=(s35.trans s6).trans s7;refine⟨_,s37 _ _ t23,λl8 H8 _ s8 e8=>⟨l8,rfl,⟨_,SqL.of e8⟩,λl9 hl9 ac=> ?_⟩⟩;refine col (·.1) _ _ _ _ _ (s8 _ _ (s37 _ _ t23)) e8 hl9 λH9 s9 w9=>⟨l9,rfl,_,SqL.of w9,?_⟩
 rw[show (S.2.2.map λz=>z.2.1).sum=_ from c1];refine yg (λz=>z 'o') (yg 'o' (yg 'o' ?_));have s39:=(s37.trans s8).trans s9;have k19:=k13.trans (Kp.of_same s39);have hl9':=k19.lst hl;have hW9:=hW.keep k19;refine⟨⟨_,SqL.of hl9'⟩,λlA hlA ad=> ?_⟩;refine qr (λj xs _=>xs=((((ws.take j).map (·.2)).filter λz=>decide (z.2.1∈ [zL,zR])).map λz=>z.2.2.2.1).map V.int) (qV (SqL.of hl9')) hlA (by rw[Ja,sizeLine_eq];omega) (λ_ _=>rfl) (λj y xs HA K1 K0 hx sm pv hl k1 k0=> ?_) (λxs HA sA pv _ wA=> ?_)
 ·rw[Jh] at hx;obtain⟨y,hy,rfl⟩:=Jk.mp hx;have a4:=sm _ _ (hW9 y (Ji hy));unfold LnV at a4;have ty:=SqT.of (K:=K) a4;have nx:(((ws.take (j+1)).map (·.2)).filter λz=>decide (z.2.1∈ [zL,zR])).map (λz=>z.2.2.2.1)=((((ws.take j).map (·.2)).filter λz=>decide (z.2.1∈ [zL,zR])).map λz=>z.2.2.2.1)++if y.2.2.1∈ [zL,zR] then [y.2.2.2.2.1] else []:=by
   rw[JH,hy,Option.toList_some,Jd,JT,Jd];congr 1;rw[JA,JR,JU,List.filter_nil];by_cases g:y.2.2.1∈ [zL,zR]
   ·rw[Jg (JO g),Jg g];rfl
   ·rw[Jf (λh=>g (of_decide_eq_true h)),Jf g];rfl
  have yes:y.2.2.1∈ [zL,zR]->vq K (.ref y.1) (.int 3) HA K1:=λg=>by
   rw[Jg g] at nx;refine ixT ty (zql _ _ _ _ _) (k1 _ _ (zh.refl _) λH5 _=> ?_);rw[pv,nx,Jd];rfl
  open_k0;refine ixT ty (y8 _ _ _) ⟨rfl,yC (λg=>yes (by rw[show y.2.2.1=zL from jX g];exact Jq)) λn1=>ixT ty (y8 _ _ _) ⟨rfl,yC (λg=>yes (by rw[show y.2.2.1=zR from jX g];exact Jl _ Jq)) λn2=>k0 _ (zh.refl _) ?_⟩⟩;rw[pv,nx,Jf (λm=> ?_),Jt];rcases JD.mp m with m|m
  ·exact n1 (by rw[m];rfl)
  ·exact n2 (by rw[Jm.mp m];rfl)
 rw[Ja,JC] at pv;subst pv;refine⟨lA,rfl,_,SqL.of wA,yg (λz=>z rfl) ?_⟩;have k1A:=k19.trans (Kp.of_same sA);have s3A:=s39.trans sA;refine znf (hz.kp k1A) (SqL.of (k1A.lst hS)) (hY.kp k1A) (hG day) (λk' k0' k1' a' b' HB sB=> ?_) (λz=>absurd z 'o') (λz=>absurd z 'o');have ek:k'=(k:Int):=Cal.beg_one f0 f1 hc.2 k0' k1' k0 'o' a' b' ka kb;subst ek;have k1B:=k1A.trans (Kp.of_same sB);have b6:=Cal.beg_le (k:=(k:Int)+1) (j:=60) f0 f1 hc.2 'o' 'o' 'o';refine⟨pa,rt,la,f,dy,c,day+1,zs,ts,Gm day,rfl,hz.kp k1B,tA.same (s3A.trans sB),hx3,hGt,'o','o',λHC sC=>⟨_,rfl,_,rfl,?_⟩⟩;have eo:Sb (λo=>yf zs (Cal.beg f dy c k) (Cal.beg f dy c ((k:Int)+1)) o (o+1) (Gm day o)) (day+1) (Cal.beg f dy c ((k:Int)+1))=Sb (dcF f dy c zs (Gm day)) (day+1) (Cal.beg f dy c ((k:Int)+1)):=Sb.congr λo h1 h2=>(jV zs (Gm day) f0 f1 hc.2 k0 'o' 'o' h2).symm;have ad:=Sb.add (F:=dcF f dy c zs (Gm day)) (a:=f) (b:=day+1) (c:=Cal.beg f dy c ((k:Int)+1)) 'o' 'o';refine Eq.mpr (congrArg (λz=>Q (V.bl z) HC) (JO ?_)) (q HC (k1B.trans (Kp.of_same sC)));rw[eo];omega
theorem zrz(c63:cs.length<=63): ∃fs:List Int,xi (cs.map V.int) none (some 37)=fs.map V.int/\fs.length<=37/\(37<cs.length->fs.length=37):=by
 rcases Nat.lt_or_ge cs.length 37 with h|h
 ·have l:=zeG (cs.map V.int) none (some 37);obtain⟨fs,e⟩: ∃fs:List Int,xi (cs.map V.int) none (some 37)=fs.map V.int:=by
   unfold xi;rw[<-List.map_drop,<-List.map_take];exact⟨_,rfl⟩
  rw[e,Ja,Ja] at l;exact⟨fs,e,'o',λq=>by omega⟩
 ·refine⟨cs.take 37,?_,List.length_take_le ..,λ_=>by rw[JB];omega⟩;rw[zhD _ 'd' (by rw[Ja];omega),List.map_take];rfl
def ziu(K:Fg):Sp:=λvs H Q _=> ∃(a:Addr) (cs:List Int),vs= [.ref a]/\SqL K H a (cs.map V.int)/\cs.length<=63/\ ∀r (fs:List Int) H',zh H H'->H' r=some (.lst (fs.map V.int))->fs.length<=37->Q (.ref r) H'
theorem sc_1i:FnScope ["_law_script","_law_folded_here","_law_k","_law_at"] ["_law_script"] (zC s_1i):=by sl_open
theorem ok_1i(T:Txt w K mg t):FnOk P w K mg base (CXE P w) 1 t.a_1i t.d_1i ["_law_script"] (ziu K):=by
 refine T.F_1i.fn.okX sc_1i ?_ λcdv A outer s H vs Q E L hr h=> ?_
 ·kdl_open
 refine opq λ_ kq=> ?_;obtain⟨a,cs,rfl,hS,c63,q⟩:=h;apply kq;have nd:=sc_1i.nd;refine⟨_,(zj (psJ 1 nd (xJ zfV (by rfl) T.no_list uQ (zb (kJ k8 (pvJ 0) kI (zfu zc)) zd))) (zj (qj (by passes_own) rfl (ke (by rfl) T.no_range (zb zc (zb (zY xj (by rfl) T.no_len qU (zb (pvJ 0) zd)) zd yB) zE)) (zq (i:=2) nd rfl (Or.inl rfl)) (zj (psJ 3 nd (zg zI zc (zg zO (zg yj (pvJ 2) zc) zc))) (zk (yv (zg zI (ixJ z5 (pvJ 1) (pvJ 3)) (ixJ z5 (pvJ 0) (pvJ 2))) (zoS (pvJ 1) (pvJ 3) set_list))))) (zk (zB (pvJ 1))))),?_⟩;open_k0;refine opq λ_ kq=> ?_;obtain⟨fs,ec,f1,f2⟩:=zrz c63;apply kq;refine⟨a,_,rfl,hS,λp H1 _ s1 e1=>⟨p,rfl,_, .inl (SqL.of e1),λlr H2 hlr s2 e2=> ?_⟩⟩;rw[ec] at e2;have s12:=s1.trans s2;have hn:H lr=none:=by
  cases h:H lr with
  |none=>rfl
  |some o=>rw[s1 _ _ h] at hlr;cases hlr
 ((try dsimp only);refine qq λR hR=> ?_;(open_k0;repeat (dsimp only[yr,qt,yZ,qm];open_k0)))
 refine⟨_, .inl (s12.seq hS),'d','d','o',by rw[Ja];omega,hR _ _ ?_⟩;clear hR;rw[Ja];obtain⟨Pv,hPv⟩: ∃Pv:Nat->St->Hp->Prop,Pv=λi σ1 H5=>zh H H5/\ ∃(gs:List Int) (x2 x3:Option V),gs.length=fs.length/\H5 lr=some (.lst (gs.map V.int))/\σ1= [some (.ref a),some (.ref lr),x2,x3]:=⟨_,rfl⟩
 refine wk Pv (by rw[hPv];exact⟨s12,fs,_,_,rfl,e2,rfl⟩) (λi σ1 H5 hi h=> ?_) (λσ1 H5 h=> ?_)
 ·rw[hPv] at h;refine opq λ_ kq=> ?_;obtain⟨s5,gs,x2,x3,gl,e5,rfl⟩:=h;apply kq;have fl:=f2 'o';open_k0;generalize hat:5+(37+(i:Int) - 5) % 32=at';have a0:5<=at'/\at'<37:=by omega
  refine ixL (SqL.of e5) (wQ (xs:=gs) (i:=at') 'o' 'o') (ixL (s5.seq hS) (wQ (xs:=cs) (i:=37+(i:Int)) 'o' 'o') ⟨_,rfl,_,rfl,lr,_,_,at'.toNat,rfl,rfl,e5,?_,?_⟩)
  ·unfold ixN;rw[Jg 'o',Jg (by rw[Ja];omega)]
  ·rw[hPv];exact⟨uc s5 hn,gs.set at'.toNat (gs.getD at'.toNat 0+cs.getD (37+(i:Int)).toNat 0),_,_,by rw[List.length_set];exact gl,by rw[zN,List.map_set],rfl⟩
 rw[hPv] at h;refine opq λ_ kq=> ?_;obtain⟨s5,gs,x2,x3,gl,e5,rfl⟩:=h;apply kq;open_k0;exact q lr gs H5 s5 e5 'o'
theorem zng{f:Int}(h:qz nms f e ys)(m:Nat):qz nms f e (ys.take m):=λi z hi=>by
 rw[List.getElem?_take] at hi;split at hi
 ·rename_i c
  have:=h i z hi;rw[List.take_take,Nat.min_eq_left 'o'];exact this
 ·cases hi
theorem znh{m:Nat}{k:Nat}{z:En}(h:(ys.take m)[k]? =some z):ys[k]? =some z:=by
 rw[List.getElem?_take] at h;split at h
 ·exact h
 ·cases h
theorem zni(hp:ys.Pairwise (λa b=>a.2.2.1<=b.2.2.1)){d:Int}(h:x<=d):mOf (ys.take (mOf ys d)) x=mOf ys x/\mOf ys x<=mOf ys d:=by
 have e: ∀zs:List En,(zs.filter (enL d)).filter (enL x)=zs.filter (enL x):=λzs=>by
  rw[List.filter_filter];refine List.filter_congr λz _=> ?_;unfold enL;by_cases q:z.2.2.1<=x
  ·simp [q,show z.2.2.1<=d by omega]
  ·simp [q]
 have e1:=e ys;rw[(vC d hp).1] at e1;refine⟨by unfold mOf at e1 ⊢;rw[e1],?_⟩;unfold mOf;rw[<-e ys];exact List.length_filter_le ..
theorem znj{f:Int}(hp:ys.Pairwise (λa b=>a.2.2.1<=b.2.2.1))(ho:qJ (chs ys)){d:Int}(h:x<=d):(zK (ys.take (mOf ys d)) x).map (rtK f dy c (ys.take (mOf ys d)))=(zK ys x).map (rtK f dy c ys):=by
 obtain⟨m1,m2⟩:=zni hp h;have e:zK (ys.take (mOf ys d)) x=zK ys x:=by
  unfold zK;rw[m1,List.take_take,Nat.min_eq_left m2]
 have ho':qJ (chs (ys.take (mOf ys d))):=λi k hi=>by
  rw[wZ,List.getElem?_take] at hi;split at hi
  ·have:=ho i k hi;rw[wZ,List.take_take,Nat.min_eq_left 'o'];exact this
  ·cases hi
 have kn:=(jR (mo:=x) (List.Pairwise.sublist (List.take_sublist _ _) hp) ho').2;rw[e] at kn ⊢;refine List.map_congr_left λk hk=> ?_;obtain⟨z,_,hz,_⟩:=kn k hk;unfold rtK;rw[Jo,Jo,hz,znh hz]
theorem znk{os:List Int}{k:Int}(k0:k<0)(h:os≠ []): ∃os':List Int,xi (os.map V.int) (some k) none=os'.map V.int/\os'≠ []/\os'.Sublist os:=by
 have l:0<os.length:=List.length_pos_iff.mpr h;obtain⟨j,hj,e⟩: ∃j,j<os.length/\HT.sIx (os.map V.int).length 0 (some k)=j:=by
  refine⟨_,?_,rfl⟩;rw[Ja];show (if k<0 then (k+(os.length:Int)).toNat else min k.toNat os.length)<os.length;rw[Jg k0];omega
 refine⟨os.drop j,?_,λq=> ?_,List.drop_sublist _ _⟩
 ·unfold xi;rw[e,show HT.sIx (os.map V.int).length (os.map V.int).length none=(os.map V.int).length from rfl,List.take_of_length_le (by rw[List.length_drop];exact Je _),List.map_drop]
 ·have:=congrArg List.length q;rw[List.length_drop,List.length_nil] at this;omega
theorem zrA{f:Int}(hp:ys.Pairwise (λa b=>a.2.2.1<=b.2.2.1))(ho:qJ (chs ys)){d:Int}(h:x<=d)(g:GL f dy c ys x G):GL f dy c (ys.take (mOf ys d)) x G:=λts e=>g ts (by rw[e];exact znj hp ho h)
theorem zrB{f:Int}(hp:ys.Pairwise (λa b=>a.2.2.1<=b.2.2.1))(wd:WDays f dy c (ys.take (mOf ys day)) day ds):WDays f dy c ys day ds:=⟨wd.up,wd.sp,λx=>by
 rw[wd.mem];refine and_congr_right λhx=>or_congr_right ⟨λ⟨z,hz,e⟩=>⟨z,List.mem_of_mem_take hz,e⟩,λ⟨z,hz,e⟩=>⟨z,?_,e⟩⟩;rw[<-(vC day hp).1];exact List.mem_filter.mpr ⟨hz,JO 'o'⟩⟩
def wg(K:Fg)(f:Int)(dy:Bool)(c:Int)(zs:List (V×Pl))(ys:List En)(Gm:Int->Int->List D)(H:Hp)(d:Int)(lr:Addr)(ws:List (Addr×Ln)):Prop:=H lr=some (.lst (ws.map λw=>V.ref w.1))/\yo H ws/\ws.length<=20000/\ ∃ds:List (Int×Nat×Bool),WDays f dy c ys d ds/\ds.length<=100/\ws.map (·.2)=(zJ (cstF f dy c zs Gm) ys ds (0,0, [])).1
theorem wg.kp{f:Int}{d:Int}(h:wg K f dy c zs ys Gm H d lr ws)(k:Kp H H'):wg K f dy c zs ys Gm H' d lr ws:=⟨k.lst h.1,h.2.1.keep k,h.2.2⟩
theorem wg.put{f:Int}{d:Int}{us:List V}(h:wg K f dy c zs ys Gm H d lr ws)(n:lr≠l)(e:H l=some (.lst xs)):wg K f dy c zs ys Gm (upd H l (.lst us)) d lr ws:=⟨by rw[zu n];exact h.1,λw hw=>by
 have g:=h.2.1 w hw;rw[zu (λq=>by rw[q,e] at g;cases g)];exact g,h.2.2⟩
def znl(K:Fg):Sp:=λvs H Q _=> ∃(a:Addr) (ns:List Int),vs= [.ref a]/\SqL K H a (ns.map V.int)/\ns.length<=63/\ ∀H',Q (.bl true) H'
theorem zji(h0:SqL K H a (cs.map V.int))(h1:cs.length<=63)(h2: ∀r (fs:List Int) H',zh H H'->H' r=some (.lst (fs.map V.int))->fs.length<=37->Q (.ref r) H'):ziu K [.ref a] H Q E:=⟨_,_,rfl,h0,h1,h2⟩
theorem znm{le:Addr}{f:Int}(h0:yn K H pa la f dy c zs)(h1:H le=some (.lst (ys.map (·.1))))(h2:EnX zs f (Cal.beg f dy c 60) K H ys)(h3:(∀z∈ys,f<=z.2.2.1))(h4:(∀m,GL f dy c ys m (Gm m)))(h5:(∀x y,zK ys x=zK ys y->Gm x=Gm y))(h6:(∀m o sb se b e,b<=e->sb<se->0<=yf zs sb se b e (Gm m o)))(h7:(∀z∈ys,∀a,z.2.2.2= .grant a->0<=a))(h8:f<=day)(h9:day<Cal.beg f dy c 60)(h10:WDays f dy c ys day ds)(h11:ds.length<=100)(h12:H lr=some (.lst (ws.map λw=>V.ref w.1)))(h13:yo H ws)(h14:ws.map (·.2)=(zJ (cstF f dy c zs Gm) ys ds (0,0, [])).1)(h15: ∀H',Kp H H'->Q (.bl true) H'):znb K t [.ref pa, .ref le, .int day, .ref lr] H Q E:=⟨_,_,_,_,_,_,_,_,_,_,_,_,_,rfl,h0,h1,h2,h3,h4,h5,h6,h7,h8,h9,h10,h11,h12,h13,h14,h15⟩
theorem sc_1j:FnScope ["_law_script","_law_account_here","_law_folded_here","_law_head","_law_many","_law_far","_law_reach_here","_law_entries_here","_law_days","_law_told","_law_k","_law_by_then"] ["_law_script"] (zC s_1j):=by sl_open
theorem ok_1j(T:Txt w K mg t):FnOk P w K mg base (CXE P w) 16 t.a_1j t.d_1j ["_law_script"] (znl K):=by
 refine T.F_1j.fn.okX sc_1j ?_ λcdv A outer s H vs Q E L hr h=> ?_
 ·kdl_open
 refine opq λ_ kq=> ?_;obtain⟨a,ns,rfl,hS,h63,q⟩:=h;apply kq;have nd:=sc_1j.nd;refine⟨_,(zj (uJ (i:=1) nd rfl (Or.inr rfl) (peD L.toLv (ok_1b T) hr T.F_1b (zb (pvJ 0) zd))) (zj (psJ 2 nd (peD L.toLv (ok_1i T) hr T.F_1i (zb (pvJ 0) zd))) (zj (psJ 3 nd (zg yL (peD L.toLv (ok_18 T) hr T.F_18 (zb (pvJ 0) (zb zc zd zE) ze)) zc)) (zj (psJ 4 nd (zg yL (zg zI (zY (zkg (by rfl)) (by rfl) T.no_max zpd (zb zc (zb (zg yj (zY xj (by rfl) T.no_len qU (zb (pvJ 2) zd)) zc) zd zT) zE)) zc) zc)) (zj (xv (zP (qg (zg zO (pvJ 3) zc) zc) (zk (psJ 4 nd (zY (xG (by rfl)) (by rfl) T.no_min xK (zb zc (zb (zg zI (pvJ 4) (zg zO (zg yL (pvJ 3) zc) zc)) zd zT) zE)))) zQ)) (zj (psJ 5 nd (xh qR (zg zO (zg yL (pvJ 3) zc) zc) zc (yF _))) (zj (xv (zP (q5 (jr (pvJ 5))) (zk (psJ 4 nd (zY (xG (by rfl)) (by rfl) T.no_min xK (zb (pvJ 4) (zb zc zd zE) ze)))) zQ)) (zj (psJ 6 nd (peD L.toLv (ok_1c T) hr T.F_1c (zb (pvJ 1) (zb (pvJ 5) zd ze) ze))) (zj (uJ (i:=7) nd rfl (Or.inr rfl) (peD L.toLv (ok_1e T) hr T.F_1e (zb (pvJ 2) (zb (pvJ 1) (zb (pvJ 6) (zb zc (zb (pvJ 4) zd ze) zE) ze) ze) ze))) (zj (xv (uJ (i:=8) nd rfl (Or.inr rfl) (kJ k8 (zY (zdI (w:=w) rfl (by rfl)) (by rfl) T.no_sorted uT (zb (xJ (zfs (w:=w) (K:=K) rfl rfl (by rfl)) (by rfl) T.no_set zl5 (zb (zg zjr (qG (n:=2) (N:= ["_law_entered","_law_change_here"]) (js:= []) (by rfl) rfl rfl (qb (pvJ 7)) (λa=>(z7 (n:=2) rfl (yR (zq (i:=0) (show List.Nodup (["_law_entered","_law_change_here"]:List Str) from by decide+kernel) rfl (Or.inl rfl)) (yR (zq (i:=1) (show List.Nodup (["_law_entered","_law_change_here"]:List Str) from by decide+kernel) rfl (Or.inl rfl)) xF)))) (λa=>qM) (λa=>(pvJ 0))) (yi (zb (zg yj (zg zI (ixJ zH (pvJ 1) zc) (pvJ 6)) zc) zd))) zd)) zd)) (zfu (zg yj (xJ v9 (by rfl) T.no_int ub (zb (pvJ 5) zd)) zc)) kI))) (zj (xv (ue (i:=9) nd rfl rfl (n:=1) (N:= ["_law_day","_law_account_here","_law_entries_here"]) (js:= [1,7]) (by rfl) rfl rfl (qb (pvJ 8)) (λa=>(zq (i:=0) (show List.Nodup (["_law_day","_law_account_here","_law_entries_here"]:List Str) from by decide+kernel) rfl (Or.inl rfl))) (λa=>qM) (λa=>(peD vv (ok_13 T) hr T.F_13 (zb (pvJ 1) (zb (pvJ 2) (zb (pvJ 0) zd ze) ze) ze))))) (zj (qj (by passes_own) rfl (xR (by rfl) T.no_range (zb (zY xj (by rfl) T.no_len qU (zb (pvJ 8) zd)) zd)) (zq (i:=10) nd rfl (Or.inr rfl)) (zj (ue (i:=11) nd rfl rfl (n:=1) (N:= ["_law_entry","_law_days","_law_k"]) (js:= [8,10]) (by rfl) rfl rfl (qb (pvJ 7)) (λa=>(zq (i:=0) (show List.Nodup (["_law_entry","_law_days","_law_k"]:List Str) from by decide+kernel) rfl (Or.inl rfl))) (λa=>(vw (qB ziV (ixJ zH (pvJ 0) zc) (ixJ z5 (pvJ 1) (pvJ 2)) (yF _)))) (λa=>(pvJ 0))) (zj (xv (zP (PWQ.pq (wL (yu xt (pvJ 10) zc) (wK (q5 (qB (uY hr) (kJ k8 (ixJ z5 (pvJ 9) (pvJ 10)) kI (zfu (zY xj (by rfl) T.no_len qU (zb (ixJ z5 (pvJ 9) (zg yj (pvJ 10) zc)) zd)))) (ixJ z5 (pvJ 9) (zg yj (pvJ 10) zc)) (yF _)))))) (zk (zB wj)) zQ)) (zk (zP (PWQ.pq (xN (q5 (qB (uY hr) (peD L.toLv (ok_13 T) hr T.F_13 (zb (pvJ 1) (zb (pvJ 11) (zb (ixJ z5 (pvJ 8) (pvJ 10)) zd yH) ze) ze)) (ixJ z5 (pvJ 9) (pvJ 10)) (yF _))) (wc (zmj (vW (peD L.toLv (ok_1h T) hr T.F_1h (zb (pvJ 1) (zb (pvJ 7) (zb (ixJ z5 (pvJ 8) (pvJ 10)) (zb (ixJ z5 (pvJ 9) (pvJ 10)) zd yH) yH) ze) ze))))))) (zk (zB wj)) zQ))))) (zk (zB (xh (zph hr) (peD L.toLv (ok_13 T) hr T.F_13 (zb (pvJ 1) (zb (pvJ 7) (zb (ixJ z5 (pvJ 8) zc) zd yH) ze) ze)) (ixJ z5 (pvJ 9) zc) (yF _)))))))))))))))),?_⟩;open_k0;refine znd (hS) 'o' (λpa la zs f dy c H1 s1 hz=> ?_);refine zji (s1.seq hS) (h63) (λlf fs H2 s2 e2 f37=> ?_);refine zne ((s1.trans s2).seq hS) 'd' 'd' 'o' (λh=>⟨_,rfl,?_⟩);try open_k0
 refine⟨_, .inl (SqL.of e2),?_⟩;rw[Ja];generalize h / 2=h;obtain⟨m0,hm0⟩: ∃m0,m0=((if ((fs.length:Int)) - 5>0 then (fs.length:Int) - 5 else 0)+1) / 2:=⟨_,rfl⟩
 rw[<-hm0];have b0:0<=m0/\m0<=16:=by
  rw[hm0];split<;>omega
 clear hm0;obtain⟨R,hR⟩: ∃R:St->Hp->Prop,R=λσ' H'=>H'=H2/\ ∃m:Int,0<=m/\m<=16/\σ'= [some (.ref a),some (.ref pa),some (.ref lf),some (.int h),some (.int m),none,none,none,none,none,none,none]:=⟨_,rfl⟩
 refine⟨R,?_,λσ1 H3 h3=> ?_⟩
 ·open_k0;rw[hR];refine yC (λ_=>⟨rfl,_,?_,?_,rfl⟩) λ_=>⟨rfl,m0,b0.1,b0.2,rfl⟩
  ·split<;>omega
  ·split<;>omega
 rw[hR] at h3;refine opq λ_ kq=> ?_;obtain⟨rfl,m1,m10,m11,rfl⟩:=h3;apply kq;clear hR b0;open_k0;generalize decide (h / 104 % 8=3)=far;obtain⟨R,hR⟩: ∃R:St->Hp->Prop,R=λσ' H'=>H'=H3/\ ∃m:Nat,m<=16/\σ'= [some (.ref a),some (.ref pa),some (.ref lf),some (.int h),some (.int (m:Int)),some (.bl far),none,none,none,none,none,none]:=⟨_,rfl⟩
 refine⟨R,?_,λσ1 H3' h3=> ?_⟩
 ·open_k0;obtain⟨m1,rfl⟩:=Int.eq_ofNat_of_zero_le m10;rw[hR];refine yC (λ_=> ?_) λ_=>⟨rfl,m1,'o',rfl⟩
  by_cases g:(6:Int)<m1
  ·rw[Jg g];exact⟨rfl,6,'d',rfl⟩
  ·rw[Jf g];exact⟨rfl,m1,'o',rfl⟩
 rw[hR] at h3;refine opq λ_ kq=> ?_;obtain⟨rfl,mn,mn1,rfl⟩:=h3;apply kq;clear hR;open_k0;refine opq λ_ kq=> ?_;obtain⟨pc,f0,f1,hc,ep⟩:=id (hz.same s2).1;apply kq;have bz:Cal.beg f dy c 0=f:=Cal.beg_zero f0 f1;refine zjg ((hz.same s2).1) (λkk kk0 kk1 H4 s4=> ?_);have g1:=Cal.beg_lt (k:=0) (j:=kk) f0 f1 hc.2 'd' 'o' 'o';have g2:=Cal.beg_le (k:=kk) (j:=60) f0 f1 hc.2 'o' 'o' 'd';have g3:=Cal.beg_range (k:=kk) f0 f1 hc.2 'o' 'o';rw[bz] at g1;have s24:=s2.trans s4;refine zhp (SqL.of (s4 _ _ e2)) 'o' (hz.same s24) 'o' 'o' 'o' 'o' (λle ys H5 s5 yA yO yl el=> ?_);have s25:=s24.trans s5;refine opq λ_ kq=> ?_;obtain⟨hY,hy0⟩:=zm5 yA yO yl;have hz5:=hz.same s25;obtain⟨Gm,hG,hg,nn⟩:=zrx f0 f1 hc.2 hz.2.2.2 hY;apply kq;have gr0: ∀z∈ys,∀x,z.2.2.2= .grant x->0<=x:=λz hz' x e=>by
  obtain⟨i,hi,ez⟩:=List.mem_iff_getElem.mp hz';have ci:=(yO i z (by rw[Jb hi,ez])).2.2.2;rw[e] at ci;exact Int.le_trans 'd' ci.1
 have ye: ∀z∈ys,z.2.2.1<Cal.beg f dy c 60:=λz hz'=>by
  obtain⟨i,hi,ez⟩:=List.mem_iff_getElem.mp hz';exact(yO i z (by rw[Jb hi,ez])).2.1
 obtain⟨R,hR⟩: ∃R:St->Hp->Prop,R=λσ' H'=>zh H5 H'/\ ∃(os':List Int) (l11:Addr),os'≠ []/\os'.Pairwise (· < ·)/\(∀x∈os',f<=x/\x<Cal.beg f dy c 60)/\os'.length<=100/\H' l11=some (.lst (os'.map V.int))/\σ'= [some (.ref a),some (.ref pa),some (.ref lf),some (.int h),some (.int (mn:Int)),some (.bl far),some (.int (Cal.beg f dy c kk - f)),some (.ref le),some (.ref l11),none,none,none]:=⟨_,rfl⟩
 refine⟨R,?_,λσ1 H11 h11=> ?_⟩
 ·(open_k0;repeat (dsimp only[qk,yr];open_k0))
  refine⟨⟨_,SqL.of el⟩,λl6 hl6 aa=> ?_⟩;refine qr (λj xs _=>xs=((ys.take j).map λz=>z.2.2.1).map V.int) (qV (SqL.of el)) hl6 (by rw[Ja];exact qy 'o') (λ_ _=>rfl) (λj y xs H6 K1 K0 hxx sm pv hl kk' k0'=> ?_) (λxs H6 s6 pv _ w6=> ?_)
  ·rw[Jh] at hxx;refine opq λ_ kq=> ?_;obtain⟨z,hz',rfl⟩:=Jk.mp hxx;obtain⟨pe,ee,q1,_⟩:=hY.1 z (Ji hz');apply kq;rw[ee];refine⟨pe,_,rfl,sm.sqT q1,rfl,?_⟩;open_k0;exact kk' _ _ (zh.refl _) λH5 _=>by rw[pv,JH,hz',Jd,Jd];rfl
  rw[Ja,JC] at pv;subst pv;have ep6:=(s4.trans (s5.trans s6)) _ _ ep;refine ixT (SqT.of ep6) (y8 _ _ _) ⟨_,rfl,λl7 H7 _ s7 e7=>⟨l6,l7,_,_,rfl,rfl,s7 _ _ w6,e7,qX (by rw[Ja,Ja];show ys.length+1<=_;omega),λl8 H8 _ s8 e8=> ?_⟩⟩;rw[show [V.int (f+(Cal.beg f dy c kk - f) - 1)]= [f+(Cal.beg f dy c kk - f) - 1].map V.int from rfl,<-Jd] at e8;generalize hzz:(ys.map λz=>z.2.2.1)++ [f+(Cal.beg f dy c kk - f) - 1]=zz at e8;have zl:zz.length<=100:=by rw[<-hzz,Jj,Ja];show ys.length+1<=_;omega
  have zm: ∀x∈zz,f<=x/\x<Cal.beg f dy c 60:=λx hx=>by
   rw[<-hzz] at hx;rcases Jr.mp hx with h|h
   ·obtain⟨z,hz',rfl⟩:=Jw.mp h;exact⟨hy0 z hz',ye z hz'⟩
   ·rw[Jm.mp h];omega
  have zn:f+(Cal.beg f dy c kk - f) - 1∈zz:=by rw[<-hzz];exact List.mem_append_right _ Jq
  clear hzz;refine⟨l8,rfl,zz,SqL.of e8,'o',λq9 H9 _ s9 e9=>⟨_,e9,JE (Se.met_len _ _) 'o',λos wp wo l10 H10 _ s10 e10=>⟨l10,_,rfl,SqL.of e10,?_⟩⟩⟩;have om: ∀x,x∈os↔x∈zz:=λx=>wp.mem_iff.trans zhX;refine opq λ_ kq=> ?_;obtain⟨os',ec,on,osl⟩:=znk (os:=os) (k:=(if far=true then 1 else 0) - 3) (by split<;>omega) (λq=>by have:=(om _).mpr zn;rw[q] at this;cases this);apply kq;have up:os'.Pairwise (· < ·):=List.Pairwise.sublist osl ((List.Pairwise.and wo ((wp.nodup_iff).mpr (zfq zz))).imp λh=>by omega);have ob: ∀x∈os',f<=x/\x<Cal.beg f dy c 60:=λx hx=>zm x ((om x).mp (osl.subset hx));have ol:os'.length<=100:=JE osl.length_le (by rw[wp.length_eq];exact JE (Se.met_len _ _) zl);rw[ec];intro l11 H11 _ s11 e11;rw[hR];exact⟨((((s6.trans s7).trans s8).trans s9).trans s10).trans s11,os',l11,on,up,ob,ol,e11,rfl⟩
 rw[hR] at h11;refine opq λ_ kq=> ?_;obtain⟨s5B,os',l11,on,up,ob,ol,e11,rfl⟩:=h11;apply kq;clear hR;have hzB:=hz5.same s5B;have elB:=s5B _ _ el;have hYB:=hY.same s5B;clear hz5 el hY yA s5B s25 s24 s4 s5 hS e2 f37 ep s1 s2;have told: ∀(d:Int) (HH:Hp) (Q2:VK) (E2:XK),f<=d->d<Cal.beg f dy c 60->Kp H11 HH->(∀lr ws H',Fr HH lr->Kp HH H'->wg K f dy c zs ys Gm H' d lr ws->Q2 (.ref lr) H')->zhm K t [.ref pa, .ref le, .int d] HH Q2 E2:=λd HH Q2 E2 d0 d1 kH h=>by
  refine⟨pa,le,la,f,dy,c,zs,ys,Gm,d,rfl,hzB.kp kH,kH.lst elB,hYB.kp kH,hy0,hG,λ_ _ lr ds ws H' wd fr dl k' e' la' lm=>h lr ws H' fr k' ⟨e',la',?_,ds,wd,dl,lm⟩,λz=>absurd z 'o',λz=>absurd z 'o'⟩;have h1:=uy (cstF f dy c zs Gm) hYB.2.1 ds (0,0, []) λz hz=>(wd.sp z hz).k60;have h2:=congrArg List.length lm;rw[Ja] at h2;omega
 obtain⟨R,hR⟩: ∃R:St->Hp->Prop,R=λσ' H'=>Kp H11 H'/\ ∃(l12:Addr) (tl:List (Addr×List (Addr×Ln))),tl.length=os'.length/\(∀(j:Nat) d u,os'[j]? =some d->tl[j]? =some u->wg K f dy c zs ys Gm H' d u.1 u.2)/\H' l12=some (.lst (tl.map λt=>V.ref t.1))/\σ'= [some (.ref a),some (.ref pa),some (.ref lf),some (.int h),some (.int (mn:Int)),some (.bl far),some (.int (Cal.beg f dy c kk - f)),some (.ref le),some (.ref l11),some (.ref l12),none,none]:=⟨_,rfl⟩
 refine⟨R,?_,λσ1 H12 h12=> ?_⟩
 ·(open_k0;repeat (dsimp only[qk,yr];open_k0))
  refine⟨⟨_,SqL.of e11⟩,λl12 hl12 ab=> ?_⟩;have fr12:Fr H11 l12:=λu e=>by rw[hl12] at e;cases e
  obtain⟨Pv,hPv⟩: ∃Pv:Nat->List V->Hp->Prop,Pv=λi xs H5=>Kp H11 H5/\ ∃tl:List (Addr×List (Addr×Ln)),xs=tl.map (λt=>V.ref t.1)/\tl.length=i/\(∀u∈tl,u.1≠l12)/\(∀(j:Nat) d u,os'[j]? =some d->tl[j]? =some u->wg K f dy c zs ys Gm H5 d u.1 u.2)/\H5 l12=some (.lst xs):=⟨_,rfl⟩
  refine zmk (ys:=os'.map V.int) Pv (by rw[Ja];exact qy 'o') (by rw[hPv];exact⟨Kp.of_same (xL hl12 _), [],rfl,rfl,(List.forall_mem_nil _),(λj d u _ h=>by cases j<;>cases h),zN⟩) (λi xs H3 h=>by rw[hPv] at h;obtain⟨k3,tl,_,_,_,_,e⟩:=h;exact⟨SqL.of (k3.lst e11),e⟩) (λi x xs H5' K1 K0 hxx h kk' k0'=> ?_) (λxs H12 h=> ?_)
  ·rw[hPv] at h kk';refine opq λ_ kq=> ?_;obtain⟨k5,tl,rfl,tll,tn,tt,e5⟩:=h;rw[Jh] at hxx;obtain⟨d,hd,rfl⟩:=Jk.mp hxx;apply kq;have db:=ob d (Ji hd);open_k0;refine told d _ _ _ db.1 db.2 k5 λlr ws H' fr k' ht=> ?_;have e5':=k'.lst e5;have nl:lr≠l12:=λz=>by
    rcases fr _ (z ▸ e5) with⟨_,_,_,q⟩|⟨_,q⟩<;>cases q
   refine kk' _ _ e5' ⟨(k5.trans k').put fr12,tl++ [(lr,ws)],by rw[Jd];rfl,by rw[Jj,tll];rfl,λu hu=> ?_,λj d' u h1 h2=> ?_,zN⟩
   ·rcases Jr.mp hu with g|g
    ·exact tn u g
    ·rw[Jm.mp g];exact nl
   ·rcases Nat.lt_or_ge j tl.length with g|g
    ·rw[List.getElem?_append_left g] at h2;exact((tt j d' u h1 h2).kp k').put (tn u (Ji h2)) e5'
    ·rw[List.getElem?_append_right g] at h2;obtain rfl:j=tl.length:=by
      have:=(Jc.mp h2).1
      have:j - tl.length<1:=this;omega
     rw[Nat.sub_self] at h2;cases h2;rw[tll] at h1;rw[hd] at h1;cases h1;exact ht.put nl e5'
  rw[hPv] at h;refine opq λ_ kq=> ?_;obtain⟨k12,tl,rfl,tll,tn,tt,e12⟩:=h;apply kq;rw[Ja] at tll;rw[hR];exact⟨k12,l12,tl,tll,tt,e12,rfl⟩
 rw[hR] at h12;refine opq λ_ kq=> ?_;obtain⟨k12,l12,tl,tll,tt,e12,rfl⟩:=h12;apply kq;clear hR;open_k0;refine qq λR hR=> ?_
 (open_k0;repeat (dsimp only[qk,yr,yZ];open_k0))
 have e11':=k12.lst e11;refine⟨_, .inl (SqL.of e11'),'o',by rw[Ja];omega,hR _ _ ?_⟩;clear hR;rw[Ja,JF];obtain⟨Pw,hPw⟩: ∃Pw:Nat->St->Hp->Prop,Pw=λ_ σ1 H5=>Kp H12 H5/\ ∃x10 x11:Option V,σ1= [some (V.ref a),some (V.ref pa),some (V.ref lf),some (V.int h),some (V.int (mn:Int)),some (V.bl far),some (V.int (Cal.beg f dy c kk - f)),some (V.ref le),some (V.ref l11),some (V.ref l12),x10,x11]:=⟨_,rfl⟩
 refine wk Pw (by rw[hPw];exact⟨Kp.of_same (zh.refl _),_,_,rfl⟩) (λi σ1 H13 hi h=> ?_) (λσ1 H13 h=> ?_)
 ·rw[hPw] at h;refine opq λ_ kq=> ?_;obtain⟨k13,x10,x11,rfl⟩:=h;apply kq;have hd:=Jb hi;have hu:=Jb (l:=tl) (i:=i) 'o';have dm:os'[i]∈os':=List.getElem_mem hi;generalize os'[i]=d at hd dm;generalize tl[i]=u at hu;have db:=ob d dm;have ht:=(tt i d u hd hu).kp k13
  (open_k0;repeat (dsimp only[qk,yr];open_k0))
  have kB:=k12.trans k13;have el13:=kB.lst elB;have e11i:=k13.lst e11';have e12i:=k13.lst e12;have ixd: ∀{HH:Hp} {Q2:VK},Kp H13 HH->Q2 (.int d) HH->wu K (.ref l11) (.int (0+(i:Int))) HH Q2:=λkh h=>ixL (SqL.of (kh.lst e11i)) (by rw[JS];exact qp (by rw[Jh,hd];rfl)) h;have ixu: ∀{HH:Hp} {Q2:VK},Kp H13 HH->Q2 (.ref u.1) HH->wu K (.ref l12) (.int (0+(i:Int))) HH Q2:=λkh h=>ixL (SqL.of (kh.lst e12i)) (by rw[JS];exact qp (by rw[Jh,hu];rfl)) h;refine⟨⟨_,SqL.of el13⟩,λl14 hl14 ac=> ?_⟩;refine qr (λj xs _=>xs=((ys.take j).filter (enL d)).map (·.1)) (qV (SqL.of el13)) hl14 (by rw[Ja];exact qy 'o') (λ_ _=>rfl) (λj y xs H14 K1 K0 hxx sm pv hl kk' k0'=> ?_) (λxs H14 s14 pv _ w14=> ?_)
  ·rw[Jh] at hxx;refine opq λ_ kq=> ?_;obtain⟨z,hz',rfl⟩:=Jk.mp hxx;obtain⟨pe,ee,q1,_⟩:=(hYB.kp kB).1 z (Ji hz');apply kq;have nx:(ys.take (j+1)).filter (enL d)=(ys.take j).filter (enL d)++(if z.2.2.1<=d then [z] else []):=by
    rw[JH,hz',Option.toList_some,JT,JU];by_cases g:z.2.2.1<=d
    ·rw[Jg (show enL d z=true from JO g),Jg g];rfl
    ·rw[Jf (show¬enL d z=true from λh=>g (of_decide_eq_true h)),Jf g];rfl
   rw[ee];open_k0;refine ixT (sm.sqT q1) (yx _ _) (ixd (Kp.of_same sm) ⟨_,rfl,_,rfl,?_⟩);by_cases g:z.2.2.1<=d
   ·rw[Jg g] at nx ⊢;exact kk' _ _ (zh.refl _) λH5 _=>by rw[pv,nx,Jd,<-ee];rfl
   ·rw[Jf g] at nx ⊢;exact k0' _ (zh.refl _) (by rw[pv,nx,Jt])
  rw[Ja,JC,(vC d hYB.2.2.1).1] at pv;subst pv;have k14:=Kp.of_same s14;have kC:=kB.trans k14;obtain⟨R,hR⟩: ∃R:St->Hp->Prop,R=λσ' H'=>zh H14 H'/\σ'= [some (V.ref a),some (V.ref pa),some (V.ref lf),some (V.int h),some (V.int (mn:Int)),some (V.bl far),some (V.int (Cal.beg f dy c kk - f)),some (V.ref le),some (V.ref l11),some (V.ref l12),some (V.int (0+(i:Int))),some (V.ref l14)]:=⟨_,rfl⟩
  refine⟨R,?_,λσ2 H15 h15=> ?_⟩
  ·open_k0;refine yC (λgi=> ?_) λ_=>by rw[hR];exact⟨zh.refl _,rfl⟩
   have hd':=Jb (l:=os') (i:=i - 1) 'o';have hu':=Jb (l:=tl) (i:=i - 1) 'o';have lt:os'[i - 1]''o'<d:=by
    have:=List.pairwise_iff_getElem.mp up (i - 1) i 'o' hi 'o';rw[(Jc.mp hd).2] at this;exact this
   generalize os'[i - 1]''o'=d' at hd' lt;generalize tl[i - 1]''o'=u' at hu';have ht':=((tt (i - 1) d' u' hd' hu').kp k13).kp k14;have htk:=ht.kp k14;have ixu': ∀{HH:Hp} {Q2:VK},Kp H13 HH->Q2 (.ref u'.1) HH->wu K (.ref l12) (.int (0+(i:Int) - 1)) HH Q2:=λkh h=>ixL (SqL.of (kh.lst e12i)) (by rw[show 0+(i:Int) - 1=((i - 1:Nat):Int) by omega];exact qp (by rw[Jh,hu'];rfl)) h;refine ixu k14 (ixu' k14 ⟨u'.1,rfl,_, .inl (SqL.of ht'.1),u.1,_,rfl,SqL.of htk.1,λl15 H15 _ s15 e15=>ixu' (k14.trans (Kp.of_same s15)) ?_⟩);refine opq λ_ kq=> ?_;obtain⟨g1,g2,g3,ds1,wd1,_,lm1⟩:=ht'.kp (Kp.of_same s15);obtain⟨g4,g5,g6,ds2,wd2,_,lm2⟩:=htk.kp (Kp.of_same s15);obtain⟨da,dbb,rfl,wa,_⟩:=zqi wd2 (show d'<=d by omega);apply kq;obtain rfl:=jW f0 f1 hc.2 wd1 wa;rw[zey] at lm2;have lm2':u.2.map (·.2)=u'.2.map (·.2)++(zJ (cstF f dy c zs Gm) ys dbb (zJ (cstF f dy c zs Gm) ys ds1 (0,0, [])).2).1:=by rw[lm1];exact lm2
   have ul:u'.2.length<=u.2.length:=by
    have:=congrArg List.length lm2';rw[Jj,Ja,Ja] at this;omega
   rw[Ja,zhD _ 'o' (by rw[Ja];omega),JF,<-List.map_take] at e15;have lt':(u.2.take u'.2.length).map (·.2)=u'.2.map (·.2):=by
    rw[List.map_take,lm2',List.take_append_of_le_length (by rw[Ja];exact Je _),List.take_of_length_le (by rw[Ja];exact Je _)]
   refine neD (n:=1) (d:= .lst ((u'.2.map (·.2)).map lnD)) (wz (SqL.of e15) ?_) (wz (SqL.of g1) g2.dp) rfl 'd' ⟨_,rfl,yg 'd' (by rw[hR];exact⟨s15,rfl⟩)⟩;rw[<-lt'];exact yo.dp λw hw=>g5 w (List.mem_of_mem_take hw)
  rw[hR] at h15;obtain⟨s15,rfl⟩:=h15;clear hR;have k15:=Kp.of_same (s14.trans s15);have kD:=kB.trans k15;open_k0;refine ixd k15 ?_;have hpw:=hYB.2.2.1;refine opq λ_ kq=> ?_;obtain⟨hYt,hy0t⟩:=zm5 (zs:=zs) (ys:=ys.take (mOf ys d)) (λz hz=>(hYB.kp kD).1 z (List.mem_of_mem_take hz)) (zng yO _) (by rw[JB];omega);obtain⟨Gn,hGn,_⟩:=zrv f0 f1 hc.2 hYt;obtain⟨Gp,hGp⟩: ∃Gp:Int->Int->List D,Gp=λm=>if m<=d then Gm m else Gn m:=⟨_,rfl⟩
  apply kq;have gp: ∀m,m<=d->Gp m=Gm m:=λm hm=>by rw[hGp];exact Jg hm
  have hG': ∀m,GL f dy c (ys.take (mOf ys d)) m (Gp m):=λm=>by
   by_cases hm:m<=d
   ·rw[gp m hm];exact zrA hpw hYB.2.2.2.1 hm (hG m)
   ·rw[hGp];dsimp only;rw[Jf hm];exact hGn m
  refine zkW (hzB.kp kD) (s15 _ _ w14) (hYt) (hy0t) (hG') (λ_ _ lr ds ws H16 wd _ dl k16 e16 la16 lm16=> ?_) (λz=>absurd z 'o') (λz=>absurd z 'o');have ht6:=(ht.kp k15).kp k16;refine opq λ_ kq=> ?_;obtain⟨g1,g2,g3,ds2,wd2,dl2,lm2⟩:=ht6;apply kq;obtain rfl:=jW f0 f1 hc.2 (zrB hpw wd) wd2;have eb:zJ (cstF f dy c zs Gm) ys ds (0,0, [])=zJ (cstF f dy c zs Gp) (ys.take (mOf ys d)) ds (0,0, []):=by
   have:=zjZ (c1:=cstF f dy c zs Gm) (c2:=cstF f dy c zs Gp) (ys:=ys.take (mOf ys d)) (zs:=ys.drop (mOf ys d)) ds (0,0, []) λx hx=>by
    have xd:x.1<=d:=((wd2.mem x.1).mp (Jw.mpr ⟨x,hx,rfl⟩)).1;refine⟨λz hz' e=> ?_,λi=>by unfold cstF;rw[gp _ xd]⟩;obtain⟨j,hj,ez⟩:=List.mem_iff_getElem.mp hz';have gz:ys[mOf ys d+j]? =some z:=by rw[<-List.getElem?_drop,Jb hj,ez]
    have:=((vC d hpw).2 _ z gz).mp 'o';omega
   rw[List.take_append_drop] at this;exact this
  have k136:=k15.trans k16;refine ixu k136 (neD (n:=1) (d:= .lst ((ws.map (·.2)).map lnD)) (wz (SqL.of e16) la16.dp) (wz (SqL.of g1) (by rw[lm16,<-eb,<-lm2];exact g2.dp)) rfl 'd' ⟨_,rfl,yg 'd' (ixd k136 (ixu k136 ?_))⟩);have kE:=kB.trans k136;refine znm (hzB.kp kE) (kE.lst elB) (hYB.kp kE) (hy0) (hG) (hg) (nn) (gr0) (db.1) (db.2) (wd2) (dl2) (g1) (g2) (lm2) (λH17 k17=>⟨_,rfl,yg 'd' ?_⟩);rw[hPw];exact⟨k13.trans (k136.trans k17),_,_,rfl⟩
 rw[hPw] at h;refine opq λ_ kq=> ?_;obtain⟨k13,x10,x11,rfl⟩:=h;apply kq;open_k0;have hd:=Jb (l:=os') (i:=0) (List.length_pos_iff.mpr on);have hu:=Jb (l:=tl) (i:=0) (by rw[tll];exact List.length_pos_iff.mpr on);have dm:os'[0]'(List.length_pos_iff.mpr on)∈os':=List.getElem_mem _;generalize os'[0]'(List.length_pos_iff.mpr on)=d at hd dm;generalize tl[0]'(by rw[tll];exact List.length_pos_iff.mpr on)=u at hu;have db:=ob d dm;have ht:=(tt 0 d u hd hu).kp k13;refine ixL (SqL.of (k13.lst e11')) (v:= .int d) (qp (j:=0) (by rw[Jh,hd];rfl)) ?_;refine told d _ _ _ db.1 db.2 (k12.trans k13) λlr ws H' fr k' ht'=> ?_;refine ixL (SqL.of (k'.lst (k13.lst e12))) (v:= .ref u.1) (qp (j:=0) (by rw[Jh,hu];rfl)) ?_;refine opq λ_ kq=> ?_;obtain⟨g1,g2,g3,ds1,wd1,_,lm1⟩:=ht';obtain⟨g4,g5,g6,ds2,wd2,_,lm2⟩:=ht.kp k';apply kq;obtain rfl:=jW f0 f1 hc.2 wd1 wd2;exact eqD (n:=1) (d:= .lst ((ws.map (·.2)).map lnD)) (wz (SqL.of g1) g2.dp) (wz (SqL.of g4) (by rw[lm1,<-lm2];exact g5.dp)) rfl 'd' (q _)
end
theorem qv{P:List α->Prop}(h: ∀a0,P [a0])(us:List α)(l:us.length=1):P us:=match us,l with| [a0],_=>h a0
theorem qE{P:List α->Prop}(h: ∀a0 a1,P [a0,a1])(us:List α)(l:us.length=2):P us:=match us,l with| [a0,a1],_=>h a0 a1
theorem y9{P:List α->Prop}(h: ∀a0 a1 a2,P [a0,a1,a2])(us:List α)(l:us.length=3):P us:=match us,l with| [a0,a1,a2],_=>h a0 a1 a2
theorem vU{P:List α->Prop}(h: ∀a0 a1 a2 a3,P [a0,a1,a2,a3])(us:List α)(l:us.length=4):P us:=match us,l with| [a0,a1,a2,a3],_=>h a0 a1 a2 a3
theorem zrC{P:List α->Prop}(h: ∀a0 a1 a2 a3 a4,P [a0,a1,a2,a3,a4])(us:List α)(l:us.length=5):P us:=match us,l with| [a0,a1,a2,a3,a4],_=>h a0 a1 a2 a3 a4
theorem zrW{P:List α->Prop}(h: ∀a0 a1 a2 a3 a4 a5,P [a0,a1,a2,a3,a4,a5])(us:List α)(l:us.length=6):P us:=match us,l with| [a0,a1,a2,a3,a4,a5],_=>h a0 a1 a2 a3 a4 a5
open PySem.W in
theorem txt_mk{w:World}{h:Heap}{mg:Str->Option Value}(X:K.In h)(G:h.Ns mainGlobals mg)
  (h0:L2.FA K "has_leap_day" s_00)
  (h1:L2.FA K "days_in" s_01)
  (h2:L2.FA K "days_ahead_of_year" s_02)
  (h3:L2.FA K "day_of" s_03)
  (h4:L2.FA K "year_of" s_04)
  (h5:L2.FA K "date_of" s_05)
  (h6:L2.FA K "months_on" s_06)
  (h7:L2.FA K "begin_of" s_07)
  (h8:L2.FA K "span_on" s_08)
  (h9:L2.FA K "end_of_account" s_09)
  (h10:L2.FA K "span_days" s_0a)
  (h11:L2.FA K "span_with" s_0b)
  (h12:L2.FA K "share" s_0c)
  (h13:L2.FA K "counts_from" s_0d)
  (h14:L2.FA K "in_order" s_0e)
  (h15:L2.FA K "state_by" s_0f)
  (h16:L2.FA K "state_on" s_0g)
  (h17:L2.FA K "stretches_by" s_0h)
  (h18:L2.FA K "price_and_count" s_0i)
  (h19:L2.FA K "stretch_cost" s_0j)
  (h20:L2.FA K "day_cost" s_0k)
  (h21:L2.FA K "lines_ahead" s_0l)
  (h22:L2.FA K "cost_of" s_0m)
  (h23:L2.FA K "span_lines" s_0n)
  (h24:L2.FA K "span_cost" s_0o)
  (h25:L2.FA K "earned" s_0p)
  (h26:L2.FA K "is_term" s_0q)
  (h27:L2.FA K "standing_terms" s_0r)
  (h28:L2.FA K "terms_at" s_0s)
  (h29:L2.FA K "costs_by" s_0t)
  (h30:L2.FA K "days_entered" s_0u)
  (h31:L2.FA K "work_days" s_0v)
  (h32:L2.FA K "grant_lines" s_0w)
  (h33:L2.FA K "line_of_less" s_0x)
  (h34:L2.FA K "line_of_more" s_0y)
  (h35:L2.FA K "right_lines" s_0z)
  (h36:L2.FA K "back_lines" s_10)
  (h37:L2.FA K "work_of_day" s_11)
  (h38:L2.FA K "keep_book" s_12)
  (h39:L2.FA K "book_lines" s_13)
  (h40:L2.FA K "amount_of" s_14)
  (h41:L2.FA K "book_sums" s_15)
  (h42:L2.FA K "owed" s_16)
  (h43:L2.FA K "_law_mixed" s_17)
  (h44:L2.FA K "_law_draw" s_18)
  (h45:L2.FA K "_law_names" s_19)
  (h46:L2.FA K "_law_plans" s_1a)
  (h47:L2.FA K "_law_account" s_1b)
  (h48:L2.FA K "_law_reach" s_1c)
  (h49:L2.FA K "_law_change" s_1d)
  (h50:L2.FA K "_law_entries" s_1e)
  (h51:L2.FA K "_law_took" s_1f)
  (h52:L2.FA K "_law_costs_right" s_1g)
  (h53:L2.FA K "_law_kept" s_1h)
  (h54:L2.FA K "_law_folded" s_1i)
  (h55:L2.FA K "law" s_1j)
  (h56:L2.FM K C_Z07 "__init__" "Pots.__init__" s_1k)
  (h57:L2.FM K C_Z07 "grant" "Pots.grant" s_1l)
  (h58:L2.FM K C_Z07 "take" "Pots.take" s_1m)
  (h59:L2.FM K C_Z07 "give" "Pots.give" s_1n)
  (h60:L2.FM K C_Z07 "pay_back" "Pots.pay_back" s_1o)
  (h61:L2.FM K C_Z07 "took" "Pots.took" s_1p)
  (h62:L2.FM K C_Z07 "left" "Pots.left" s_1q)
  (g_Z0a:nsIn K mainGlobals "SpanError"=some (some (.ref C_Z0a)))
  (gc_Z0a:clsIn K C_Z0a=some cd_Z0a)
  (gt_Z0a:typeIn K (.ref C_Z0a)=some (.type "type"))
  (gm_Z0a:mroIn K C_Z0a (.ref C_Z0a)=some true)
  (g_Z05:nsIn K mainGlobals "NoDate"=some (some (.ref C_Z05)))
  (gc_Z05:clsIn K C_Z05=some cd_Z05)
  (gt_Z05:typeIn K (.ref C_Z05)=some (.type "type"))
  (gm_Z05:mroIn K C_Z05 (.ref C_Z05)=some true)
  (g_Z06:nsIn K mainGlobals "NoSpan"=some (some (.ref C_Z06)))
  (gc_Z06:clsIn K C_Z06=some cd_Z06)
  (gt_Z06:typeIn K (.ref C_Z06)=some (.type "type"))
  (gm_Z06:mroIn K C_Z06 (.ref C_Z06)=some true)
  (g_Z0c:nsIn K mainGlobals "TooLong"=some (some (.ref C_Z0c)))
  (gc_Z0c:clsIn K C_Z0c=some cd_Z0c)
  (gt_Z0c:typeIn K (.ref C_Z0c)=some (.type "type"))
  (gm_Z0c:mroIn K C_Z0c (.ref C_Z0c)=some true)
  (g_Z07:nsIn K mainGlobals "Pots"=some (some (.ref C_Z07)))
  (gc_Z07:clsIn K C_Z07=some cd_Z07)
  (gt_Z07:typeIn K (.ref C_Z07)=some (.type "type"))
  (gm_Z07:mroIn K C_Z07 (.ref C_Z07)=some true)
  (op_Pots:plainGet K C_Z07 Str.empty=true)
  (od_Z07:hasDictIn K C_Z07=true)
  (oo_Pots:plainOver K C_Z07=true)
  (os_Pots:findIn K (.ref C_Z07) "__setattr__"=some (some (.builtin "object.__setattr__")))
  (om_Pots:makesIn K C_Z07=true)
  (ok_Z07:keepIn K (.ref C_Z07)=true)
  (on_Pots_given:findIn K (.ref C_Z07) "given"=some none)
  (on_Pots_own:findIn K (.ref C_Z07) "own"=some none)
  (on_Pots_taken:findIn K (.ref C_Z07) "taken"=some none)
  (gx_Z05:excIn K C_Z05 [.type "ValueError", .type "Exception", .type "BaseException", .type "object"] "ValueError.__new__"=true)
  (gx_Z06:excIn K C_Z06 [.type "ValueError", .type "Exception", .type "BaseException", .type "object"] "ValueError.__new__"=true)
  (gx_Z0c:excIn K C_Z0c [.type "ValueError", .type "Exception", .type "BaseException", .type "object"] "ValueError.__new__"=true)
  (k_Z03:nsIn K mainGlobals "LAST_YEAR"=some (some (.int 9999 tk_Z03)))
  (k_Z02:nsIn K mainGlobals "LAST_DAY"=some (some (.int 3652058 tk_Z02)))
  (k_Z04:nsIn K mainGlobals "MONTH_DAYS"=some (some (.ref A_Z04)))
  (kl_Z04:K.lookup A_Z04=some ⟨.type "tuple",od_Z04, .seq its_Z04 n_Z04,sl_Z04⟩)
  (kz_Z04:its_Z04.size<=sizeLine)
  (kv_Z04:zw [.int 31, .int 28, .int 31, .int 30, .int 31, .int 30, .int 31, .int 31, .int 30, .int 31, .int 30, .int 31] its_Z04.toList)
  (k_Z08:nsIn K mainGlobals "ROUND_DAYS"=some (some (.int 146097 tk_Z08)))
  (k_Z01:nsIn K mainGlobals "HUNDRED_YEARS_DAYS"=some (some (.int 36524 tk_Z01)))
  (k_Z00:nsIn K mainGlobals "FOUR_YEARS_DAYS"=some (some (.int 1461 tk_Z00)))
  (k_Z0e:nsIn K mainGlobals "YEAR_DAYS"=some (some (.int 365 tk_Z0e)))
  (k_Z09:nsIn K mainGlobals "SPANS"=some (some (.int 60 tk_Z09)))
  (k_Z0d:nsIn K mainGlobals "WORDS"=some (some (.ref A_Z0d)))
  (kl_Z0d:K.lookup A_Z0d=some ⟨.type "dict",none, .dict es_Z0d n_Z0d, #[]⟩)
  (kv_Z0d:jd w es_Z0d.toList [(SL [104,111,108,100], .str (SL [104,101,108,100])),(SL [103,111], .str (SL [111,110])),(SL [115,116,111,112], .str (SL [111,102,102])),(SL [108,97,115,116], .str (SL [111,102,102]))])
  (k_Z0b:nsIn K mainGlobals "TERMS"=some (some (.ref A_Z0b)))
  (kl_Z0b:K.lookup A_Z0b=some ⟨.type "tuple",od_Z0b, .seq its_Z0b n_Z0b,sl_Z0b⟩)
  (kz_Z0b:its_Z0b.size<=sizeLine)
  (kv_Z0b:zw [.str (SL [112,108,97,110]), .str (SL [115,101,97,116,115]), .str (SL [104,111,108,100]), .str (SL [103,111]), .str (SL [115,116,111,112]), .str (SL [108,97,115,116])] its_Z0b.toList)
  (z_range:nsIn K mainGlobals "range"=some none)
  (z_divmod:nsIn K mainGlobals "divmod"=some none)
  (z_min:nsIn K mainGlobals "min"=some none)
  (z_sorted:nsIn K mainGlobals "sorted"=some none)
  (z_sum:nsIn K mainGlobals "sum"=some none)
  (z_enumerate:nsIn K mainGlobals "enumerate"=some none)
  (z_list:nsIn K mainGlobals "list"=some none)
  (z_set:nsIn K mainGlobals "set"=some none)
  (z_len:nsIn K mainGlobals "len"=some none)
  (z_int:nsIn K mainGlobals "int"=some none)
  (z_max:nsIn K mainGlobals "max"=some none)
  (xga_NoSpan:findIn K (.ref C_Z06) "__getattribute__"=some (some (.builtin "BaseException.__getattribute__")))
  (xgt_NoSpan:findIn K (.ref C_Z06) "__getattr__"=some none)
  (xcl_NoSpan:findIn K (.ref C_Z06) "__class__"=some (some (.builtin "object.__class__")))
  (xmo_NoSpan:mroIn K C_Z06 (.type "object")=some true)
  (xmb_NoSpan:mroIn K C_Z06 (.type "BaseException")=some true)
  (xga_TooLong:findIn K (.ref C_Z0c) "__getattribute__"=some (some (.builtin "BaseException.__getattribute__")))
  (xgt_TooLong:findIn K (.ref C_Z0c) "__getattr__"=some none)
  (xcl_TooLong:findIn K (.ref C_Z0c) "__class__"=some (some (.builtin "object.__class__")))
  (xmo_TooLong:mroIn K C_Z0c (.type "object")=some true)
  (xmb_TooLong:mroIn K C_Z0c (.type "BaseException")=some true)
  (m_NoSpan_SpanError:mroIn K C_Z06 (.ref C_Z0a)=some true)
  (m_NoSpan_NoDate:mroIn K C_Z06 (.ref C_Z05)=some false)
  (m_NoSpan_NoSpan:mroIn K C_Z06 (.ref C_Z06)=some true)
  (m_NoSpan_TooLong:mroIn K C_Z06 (.ref C_Z0c)=some false)
  (m_NoSpan_Pots:mroIn K C_Z06 (.ref C_Z07)=some false)
  (m_NoSpan_ValueError:mroIn K C_Z06 (.type "ValueError")=some true)
  (m_TooLong_SpanError:mroIn K C_Z0c (.ref C_Z0a)=some true)
  (m_TooLong_NoDate:mroIn K C_Z0c (.ref C_Z05)=some false)
  (m_TooLong_NoSpan:mroIn K C_Z0c (.ref C_Z06)=some false)
  (m_TooLong_TooLong:mroIn K C_Z0c (.ref C_Z0c)=some true)
  (m_TooLong_Pots:mroIn K C_Z0c (.ref C_Z07)=some false)
  (m_TooLong_ValueError:mroIn K C_Z0c (.type "ValueError")=some true)
  (m_SpanError_BaseException:mroIn K C_Z0a (.type "BaseException")=some true)
  : ∃t,Txt w K mg t:=
 ⟨{a_00:=h0.f,d_00:=h0.d,
   a_01:=h1.f,d_01:=h1.d,
   a_02:=h2.f,d_02:=h2.d,
   a_03:=h3.f,d_03:=h3.d,
   a_04:=h4.f,d_04:=h4.d,
   a_05:=h5.f,d_05:=h5.d,
   a_06:=h6.f,d_06:=h6.d,
   a_07:=h7.f,d_07:=h7.d,
   a_08:=h8.f,d_08:=h8.d,
   a_09:=h9.f,d_09:=h9.d,
   a_0a:=h10.f,d_0a:=h10.d,
   a_0b:=h11.f,d_0b:=h11.d,
   a_0c:=h12.f,d_0c:=h12.d,
   a_0d:=h13.f,d_0d:=h13.d,
   a_0e:=h14.f,d_0e:=h14.d,
   a_0f:=h15.f,d_0f:=h15.d,
   a_0g:=h16.f,d_0g:=h16.d,
   a_0h:=h17.f,d_0h:=h17.d,
   a_0i:=h18.f,d_0i:=h18.d,
   a_0j:=h19.f,d_0j:=h19.d,
   a_0k:=h20.f,d_0k:=h20.d,
   a_0l:=h21.f,d_0l:=h21.d,
   a_0m:=h22.f,d_0m:=h22.d,
   a_0n:=h23.f,d_0n:=h23.d,
   a_0o:=h24.f,d_0o:=h24.d,
   a_0p:=h25.f,d_0p:=h25.d,
   a_0q:=h26.f,d_0q:=h26.d,
   a_0r:=h27.f,d_0r:=h27.d,
   a_0s:=h28.f,d_0s:=h28.d,
   a_0t:=h29.f,d_0t:=h29.d,
   a_0u:=h30.f,d_0u:=h30.d,
   a_0v:=h31.f,d_0v:=h31.d,
   a_0w:=h32.f,d_0w:=h32.d,
   a_0x:=h33.f,d_0x:=h33.d,
   a_0y:=h34.f,d_0y:=h34.d,
   a_0z:=h35.f,d_0z:=h35.d,
   a_10:=h36.f,d_10:=h36.d,
   a_11:=h37.f,d_11:=h37.d,
   a_12:=h38.f,d_12:=h38.d,
   a_13:=h39.f,d_13:=h39.d,
   a_14:=h40.f,d_14:=h40.d,
   a_15:=h41.f,d_15:=h41.d,
   a_16:=h42.f,d_16:=h42.d,
   a_17:=h43.f,d_17:=h43.d,
   a_18:=h44.f,d_18:=h44.d,
   a_19:=h45.f,d_19:=h45.d,
   a_1a:=h46.f,d_1a:=h46.d,
   a_1b:=h47.f,d_1b:=h47.d,
   a_1c:=h48.f,d_1c:=h48.d,
   a_1d:=h49.f,d_1d:=h49.d,
   a_1e:=h50.f,d_1e:=h50.d,
   a_1f:=h51.f,d_1f:=h51.d,
   a_1g:=h52.f,d_1g:=h52.d,
   a_1h:=h53.f,d_1h:=h53.d,
   a_1i:=h54.f,d_1i:=h54.d,
   a_1j:=h55.f,d_1j:=h55.d,
   a_1k:=h56.f,d_1k:=h56.d,
   a_1l:=h57.f,d_1l:=h57.d,
   a_1m:=h58.f,d_1m:=h58.d,
   a_1n:=h59.f,d_1n:=h59.d,
   a_1o:=h60.f,d_1o:=h60.d,
   a_1p:=h61.f,d_1p:=h61.d,
   a_1q:=h62.f,d_1q:=h62.d,
   c_Z0a:=C_Z0a,
   c_Z05:=C_Z05,
   c_Z06:=C_Z06,
   c_Z0c:=C_Z0c,
   c_Z07:=C_Z07},
  {F_00:=h0.df X G (h0.fn.binds λ_ _ _ _ _ _=>qv λ_=>rfl),
   F_01:=h1.df X G (h1.fn.binds λ_ _ _ _ _ _=>qE λ_ _=>rfl),
   F_02:=h2.df X G (h2.fn.binds λ_ _ _ _ _ _=>qv λ_=>rfl),
   F_03:=h3.df X G (h3.fn.binds λ_ _ _ _ _ _=>y9 λ_ _ _=>rfl),
   F_04:=h4.df X G (h4.fn.binds λ_ _ _ _ _ _=>qv λ_=>rfl),
   F_05:=h5.df X G (h5.fn.binds λ_ _ _ _ _ _=>qv λ_=>rfl),
   F_06:=h6.df X G (h6.fn.binds λ_ _ _ _ _ _=>qE λ_ _=>rfl),
   F_07:=h7.df X G (h7.fn.binds λ_ _ _ _ _ _=>y9 λ_ _ _=>rfl),
   F_08:=h8.df X G (h8.fn.binds λ_ _ _ _ _ _=>y9 λ_ _ _=>rfl),
   F_09:=h9.df X G (h9.fn.binds λ_ _ _ _ _ _=>qv λ_=>rfl),
   F_0a:=h10.df X G (h10.fn.binds λ_ _ _ _ _ _=>qE λ_ _=>rfl),
   F_0b:=h11.df X G (h11.fn.binds λ_ _ _ _ _ _=>qE λ_ _=>rfl),
   F_0c:=h12.df X G (h12.fn.binds λ_ _ _ _ _ _=>vU λ_ _ _ _=>rfl),
   F_0d:=h13.df X G (h13.fn.binds λ_ _ _ _ _ _=>qE λ_ _=>rfl),
   F_0e:=h14.df X G (h14.fn.binds λ_ _ _ _ _ _=>qE λ_ _=>rfl),
   F_0f:=h15.df X G (h15.fn.binds λ_ _ _ _ _ _=>qE λ_ _=>rfl),
   F_0g:=h16.df X G (h16.fn.binds λ_ _ _ _ _ _=>y9 λ_ _ _=>rfl),
   F_0h:=h17.df X G (h17.fn.binds λ_ _ _ _ _ _=>y9 λ_ _ _=>rfl),
   F_0i:=h18.df X G (h18.fn.binds λ_ _ _ _ _ _=>qE λ_ _=>rfl),
   F_0j:=h19.df X G (h19.fn.binds λ_ _ _ _ _ _=>y9 λ_ _ _=>rfl),
   F_0k:=h20.df X G (h20.fn.binds λ_ _ _ _ _ _=>y9 λ_ _ _=>rfl),
   F_0l:=h21.df X G (h21.fn.binds λ_ _ _ _ _ _=>vU λ_ _ _ _=>rfl),
   F_0m:=h22.df X G (h22.fn.binds λ_ _ _ _ _ _=>qv λ_=>rfl),
   F_0n:=h23.df X G (h23.fn.binds λ_ _ _ _ _ _=>y9 λ_ _ _=>rfl),
   F_0o:=h24.df X G (h24.fn.binds λ_ _ _ _ _ _=>y9 λ_ _ _=>rfl),
   F_0p:=h25.df X G (h25.fn.binds λ_ _ _ _ _ _=>y9 λ_ _ _=>rfl),
   F_0q:=h26.df X G (h26.fn.binds λ_ _ _ _ _ _=>qv λ_=>rfl),
   F_0r:=h27.df X G (h27.fn.binds λ_ _ _ _ _ _=>qv λ_=>rfl),
   F_0s:=h28.df X G (h28.fn.binds λ_ _ _ _ _ _=>qE λ_ _=>rfl),
   F_0t:=h29.df X G (h29.fn.binds λ_ _ _ _ _ _=>vU λ_ _ _ _=>rfl),
   F_0u:=h30.df X G (h30.fn.binds λ_ _ _ _ _ _=>qv λ_=>rfl),
   F_0v:=h31.df X G (h31.fn.binds λ_ _ _ _ _ _=>y9 λ_ _ _=>rfl),
   F_0w:=h32.df X G (h32.fn.binds λ_ _ _ _ _ _=>y9 λ_ _ _=>rfl),
   F_0x:=h33.df X G (h33.fn.binds λ_ _ _ _ _ _=>vU λ_ _ _ _=>rfl),
   F_0y:=h34.df X G (h34.fn.binds λ_ _ _ _ _ _=>zrC λ_ _ _ _ _=>rfl),
   F_0z:=h35.df X G (h35.fn.binds λ_ _ _ _ _ _=>y9 λ_ _ _=>rfl),
   F_10:=h36.df X G (h36.fn.binds λ_ _ _ _ _ _=>y9 λ_ _ _=>rfl),
   F_11:=h37.df X G (h37.fn.binds λ_ _ _ _ _ _=>vU λ_ _ _ _=>rfl),
   F_12:=h38.df X G (h38.fn.binds λ_ _ _ _ _ _=>y9 λ_ _ _=>rfl),
   F_13:=h39.df X G (h39.fn.binds λ_ _ _ _ _ _=>y9 λ_ _ _=>rfl),
   F_14:=h40.df X G (h40.fn.binds λ_ _ _ _ _ _=>qE λ_ _=>rfl),
   F_15:=h41.df X G (h41.fn.binds λ_ _ _ _ _ _=>y9 λ_ _ _=>rfl),
   F_16:=h42.df X G (h42.fn.binds λ_ _ _ _ _ _=>y9 λ_ _ _=>rfl),
   F_17:=h43.df X G (h43.fn.binds λ_ _ _ _ _ _=>qE λ_ _=>rfl),
   F_18:=h44.df X G (h44.fn.binds λ_ _ _ _ _ _=>qE λ_ _=>rfl),
   F_19:=h45.df X G (h45.fn.binds λ_ _ _ _ _ _=>qv λ_=>rfl),
   F_1a:=h46.df X G (h46.fn.binds λ_ _ _ _ _ _=>qE λ_ _=>rfl),
   F_1b:=h47.df X G (h47.fn.binds λ_ _ _ _ _ _=>qv λ_=>rfl),
   F_1c:=h48.df X G (h48.fn.binds λ_ _ _ _ _ _=>qE λ_ _=>rfl),
   F_1d:=h49.df X G (h49.fn.binds λ_ _ _ _ _ _=>zrW λ_ _ _ _ _ _=>rfl),
   F_1e:=h50.df X G (h50.fn.binds λ_ _ _ _ _ _=>zrC λ_ _ _ _ _=>rfl),
   F_1f:=h51.df X G (h51.fn.binds λ_ _ _ _ _ _=>qv λ_=>rfl),
   F_1g:=h52.df X G (h52.fn.binds λ_ _ _ _ _ _=>y9 λ_ _ _=>rfl),
   F_1h:=h53.df X G (h53.fn.binds λ_ _ _ _ _ _=>vU λ_ _ _ _=>rfl),
   F_1i:=h54.df X G (h54.fn.binds λ_ _ _ _ _ _=>qv λ_=>rfl),
   F_1j:=h55.df X G (h55.fn.binds λ_ _ _ _ _ _=>qv λ_=>rfl),
   me_1k:=h56.me,
   fn_1k:=h56.fn,
   b_1k:=h56.fn.binds λ_ _ _ _ _ _=>qv λ_=>rfl,
   me_1l:=h57.me,
   fn_1l:=h57.fn,
   b_1l:=h57.fn.binds λ_ _ _ _ _ _=>qE λ_ _=>rfl,
   me_1m:=h58.me,
   fn_1m:=h58.fn,
   b_1m:=h58.fn.binds λ_ _ _ _ _ _=>y9 λ_ _ _=>rfl,
   me_1n:=h59.me,
   fn_1n:=h59.fn,
   b_1n:=h59.fn.binds λ_ _ _ _ _ _=>y9 λ_ _ _=>rfl,
   me_1o:=h60.me,
   fn_1o:=h60.fn,
   b_1o:=h60.fn.binds λ_ _ _ _ _ _=>qv λ_=>rfl,
   me_1p:=h61.me,
   fn_1p:=h61.fn,
   b_1p:=h61.fn.binds λ_ _ _ _ _ _=>qE λ_ _=>rfl,
   me_1q:=h62.me,
   fn_1q:=h62.fn,
   b_1q:=h62.fn.binds λ_ _ _ _ _ _=>qv λ_=>rfl,
   mg_Z0a:=mg_of X G g_Z0a,
   cl_Z0a:=⟨by rw[gc_Z0a];rfl,gt_Z0a,gm_Z0a⟩,
   mg_Z05:=mg_of X G g_Z05,
   cl_Z05:=⟨by rw[gc_Z05];rfl,gt_Z05,gm_Z05⟩,
   mg_Z06:=mg_of X G g_Z06,
   cl_Z06:=⟨by rw[gc_Z06];rfl,gt_Z06,gm_Z06⟩,
   mg_Z0c:=mg_of X G g_Z0c,
   cl_Z0c:=⟨by rw[gc_Z0c];rfl,gt_Z0c,gm_Z0c⟩,
   mg_Z07:=mg_of X G g_Z07,
   cl_Z07:=⟨by rw[gc_Z07];rfl,gt_Z07,gm_Z07⟩,
   cs_Z07:=⟨op_Pots,od_Z07,oo_Pots,os_Pots⟩,
   mk_Z07:=⟨om_Pots,h56.me.at_,h56.me.fn,ok_Z07⟩,
   na_Pots_given:=on_Pots_given,
   na_Pots_own:=on_Pots_own,
   na_Pots_taken:=on_Pots_taken,
   ex_Z05:=⟨_,_,_,PySem.F.excBase_ValueError,gx_Z05⟩,
   ex_Z06:=⟨_,_,_,PySem.F.excBase_ValueError,gx_Z06⟩,
   ex_Z0c:=⟨_,_,_,PySem.F.excBase_ValueError,gx_Z0c⟩,
   k_Z03:=⟨_,mg_of X G k_Z03,⟨_,rfl⟩⟩,
   k_Z02:=⟨_,mg_of X G k_Z02,⟨_,rfl⟩⟩,
   k_Z04:=⟨A_Z04,mg_of X G k_Z04,λH=> .inr ⟨_,its_Z04,n_Z04,kl_Z04,rfl,rfl,kz_Z04,kv_Z04⟩⟩,
   k_Z08:=⟨_,mg_of X G k_Z08,⟨_,rfl⟩⟩,
   k_Z01:=⟨_,mg_of X G k_Z01,⟨_,rfl⟩⟩,
   k_Z00:=⟨_,mg_of X G k_Z00,⟨_,rfl⟩⟩,
   k_Z0e:=⟨_,mg_of X G k_Z0e,⟨_,rfl⟩⟩,
   k_Z09:=⟨_,mg_of X G k_Z09,⟨_,rfl⟩⟩,
   k_Z0d:=⟨A_Z0d,es_Z0d,n_Z0d,mg_of X G k_Z0d,kl_Z0d,kv_Z0d,'d'⟩,
   k_Z0b:=⟨A_Z0b,mg_of X G k_Z0b,λH=> .inr ⟨_,its_Z0b,n_Z0b,kl_Z0b,rfl,rfl,kz_Z0b,kv_Z0b⟩⟩,
   no_range:=mg_none_of X G z_range,
   no_divmod:=mg_none_of X G z_divmod,
   no_min:=mg_none_of X G z_min,
   no_sorted:=mg_none_of X G z_sorted,
   no_sum:=mg_none_of X G z_sum,
   no_enumerate:=mg_none_of X G z_enumerate,
   no_list:=mg_none_of X G z_list,
   no_set:=mg_none_of X G z_set,
   no_len:=mg_none_of X G z_len,
   no_int:=mg_none_of X G z_int,
   no_max:=mg_none_of X G z_max,
   xc_NoSpan:=⟨by rw[gc_Z06];rfl,xga_NoSpan,xgt_NoSpan,xcl_NoSpan,xmo_NoSpan,xmb_NoSpan⟩,
   xc_TooLong:=⟨by rw[gc_Z0c];rfl,xga_TooLong,xgt_TooLong,xcl_TooLong,xmo_TooLong,xmb_TooLong⟩,
   m_NoSpan_SpanError:=m_NoSpan_SpanError,
   m_NoSpan_NoDate:=m_NoSpan_NoDate,
   m_NoSpan_NoSpan:=m_NoSpan_NoSpan,
   m_NoSpan_TooLong:=m_NoSpan_TooLong,
   m_NoSpan_Pots:=m_NoSpan_Pots,
   m_NoSpan_ValueError:=m_NoSpan_ValueError,
   m_TooLong_SpanError:=m_TooLong_SpanError,
   m_TooLong_NoDate:=m_TooLong_NoDate,
   m_TooLong_NoSpan:=m_TooLong_NoSpan,
   m_TooLong_TooLong:=m_TooLong_TooLong,
   m_TooLong_Pots:=m_TooLong_Pots,
   m_TooLong_ValueError:=m_TooLong_ValueError,
   m_SpanError_BaseException:=m_SpanError_BaseException}⟩
theorem bind_law{w:World}{mg:Str->Option Value}{t:Adr}(T:Txt w K mg t): ∀(s:Shared) (u:Value),BindsTo s t.d_1j ⟨[u], []⟩ [("_law_script",u)]:=by
 obtain⟨oc,od,kV,doc,pm,an,cdv,ct,osl,e,lk,hcd⟩:=T.F_1j.fn.ex;intro s u;rw[e];exact .of_eq rfl
theorem walk{l:PySem.W.OpenLaw}{q:Program}{loose:List Str}{XP:(Str->Option Value)->Heap->Prop}{YP:World->Heap->Prop}{d:DefRec}{K:Params->Fg}(hn:l.most=some 63)(hdf:d.params.defaults= [])
  (hY: ∀(w:World) (h:Heap),YP w h->(K w.params).In h)
  (F: ∀(w:World) (mg:Str->Option Value) (fa:Addr) (h:Heap),(K w.params).In h->h.Ns mainGlobals mg->mg d.name=some (.ref fa)->
   ∃fd:FuncData,(∀(s:Shared) (u:Value),BindsTo s fd ⟨[u], []⟩ [("_law_script",u)])/\ ∀base:Heap,(K w.params).In base->base.Ns mainGlobals mg->FnOk l.prog w (K w.params) mg base (CXE l.prog w) 30 fa fd ["_law_script"] (znl (K w.params))):
  PySem.W.WalkO q loose XP YP l.row.toRowW d [] (λf vs=>PySem.call f vs):=
 L2.walk_of (n:=63) (k:=30) (x:="_law_script") (CX:=λw=>CXE l.prog w) (sp:=λw=>znl (K w.params)) hn 'd' hdf ⟨rfl,'d','d'⟩ hY F (λ_ _ a ns hl _ hS=>⟨a,ns,rfl,hS,hl,λ_=>rfl⟩) λ_ _ _ _ _ ⟨_,_,_,_,_,z⟩=>z
end K90
namespace PySem.W.Fast
theorem tw1634849341373099201:True:=⟨⟩
theorem tw5772819566762536242:True:=⟨⟩
theorem tw16336724544985745369:True:=⟨⟩
theorem tw16437392165785586295:True:=⟨⟩
theorem tw11452286377626943843:True:=⟨⟩
theorem tw7959112686316409815:True:=⟨⟩
theorem tw9711576511559281314:True:=⟨⟩
theorem tw10454180349159734817:True:=⟨⟩
theorem tw17794812618660628921:True:=⟨⟩
theorem tw2537464024687413336:True:=⟨⟩
theorem tw11222353057213393508:True:=⟨⟩
theorem tw10743365370751392620:True:=⟨⟩
theorem tw14138257700243548175:True:=⟨⟩
theorem tw16164504190960747351:True:=⟨⟩
theorem tw11642771848881490749:True:=⟨⟩
theorem tw10783082944486325122:True:=⟨⟩
theorem tw17485963003826596390:True:=⟨⟩
theorem tw6137297779343638570:True:=⟨⟩
theorem tw8072157791093438371:True:=⟨⟩
theorem tw9037110573161196995:True:=⟨⟩
theorem tw14186959618829228133:True:=⟨⟩
theorem tw5029583183691612738:True:=⟨⟩
theorem tw7649846180608085298:True:=⟨⟩
theorem tw15986299218041085866:True:=⟨⟩
theorem tw14718197320224091261:True:=⟨⟩
theorem tw7549819121172843456:True:=⟨⟩
theorem tw3652308418534542013:True:=⟨⟩
theorem tw6015658185953142169:True:=⟨⟩
theorem tw5963461931400088627:True:=⟨⟩
theorem tw4899362444456176959:True:=⟨⟩
theorem tw7413349978492176405:True:=⟨⟩
theorem tw901738537952762055:True:=⟨⟩
theorem tw5910870980936600879:True:=⟨⟩
theorem tw7740444478224577649:True:=⟨⟩
theorem tw11067856024250971984:True:=⟨⟩
theorem tw11068524518841204076:True:=⟨⟩
theorem tw9005612826689879127:True:=⟨⟩
theorem tw9052744945041244668:True:=⟨⟩
theorem tw1173943555429216623:True:=⟨⟩
theorem tw5901862879273795930:True:=⟨⟩
theorem tw7341684055991085601:True:=⟨⟩
theorem tw3968514334320990579:True:=⟨⟩
theorem tw14546471244189571303:True:=⟨⟩
theorem tw16575709498018043650:True:=⟨⟩
theorem tw10663153436152525097:True:=⟨⟩
theorem tw9501076847954247012:True:=⟨⟩
theorem tw14066677065444395675:True:=⟨⟩
theorem tw10264449210775694889:True:=⟨⟩
theorem tw14413568445362371609:True:=⟨⟩
theorem tw14531294339735459271:True:=⟨⟩
theorem tw868364720446823665:True:=⟨⟩
theorem tw12441085037999517343:True:=⟨⟩
theorem tw14245847869858028589:True:=⟨⟩
theorem tw10529368121702354955:True:=⟨⟩
theorem tw16016360337263583303:True:=⟨⟩
theorem tw7352382186299016963:True:=⟨⟩
theorem tw11859488211013469761:True:=⟨⟩
theorem tw2431706994461721268:True:=⟨⟩
theorem tw18150886926787432028:True:=⟨⟩
theorem tw5310681734029772005:True:=⟨⟩
theorem tw7689759524869697560:True:=⟨⟩
theorem tw11264387111346301476:True:=⟨⟩
theorem tw13237620771350810406:True:=⟨⟩
theorem tw16535103063477457386:True:=⟨⟩
theorem tw15562823524436991:True:=⟨⟩
theorem tw15350237805050774645:True:=⟨⟩
theorem tw18228885903868089706:True:=⟨⟩
theorem tw1424615656139211697:True:=⟨⟩
theorem tw2330698902312703589:True:=⟨⟩
theorem tw13347262348387297471:True:=⟨⟩
theorem tw6484995076442059374:True:=⟨⟩
theorem tw5652130203216639361:True:=⟨⟩
theorem tw7489659992506648990:True:=⟨⟩
theorem tw6900503435343102348:True:=⟨⟩
theorem tw10316405303461040172:True:=⟨⟩
theorem tw8617376763856941477:True:=⟨⟩
theorem tw17572358702190180617:True:=⟨⟩
theorem tw4695906851640451547:True:=⟨⟩
theorem tw2202181282627036438:True:=⟨⟩
theorem tw16136225572141574544:True:=⟨⟩
theorem tw16312046000263563960:True:=⟨⟩
theorem tw11327491847095487998:True:=⟨⟩
theorem tw1709386512022949727:True:=⟨⟩
theorem tw7064169740396230016:True:=⟨⟩
theorem tw18312673050543606896:True:=⟨⟩
theorem tw3298433357867251564:True:=⟨⟩
theorem tw17127279991959940892:True:=⟨⟩
theorem tw10727966157325489252:True:=⟨⟩
theorem tw359984737395494519:True:=⟨⟩
theorem tw12415530589846985595:True:=⟨⟩
theorem tw3011767936174674214:True:=⟨⟩
theorem tw6877517765255713470:True:=⟨⟩
theorem tw14023440489991117351:True:=⟨⟩
theorem tw1482752782709212103:True:=⟨⟩
theorem tw7744336615637574127:True:=⟨⟩
theorem tw4210431540237434481:True:=⟨⟩
theorem tw11892492936817631502:True:=⟨⟩
theorem tw10551402722639865933:True:=⟨⟩
theorem tw6986319624407811713:True:=⟨⟩
theorem tw6457524785637076199:True:=⟨⟩
theorem tw15506769432399469385:True:=⟨⟩
theorem tw10008569124135454481:True:=⟨⟩
theorem tw16191820871029129929:True:=⟨⟩
theorem tw16236335846639064921:True:=⟨⟩
theorem tw4813773928726315843:True:=⟨⟩
theorem tw17089739583414089008:True:=⟨⟩
theorem tw7386306521683916661:True:=⟨⟩
theorem tw6349227143847208920:True:=⟨⟩
theorem tw4264593335689247271:True:=⟨⟩
theorem tw16303515460966536767:True:=⟨⟩
theorem tw14745481992338539782:True:=⟨⟩
theorem tw10314599493220371457:True:=⟨⟩
theorem tw9343303373551184222:True:=⟨⟩
theorem tw4241467678919318286:True:=⟨⟩
theorem tw16226516162471445374:True:=⟨⟩
theorem tw4490372145761180267:True:=⟨⟩
theorem tw14338492254701375038:True:=⟨⟩
theorem tw15623422791583494626:True:=⟨⟩
theorem tw6320845006484624349:True:=⟨⟩
theorem tw4263692859704489498:True:=⟨⟩
theorem tw9240730797508032189:True:=⟨⟩
theorem tw716417087495353212:True:=⟨⟩
theorem tw16999600306617424681:True:=⟨⟩
theorem tw2079457396162838900:True:=⟨⟩
theorem tw2320995969782567936:True:=⟨⟩
theorem tw2507024448923170120:True:=⟨⟩
theorem tw1675166272501328214:True:=⟨⟩
theorem tw2659785792283462798:True:=⟨⟩
theorem tw9272207457424940981:True:=⟨⟩
theorem tw11287868008719080258:True:=⟨⟩
theorem tw5300463532550171341:True:=⟨⟩
theorem tw4716517087522323532:True:=⟨⟩
theorem tw16667409041088721627:True:=⟨⟩
theorem tw16257639708678386715:True:=⟨⟩
theorem tw13634951500503654743:True:=⟨⟩
theorem tw11389047945866922363:True:=⟨⟩
theorem tw17242520496960412169:True:=⟨⟩
theorem tw6214548948617484196:True:=⟨⟩
theorem tw14073160987215391931:True:=⟨⟩
theorem tw14574428432978407777:True:=⟨⟩
theorem tw9171002238592992382:True:=⟨⟩
theorem tw14634157080761920578:True:=⟨⟩
theorem tw16732491404366905628:True:=⟨⟩
theorem tw14212939379820802717:True:=⟨⟩
theorem tw6261523437743171602:True:=⟨⟩
theorem tw10660025722226726926:True:=⟨⟩
theorem tw6139761184519020064:True:=⟨⟩
theorem tw16482235481291203495:True:=⟨⟩
theorem tw18201150809458203686:True:=⟨⟩
theorem tw1172126861857559498:True:=⟨⟩
theorem tw11233740998332737748:True:=⟨⟩
theorem tw1045759638729900549:True:=⟨⟩
theorem tw14899181026414502607:True:=⟨⟩
theorem tw11860665704759744615:True:=⟨⟩
theorem tw17518748820337973111:True:=⟨⟩
theorem tw12772637480837306616:True:=⟨⟩
theorem tw7236696197581074979:True:=⟨⟩
theorem tw4365156637958342438:True:=⟨⟩
theorem tw1183904989483363561:True:=⟨⟩
theorem tw11933919049519455351:True:=⟨⟩
theorem tw10869501514120629527:True:=⟨⟩
theorem tw2301690893340697980:True:=⟨⟩
theorem tw6915868023893991003:True:=⟨⟩
theorem tw3299791581098745786:True:=⟨⟩
theorem tw8997532312844052687:True:=⟨⟩
theorem tw9126358923578900976:True:=⟨⟩
theorem tw14765234295380342266:True:=⟨⟩
theorem tw1435771450629662905:True:=⟨⟩
theorem tw5261006805751409792:True:=⟨⟩
theorem tw15328568702445505011:True:=⟨⟩
theorem tw8667234642015446393:True:=⟨⟩
theorem tw16686012982822539995:True:=⟨⟩
theorem tw10849798660513759628:True:=⟨⟩
theorem tw5771771882339894558:True:=⟨⟩
theorem tw17014266740747474770:True:=⟨⟩
theorem tw15359773913157575324:True:=⟨⟩
theorem tw16745628115592150063:True:=⟨⟩
theorem tw15763699393527337835:True:=⟨⟩
theorem tw3067305175632114434:True:=⟨⟩
theorem tw2013318828279341450:True:=⟨⟩
theorem tw12870488454882536976:True:=⟨⟩
theorem tw231987175966059963:True:=⟨⟩
theorem tw15239385627285809954:True:=⟨⟩
theorem tw11426958078465730799:True:=⟨⟩
theorem tw870732865647366885:True:=⟨⟩
theorem tw5252103407664434884:True:=⟨⟩
theorem tw2354938324091669533:True:=⟨⟩
theorem tw15053062518448056997:True:=⟨⟩
theorem tw6438956183508925417:True:=⟨⟩
theorem tw7602761399264088482:True:=⟨⟩
theorem tw9874311553940332038:True:=⟨⟩
theorem tw3555673199320576959:True:=⟨⟩
theorem tw1913416179483295583:True:=⟨⟩
theorem tw13183682269710573591:True:=⟨⟩
theorem tw277470278204142678:True:=⟨⟩
theorem tw17942076324597174427:True:=⟨⟩
theorem tw17922083509810354716:True:=⟨⟩
theorem tw13119174661911154402:True:=⟨⟩
theorem tw8515335224955938180:True:=⟨⟩
theorem tw10270209623877321452:True:=⟨⟩
theorem tw9148432377060369795:True:=⟨⟩
theorem tw9506007260817432158:True:=⟨⟩
theorem tw9463095461891797425:True:=⟨⟩
theorem tw834081638146757413:True:=⟨⟩
theorem tw8865031772335009217:True:=⟨⟩
theorem tw14167745815928562945:True:=⟨⟩
theorem tw2864737783395788632:True:=⟨⟩
theorem tw9399167851904346104:True:=⟨⟩
theorem tw695636565839722264:True:=⟨⟩
theorem tw126140839062072556:True:=⟨⟩
theorem tw9709232515043864704:True:=⟨⟩
theorem tw2304467978704212629:True:=⟨⟩
theorem tw998665852309538619:True:=⟨⟩
theorem tw7290020432223350426:True:=⟨⟩
theorem tw5501897775191628824:True:=⟨⟩
theorem tw4613018805613844261:True:=⟨⟩
theorem tw11532305167246689334:True:=⟨⟩
theorem tw4003350866398556260:True:=⟨⟩
theorem tw6779924102597366544:True:=⟨⟩
theorem tw8269380045170533233:True:=⟨⟩
theorem tw8955459643601414251:True:=⟨⟩
theorem tw3136272403111895559:True:=⟨⟩
theorem tw4645799840849775257:True:=⟨⟩
theorem tw14878033701443515925:True:=⟨⟩
theorem tw1553883903641068826:True:=⟨⟩
theorem tw4857422415267985250:True:=⟨⟩
theorem tw6381610183365824989:True:=⟨⟩
theorem tw11851125987614365330:True:=⟨⟩
theorem tw9281680750174660877:True:=⟨⟩
theorem tw11181074821110474655:True:=⟨⟩
theorem tw10233789606677217528:True:=⟨⟩
theorem tw15807381312439344959:True:=⟨⟩
theorem tw8070245019213822296:True:=⟨⟩
theorem tw5403527005728516335:True:=⟨⟩
theorem tw15694877560562557247:True:=⟨⟩
theorem tw1293365181600335418:True:=⟨⟩
theorem tw2346493788899215506:True:=⟨⟩
theorem tw18335738268730477932:True:=⟨⟩
theorem tw587060508810278938:True:=⟨⟩
theorem tw4100165858172600618:True:=⟨⟩
theorem tw17252329661872368667:True:=⟨⟩
theorem tw1790758567051175630:True:=⟨⟩
theorem tw17445101038124605598:True:=⟨⟩
theorem tw17020963791454404623:True:=⟨⟩
theorem tw14550351739265946514:True:=⟨⟩
theorem tw2081493591096180751:True:=⟨⟩
theorem tw10679799850754877077:True:=⟨⟩
theorem tw15179205267614438465:True:=⟨⟩
theorem tw9087408719382585167:True:=⟨⟩
theorem tw5371273264110507565:True:=⟨⟩
theorem tw17838037445216796539:True:=⟨⟩
theorem tw4167609437912431329:True:=⟨⟩
theorem tw558689767167634771:True:=⟨⟩
theorem tw16892658431270601800:True:=⟨⟩
theorem tw464737999749591137:True:=⟨⟩
theorem tw7935728673005923415:True:=⟨⟩
theorem tw7517287345798560281:True:=⟨⟩
theorem tw17817328507045779311:True:=⟨⟩
theorem tw3615506269966430952:True:=⟨⟩
theorem tw14082728378633689244:True:=⟨⟩
theorem tw8068614704824764862:True:=⟨⟩
theorem tw171433508475454808:True:=⟨⟩
theorem tw4682448118364079218:True:=⟨⟩
theorem tw1244679105597667588:True:=⟨⟩
theorem tw14946486623071255685:True:=⟨⟩
theorem tw10569868229006103906:True:=⟨⟩
theorem tw18329613697262738851:True:=⟨⟩
theorem tw17990839180068986856:True:=⟨⟩
theorem tw11321720752373289537:True:=⟨⟩
theorem tw15635200499062162786:True:=⟨⟩
theorem tw10790222973617571435:True:=⟨⟩
theorem tw13592005810261004942:True:=⟨⟩
theorem tw16536518200734862207:True:=⟨⟩
theorem tw15863203207965889168:True:=⟨⟩
theorem tw10747878058644850632:True:=⟨⟩
theorem tw6113583844577670938:True:=⟨⟩
theorem tw10028652105101127899:True:=⟨⟩
theorem tw7203321528565103549:True:=⟨⟩
theorem tw360599416557647287:True:=⟨⟩
theorem tw5451356647529228672:True:=⟨⟩
theorem tw4656336085116204772:True:=⟨⟩
theorem tw9550602071505376964:True:=⟨⟩
theorem tw12589438253495897567:True:=⟨⟩
theorem tw874384801975638492:True:=⟨⟩
theorem tw7584284500589625566:True:=⟨⟩
theorem tw13497881319654428240:True:=⟨⟩
theorem tw15200443563355436533:True:=⟨⟩
theorem tw10635119452093625266:True:=⟨⟩
theorem tw10054929580865057122:True:=⟨⟩
theorem tw7985458661756754945:True:=⟨⟩
theorem tw1814611408475863705:True:=⟨⟩
theorem tw17652297699909922130:True:=⟨⟩
theorem tw5610038673976236198:True:=⟨⟩
theorem tw4425144485837112204:True:=⟨⟩
theorem tw5683324638698636789:True:=⟨⟩
theorem tw16389888880806684287:True:=⟨⟩
theorem tw2518089047761981953:True:=⟨⟩
theorem tw1779867399225875849:True:=⟨⟩
set_option maxRecDepth 100000 in
def tw12168811764416536602:PySem.Program:=PySem.Challenge.pw_paidspan_k90_whole_money_is_kept
set_option maxRecDepth 100000 in
theorem te12168811764416536602:PySem.Challenge.pw_paidspan_k90_whole_money_is_kept=tw12168811764416536602:=rfl
end PySem.W.Fast
open PySem PySem.W PyProof.Rows
set_option maxRecDepth 100000 in
set_option maxHeartbeats 0 in
theorem PySem.Challenge.cw_paidspan_k90_whole_money_is_kept_holds : PySem.Challenge.rw_paidspan_k90_whole_money_is_kept.Holds := by
 w_on;o_law;k_head;(case hw=>w_witness2)
 k_fill
 refine K90.walk (l:=PySem.Challenge.rw_paidspan_k90_whole_money_is_kept) rfl rfl (λw h Y=>PySem.W.kIn_of Y) ?F
 case F=>
  intro w mg fa h KX G hmg
  have T: ∃t,K90.Txt w (L2.KOf KX) mg t:=by
   dsimp only[L2.KOf]
   refine' K90.txt_mk KX G ?h0 ?h1 ?h2 ?h3 ?h4 ?h5 ?h6 ?h7 ?h8 ?h9 ?h10 ?h11 ?h12 ?h13 ?h14 ?h15 ?h16 ?h17 ?h18 ?h19 ?h20 ?h21 ?h22 ?h23 ?h24 ?h25 ?h26 ?h27 ?h28 ?h29 ?h30 ?h31 ?h32 ?h33 ?h34 ?h35 ?h36 ?h37 ?h38 ?h39 ?h40 ?h41 ?h42 ?h43 ?h44 ?h45 ?h46 ?h47 ?h48 ?h49 ?h50 ?h51 ?h52 ?h53 ?h54 ?h55 ?h56 ?h57 ?h58 ?h59 ?h60 ?h61 ?h62 ?g_Z0a ?gc_Z0a ?gt_Z0a ?gm_Z0a ?g_Z05 ?gc_Z05 ?gt_Z05 ?gm_Z05 ?g_Z06 ?gc_Z06 ?gt_Z06 ?gm_Z06 ?g_Z0c ?gc_Z0c ?gt_Z0c ?gm_Z0c ?g_Z07 ?gc_Z07 ?gt_Z07 ?gm_Z07 ?op_Pots ?od_Z07 ?oo_Pots ?os_Pots ?om_Pots ?ok_Z07 ?on_Pots_given ?on_Pots_own ?on_Pots_taken ?gx_Z05 ?gx_Z06 ?gx_Z0c ?k_Z03 ?k_Z02 ?k_Z04 ?kl_Z04 ?kz_Z04 ?kv_Z04 ?k_Z08 ?k_Z01 ?k_Z00 ?k_Z0e ?k_Z09 ?k_Z0d ?kl_Z0d ?kv_Z0d ?k_Z0b ?kl_Z0b ?kz_Z0b ?kv_Z0b ?z_range ?z_divmod ?z_min ?z_sorted ?z_sum ?z_enumerate ?z_list ?z_set ?z_len ?z_int ?z_max ?xga_NoSpan ?xgt_NoSpan ?xcl_NoSpan ?xmo_NoSpan ?xmb_NoSpan ?xga_TooLong ?xgt_TooLong ?xcl_TooLong ?xmo_TooLong ?xmb_TooLong ?m_NoSpan_SpanError ?m_NoSpan_NoDate ?m_NoSpan_NoSpan ?m_NoSpan_TooLong ?m_NoSpan_Pots ?m_NoSpan_ValueError ?m_TooLong_SpanError ?m_TooLong_NoDate ?m_TooLong_NoSpan ?m_TooLong_TooLong ?m_TooLong_Pots ?m_TooLong_ValueError ?m_SpanError_BaseException
   (case g_Z0a|g_Z05|g_Z06|g_Z0c|g_Z07=>k_is)
   (case h0|h1|h2|h3|h4|h5|h6|h7=>(refine' L2.FA.mk ?a ?l ?c ?k;(case a|l|c|k=>k_is)))
   (case h8|h9|h10|h11|h12|h13|h14|h15=>(refine' L2.FA.mk ?a ?l ?c ?k;(case a|l|c|k=>k_is)))
   (case h16|h17|h18|h19|h20|h21|h22|h23=>(refine' L2.FA.mk ?a ?l ?c ?k;(case a|l|c|k=>k_is)))
   (case h24|h25|h26|h27|h28|h29|h30|h31=>(refine' L2.FA.mk ?a ?l ?c ?k;(case a|l|c|k=>k_is)))
   (case h32|h33|h34|h35|h36|h37|h38|h39=>(refine' L2.FA.mk ?a ?l ?c ?k;(case a|l|c|k=>k_is)))
   (case h40|h41|h42|h43|h44|h45|h46|h47=>(refine' L2.FA.mk ?a ?l ?c ?k;(case a|l|c|k=>k_is)))
   (case h48|h49|h50|h51|h52|h53|h54|h55=>(refine' L2.FA.mk ?a ?l ?c ?k;(case a|l|c|k=>k_is)))
   (case h56|h57|h58|h59|h60|h61|h62=>(refine' L2.FM.mk ?a ?l ?c ?k ?i;(case a|l|c|k|i=>k_is)))
   (case gc_Z0a|gt_Z0a|gm_Z0a|gc_Z05|gt_Z05|gm_Z05|gc_Z06|gt_Z06=>k_is)
   (case gm_Z06|gc_Z0c|gt_Z0c|gm_Z0c|gc_Z07|gt_Z07|gm_Z07|op_Pots=>k_is)
   (case od_Z07|oo_Pots|os_Pots|om_Pots|ok_Z07|on_Pots_given|on_Pots_own|on_Pots_taken=>k_is)
   (case gx_Z05=>k_exc)
   (case gx_Z06=>k_exc)
   (case gx_Z0c=>k_exc)
   (case k_Z03|k_Z02|k_Z04|kl_Z04=>k_is)
   (case kz_Z04=>decide)
   (case kv_Z04=>exact(.cons ⟨_,rfl⟩ (.cons ⟨_,rfl⟩ (.cons ⟨_,rfl⟩ (.cons ⟨_,rfl⟩ (.cons ⟨_,rfl⟩ (.cons ⟨_,rfl⟩ (.cons ⟨_,rfl⟩ (.cons ⟨_,rfl⟩ (.cons ⟨_,rfl⟩ (.cons ⟨_,rfl⟩ (.cons ⟨_,rfl⟩ (.cons ⟨_,rfl⟩ .nil)))))))))))))
   (case k_Z08|k_Z01|k_Z00|k_Z0e|k_Z09|k_Z0d|kl_Z0d=>k_is)
   (case kv_Z0d=>exact⟨⟨_,rfl⟩,rfl,⟨_,rfl⟩,⟨⟨_,rfl⟩,rfl,⟨_,rfl⟩,⟨⟨_,rfl⟩,rfl,⟨_,rfl⟩,⟨⟨_,rfl⟩,rfl,⟨_,rfl⟩,trivial⟩⟩⟩⟩)
   (case k_Z0b|kl_Z0b=>k_is)
   (case kz_Z0b=>decide)
   (case kv_Z0b=>exact(.cons ⟨_,rfl⟩ (.cons ⟨_,rfl⟩ (.cons ⟨_,rfl⟩ (.cons ⟨_,rfl⟩ (.cons ⟨_,rfl⟩ (.cons ⟨_,rfl⟩ .nil)))))))
   (case z_range|z_divmod|z_min|z_sorted|z_sum|z_enumerate|z_list|z_set=>k_is)
   (case z_len|z_int|z_max|xga_NoSpan|xgt_NoSpan|xcl_NoSpan|xmo_NoSpan|xmb_NoSpan=>k_is)
   (case xga_TooLong|xgt_TooLong|xcl_TooLong|xmo_TooLong|xmb_TooLong|m_NoSpan_SpanError|m_NoSpan_NoDate|m_NoSpan_NoSpan=>k_is)
   (case m_NoSpan_TooLong|m_NoSpan_Pots|m_NoSpan_ValueError|m_TooLong_SpanError|m_TooLong_NoDate|m_TooLong_NoSpan|m_TooLong_TooLong|m_TooLong_Pots=>k_is)
   (case m_TooLong_ValueError|m_SpanError_BaseException=>k_is)
  obtain⟨t,T⟩:=T
  have e0:=hmg.symm.trans T.F_1j.mg
  cases e0
  refine⟨_,?b,λbase _ _=>(K90.ok_1j T).mono 'd'⟩
  exact K90.bind_law T
