import PyProof.Rows.All
import Wide.All
import OpenK.AllK
import Wide.FinOn
import PyProof.EqAt
import PyProof.EqKinds
import PyProof.TupleCall
import HandS.ForMost
import HandS.Codes
import HandS.Wide
import HandS.Style
import HandS.Flow
import HandS.TupAny
import HandS.IsInst
import HandS.ExcInit
import HandS.SortKw
import HandS.DictComp
import PyProof.ReprRoads
import HandS.Exc
import HandS.WordsExc
import HandS.MakeKw
import HandS.ExcIs
import HandS.ExcField
import HandS.ExcValue
import PySem.Challenge.RW_weighdoors_k04_refusals_by_their_kinds
import HandS.Walk
import PyProof.ReprLen
set_option Elab.async false
set_option linter.all false
set_option maxRecDepth 100000
set_option maxHeartbeats 4000000
/-! General rules by values, of which the ones of the hand layer are the cases. -/
namespace Wd
open PySem PySem.Spec PyProof.Rows L2

/-! ### operators whose meaning hangs on the values -/
def rAddG (K : PySem.W.Frag) : R2 := fun x y H Q => match x, y with
  | .int i, .int j => Q (.int (i + j)) H
  | .str a, .str b => a.length + b.length ≤ sizeLine ∧ Q (.str (a ++ b)) H
  | .ref a, .ref b => rCat (.ref a) (.ref b) H Q ∨ rCatA K (.ref a) (.ref b) H Q
  | _, _ => False
theorem op_addG {X : Cx} {K : PySem.W.Frag} (hK : X.K = K := by rfl) : OpR X (binaryOp .Add) (rAddG K) := by
  subst hK
  intro pins s σ H x y v u Q I rx ry h
  cases x <;> cases y <;> first | exact h.elim | skip
  case int.int i j => exact op_add pins s σ H _ _ v u Q I rx ry ⟨i, j, rfl, rfl, h⟩
  case str.str a b => exact op_add_str pins s σ H _ _ v u Q I rx ry ⟨a, b, rfl, rfl, h.1, h.2⟩
  case ref.ref a b =>
    rcases h with h | h
    · exact op_cat pins s σ H _ _ v u Q I rx ry h
    · exact op_catA pins s σ H _ _ v u Q I rx ry h
def rMulG (K : PySem.W.Frag) : R2 := fun x y H Q => match x, y with
  | .int i, .int j => CMul i j ∧ Q (.int (i * j)) H
  | .ref a, .int k => rRep (.ref a) (.int k) H Q
  | _, _ => False
theorem op_mulG {X : Cx} {K : PySem.W.Frag} (hK : X.K = K := by rfl) : OpR X (binaryOp .Mult) (rMulG K) := by
  subst hK
  intro pins s σ H x y v u Q I rx ry h
  cases x <;> cases y <;> first | exact h.elim | skip
  case int.int i j => exact op_mul pins s σ H _ _ v u Q I rx ry ⟨i, j, rfl, rfl, h.1, h.2⟩
  case ref.int a k => exact op_rep pins s σ H _ _ v u Q I rx ry h
def rEqX (K : PySem.W.Frag) : R2 := fun x y H Q => rEq x y H Q ∨ rEqD K x y H Q
def rNeX (K : PySem.W.Frag) : R2 := fun x y H Q => rNe x y H Q ∨ rNeD K x y H Q
theorem op_eqX {X : Cx} {K : PySem.W.Frag} (hu : X.A.units + 64 < cLine) (hK : X.K = K := by rfl) : OpR X (compareOp .Eq) (rEqX K) := by
  subst hK
  exact op_eq.or (op_eqD hu)
theorem op_neX {X : Cx} {K : PySem.W.Frag} (hu : X.A.units + 64 < cLine) (hK : X.K = K := by rfl) : OpR X (compareOp .NotEq) (rNeX K) := by
  subst hK
  exact op_ne.or (op_neD hu)
def rLenG (K : PySem.W.Frag) : List V → Hp → VK → Prop := fun xs H Q => match xs with
  | [.str z] => z.length ≤ sizeLine ∧ Q (.int z.length) H
  | [.ref p] => (∃ ys, (SqL K H p ys ∨ SqT K H p ys) ∧ Q (.int ys.length) H) ∨ ∃ kvs, H p = some (.dK kvs) ∧ Q (.int kvs.length) H
  | _ => False
theorem call_lenG {X : Cx} {K : PySem.W.Frag} (hK : X.K = K := by rfl) : CallR X (.builtin "len") (rLenG K) := by
  subst hK
  intro pins s σ H xs us Q I r h
  match xs, h with
  | [.str z], h => exact call_len_str pins s σ H _ us Q I r ⟨z, rfl, h.1, h.2⟩
  | [.ref p], h =>
    rcases h with ⟨ys, h1, h2⟩ | ⟨kvs, h1, h2⟩
    · exact call_len_seq pins s σ H _ us Q I r ⟨p, ys, rfl, h1, h2⟩
    · exact call_lenD pins s σ H _ us Q I r ⟨p, kvs, rfl, h1, h2⟩
  | [], h => exact h.elim
  | [.non], h => exact h.elim
  | [.bl _], h => exact h.elim
  | [.int _], h => exact h.elim
  | [.byt _], h => exact h.elim
  | [.flt _], h => exact h.elim
  | [.ty _], h => exact h.elim
  | a :: _ :: _, h => cases a <;> exact h.elim
def rSlG (K : PySem.W.Frag) : V → Option Int → Option Int → Hp → VK → Prop := fun x lo hi H Q => rSlL K x lo hi H Q ∨ (rSlA K x lo hi H Q ∨ C8.rSlX x lo hi H Q)
theorem sl_any {X : Cx} {K : PySem.W.Frag} (hK : X.K = K := by rfl) : SlR X (rSlG K) := by
  subst hK
  exact sl_list.or (sl_tupA.or C8.sl_txt)
theorem ixG {X : Cx} {K : PySem.W.Frag} (hK : X.K = K := by rfl) : IxR X (rIx K) := by
  subst hK
  exact ix_seq
theorem pe_andK {X : Cx} {K : PySem.W.Frag} {a b : Expr} {rest : List Expr} {pos : Pos} {ta tb : TE} (ha : PE X a ta) (hb : PE X (.BoolOp .And (b :: rest) pos) tb) (hK : X.K = K := by rfl) : PE X (.BoolOp .And (a :: b :: rest) pos) (tAndT K ta tb) := by
  subst hK
  exact pe_andT ha hb
theorem pe_orK {X : Cx} {K : PySem.W.Frag} {a b : Expr} {rest : List Expr} {pos : Pos} {ta tb : TE} (ha : PE X a ta) (hb : PE X (.BoolOp .Or (b :: rest) pos) tb) (hK : X.K = K := by rfl) : PE X (.BoolOp .Or (a :: b :: rest) pos) (tOrT K ta tb) := by
  subst hK
  exact pe_orT ha hb
theorem pe_notK {X : Cx} {K : PySem.W.Frag} {a : Expr} {pos : Pos} {ta : TE} (ha : PE X a ta) (hK : X.K = K := by rfl) : PE X (.UnaryOp .Not a pos) (tNotT K ta) := by
  subst hK
  exact pe_notT ha
def tTruK (K : PySem.W.Frag) (ta : TE) : TT := fun σ H Q => ta σ H fun x H' => ∃ k, TruV K x H' k ∧ Q k H'
theorem pt_truK {X : Cx} {K : PySem.W.Frag} {a : Expr} {ta : TE} (ha : PE X a ta) (he : ∀ whole, isTrue a X.env whole = (do let v ← whole; standAt a.pos; holding [v] (truthy v))) (hK : X.K = K := by rfl) : PT X a (tTruK K ta) := by
  subst hK
  exact pt_truth ha he
theorem pi_listK {X : Cx} {K : PySem.W.Frag} {tg l : Expr} {tl : TE} (h : PE X l tl) (hK : X.K = K := by rfl) : PI X tg l (iList K tl) := by
  subst hK
  exact pi_list h
theorem pi_tupK {X : Cx} {K : PySem.W.Frag} {tg l : Expr} {tl : TE} (h : PE X l tl) (hK : X.K = K := by rfl) : PI X tg l (iTup K tl) := by
  subst hK
  exact pi_tup h
theorem pg_tupK {X : Cx} {K : PySem.W.Frag} {es : List Expr} {k : _} {pos : Pos} {t : TGs} {n : Nat} (hc : X.calm = true) (h : PGs X es t) (hK : X.K = K := by rfl) (hn : (assignEach es X.env).length = n := by rfl) (hst : (assignEach es X.env).findIdx? (·.1) = none := by rfl) : PG X (.Tuple es k pos) (gTup K n t) := by
  subst hK
  exact pg_tup hc h hn hst
theorem bt_len : bootBuiltins "len" = some (.builtin "len") := by decide +kernel
theorem bt_abs : bootBuiltins "abs" = some (.builtin "abs") := by decide +kernel
theorem bt_list : bootBuiltins "list" = some (.type "list") := by decide +kernel
theorem bt_range : bootBuiltins "range" = some (.type "range") := by decide +kernel
theorem bt_min : bootBuiltins "min" = some (.builtin "min") := by decide +kernel
theorem bt_max : bootBuiltins "max" = some (.builtin "max") := by decide +kernel
theorem bt_repr : bootBuiltins "repr" = some (.builtin "repr") := by decide +kernel
theorem bt_isinstance : bootBuiltins "isinstance" = some (.builtin "isinstance") := by decide +kernel
theorem bt_sum : bootBuiltins "sum" = some (.builtin "sum") := by decide +kernel
theorem bt_sorted : bootBuiltins "sorted" = some (.builtin "sorted") := by decide +kernel
theorem bt_any : bootBuiltins "any" = some (.builtin "any") := by decide +kernel
theorem bt_all : bootBuiltins "all" = some (.builtin "all") := by decide +kernel
theorem bt_tuple : bootBuiltins "tuple" = some (.type "tuple") := by decide +kernel
theorem bt_dict : bootBuiltins "dict" = some (.type "dict") := by decide +kernel
theorem bt_int : bootBuiltins "int" = some (.type "int") := by decide +kernel
theorem bt_str : bootBuiltins "str" = some (.type "str") := by decide +kernel
theorem bt_enumerate : bootBuiltins "enumerate" = some (.type "enumerate") := by decide +kernel
theorem bt_zip : bootBuiltins "zip" = some (.type "zip") := by decide +kernel
theorem bt_reversed : bootBuiltins "reversed" = some (.type "reversed") := by decide +kernel
theorem hu64 {A : Around} {k : Nat} (hr : Room k A) : A.units + 64 < cLine := by
  have := hr.un
  omega
end Wd

set_option Elab.async false
set_option linter.all false
set_option maxRecDepth 100000
set_option maxHeartbeats 4000000
/-! Defs that are run where no guard is known to run (repr asks for that): FnG beside FnOk. -/
namespace Wd
open PySem PySem.Spec PyProof.Rows L2

/-- as FnOk, for an Around without guards -/
structure FnG (P : Program) (w : World) (K : PySem.W.Frag) (mg : Str → Option Value) (base : Heap) (CX : CXT) (k : Nat) (f : Addr) (fd : FuncData) (ps : List Str) (sp : Sp) : Prop where
  len : ∀ xs G R E, sp xs G R E → xs.length = ps.length
  run : ∀ (A : Around) (out : List Env) (z : Shared) (G : Hp) (args : Args) (us : List Value) (xs : List V) (R : VK) (E : XK), A.guards = some [] → Room k A → Env0 P w K mg base A out z G →
    BindsTo z fd args (ps.zip us) → Vals xs us → sp xs G R E → codeAny (model P w) A (.call (.ref f) args) (CR CX out P w G z R E) z
theorem FnG.mono {P : Program} {w : World} {K : PySem.W.Frag} {mg : Str → Option Value} {base : Heap} {CX : CXT} {j k : Nat} {f : Addr} {fd : FuncData} {ps : List Str} {sp : Sp}
    (F : FnG P w K mg base CX j f fd ps sp) (h : j ≤ k) : FnG P w K mg base CX k f fd ps sp :=
  ⟨F.len, fun A out z G args us xs R E hg hr => F.run A out z G args us xs R E hg (hr.mono h)⟩
theorem fng_ok {P : Program} {w : World} {K : PySem.W.Frag} {mg : Str → Option Value} {base : Heap} {CX : CXT} {k : Nat} {f : Addr} {fd : FuncData} {ps : List Str} {sp : Sp}
    (F : FnOk P w K mg base CX k f fd ps sp) : FnG P w K mg base CX k f fd ps sp :=
  ⟨F.len, fun A out z G args us xs R E _ hr => F.run A out z G args us xs R E hr⟩
/-- a def by its body -/
theorem fng_of {CX : CXT} {P : Program} {w : World} {K : PySem.W.Frag} {mg : Str → Option Value} {base : Heap} {k : Nat} {f : Addr} {nm ql : Str} {pa : Arguments} {bd : List Stmt} {sc : Scope} {dV kV doc pm cv ct oc : Value} {an od : Option Addr}
    {sl : Array (Option Value)} {N ps : List Str} {sp : Sp} (lk : K.lookup f = some ⟨oc, od, .func (PySem.W.fnOf nm ql pa bd sc dV kV doc pm an cv ct), sl⟩) (hc : PySem.W.codeIn K cv ql = true) (S : FnScope N ps sc)
    (len : ∀ xs G R E, sp xs G R E → xs.length = ps.length)
    (hb : ∀ (A : Around) (out : List Env) (z : Shared) (G : Hp) (xs : List V) (R : VK) (E : XK), A.guards = some [] → Room k (A.deeper (envOfC ql sc z.heap.objs.size f cv)) → sp xs G R E →
      ∃ t, PSs (cxOf CX P w K mg base N ql sc f cv A out z G E) bd t ∧ t { nx := fun _ G' => R .non G', rt := R } (start N xs) G) :
    FnG P w K mg base CX (k + 1) f (PySem.W.fnOf nm ql pa bd sc dV kV doc pm an cv ct) ps sp := by
  refine ⟨len, fun A out z G args us xs R E hgd hrm en bind rel hsp => ?_⟩
  have hlen := len _ _ _ _ hsp
  have inK : K.In z.heap := en.mod.kin.keeps fun b o e => (en.bs b o e).1
  have nolim : z.heap.NoLimit := en.mod.nolimit.keeps fun b o e => (en.bs b o e).1
  have kinds : ∀ y ∈ ps.zip us, sc.names.lookup y.1 = some .local ∨ (sc.names.lookup y.1 = some .cell ∧ ((cellsFrom (z.heap.objs.size + 1) sc.names []).lookup y.1).isSome = true) := by
    rintro ⟨n, v⟩ hy
    rcases S.par n (List.of_mem_zip hy).1 with q | q
    · exact .inl q
    · exact .inr ⟨q, PySem.W.cellsFrom_some _ _ _ (.inl q)⟩
  refine codeAny_call_function hrm.depth (inK _ _ lk) rfl S.co S.gen rfl (PySem.W.codeRec_of inK hc) (bind _ _ _ _ ?_)
  refine wpAny_newFunctionEnv_cells S.kind kinds fun env ee z1 xx => ?_
  subst ee
  refine ⟨nolim.keeps xx.toInCall.keep, codeAny_func ?_⟩
  obtain ⟨t, ht, hq⟩ := hb A out z G xs R E hgd (hrm.deeper _) hsp
  have J0 : Inv (cxOf CX P w K mg base N ql sc f cv A out z G E) [] (start N xs) G z1 := inv_start S hrm.hd en hlen rel xx
  refine wpAny_mono (ht.run [] z1 (start N xs) G _ J0 hq) (fun fl z2 hs => ?_) fun e z2 hs => hs
  have fin : ∀ {τ : L2.St} {G' : Hp} {v : V} {u : Value}, Inv (cxOf CX P w K mg base N ql sc f cv A out z G E) [] τ G' z2 → RelV v u → R v G' → CE out P w G z R u z2 :=
    fun {τ G' v u} J rv q => ⟨v, G', J.os, J.bare, J.base, J.hok, rv, q⟩
  match fl, hs with
  | .ret u, hs =>
    obtain ⟨v, τ, G', J, rv, q⟩ := hs
    exact fin J rv q
  | .next, hs =>
    obtain ⟨τ, G', J, q⟩ := hs
    exact fin (v := V.non) (u := Value.none) J rfl q
  | .brk, ⟨_, _, _, q⟩ => exact False.elim q
  | .cont, ⟨_, _, _, q⟩ => exact False.elim q

/-- a def that may be called by its name, where no guard runs -/
structure CalG (P : Program) (w : World) (K : PySem.W.Frag) (mg : Str → Option Value) (base : Heap) (k : Nat) (x : Str) (sp : Sp) : Prop where
  ex : ∃ (f : Addr) (fd : FuncData) (ps : List Str), FnG P w K mg base CX0 k f fd ps sp ∧ mg x = some (.ref f) ∧ PySem.W.keepIn K (.ref f) = true ∧ Binds K fd ps []
theorem C8cal_g {P : Program} {w : World} {K : PySem.W.Frag} {mg : Str → Option Value} {base : Heap} {k : Nat} {f : Addr} {fd : FuncData} {ps : List Str} {x : Str} {sp : Sp}
    (F : FnOk P w K mg base CX0 k f fd ps sp) (hm : mg x = some (.ref f)) (kp : PySem.W.keepIn K (.ref f) = true) (b : Binds K fd ps []) : CalG P w K mg base k x sp := ⟨f, fd, ps, fng_ok F, hm, kp, b⟩
section
variable {P : Program} {w : World} {K : PySem.W.Frag} {mg : Str → Option Value} {base : Heap}
theorem fng {x : Str} {st : Stmt} {f : Addr} {fd : FuncData} {N ps : List Str} {k : Nat} {sp : Sp} (F : C8.Def K mg x st f fd) (S : FnScope N ps (C8.fnScope st)) (len : ∀ xs G R E, sp xs G R E → xs.length = ps.length)
    (hb : ∀ (cv : Value) (A : Around) (out : List Env) (z : Shared) (G : Hp) (xs : List V) (R : VK) (E : XK), (A.deeper (envOfC x (C8.fnScope st) z.heap.objs.size f cv)).guards = some [] → Room k (A.deeper (envOfC x (C8.fnScope st) z.heap.objs.size f cv)) → sp xs G R E →
      ∃ t, PSs (cxOf CX0 P w K mg base N x (C8.fnScope st) f cv A out z G E).nox (C8.fnBody st) t ∧ t { nx := fun _ G' => R .non G', rt := R } (start N xs) G) : FnG P w K mg base CX0 (k + 1) f fd ps sp := by
  obtain ⟨oc, od, dV, kV, doc, pm, an, cv, ct, sl, rfl, lk, hc⟩ := F.fn.ex
  refine fng_of lk hc S len fun A out z G xs R E hg hr hsp => ?_
  obtain ⟨t, h, q⟩ := hb cv A out z G xs R E hg hr hsp
  exact ⟨t, h.nox, q⟩
theorem calg {x : Str} {st : Stmt} {f : Addr} {fd : FuncData} {N ps : List Str} {k : Nat} {sp : Sp} (F : C8.Def K mg x st f fd) (b : Binds K fd ps []) (S : FnScope N ps (C8.fnScope st)) (len : ∀ xs G R E, sp xs G R E → xs.length = ps.length)
    (hb : ∀ (cv : Value) (A : Around) (out : List Env) (z : Shared) (G : Hp) (xs : List V) (R : VK) (E : XK), (A.deeper (envOfC x (C8.fnScope st) z.heap.objs.size f cv)).guards = some [] → Room k (A.deeper (envOfC x (C8.fnScope st) z.heap.objs.size f cv)) → sp xs G R E →
      ∃ t, PSs (cxOf CX0 P w K mg base N x (C8.fnScope st) f cv A out z G E).nox (C8.fnBody st) t ∧ t { nx := fun _ G' => R .non G', rt := R } (start N xs) G) : CalG P w K mg base (k + 1) x sp := by
  refine ⟨f, fd, ps, ?_, F.mgf, F.kp, b⟩
  obtain ⟨oc, od, dV, kV, doc, pm, an, cv, ct, sl, rfl, lk, hc⟩ := F.fn.ex
  refine fng_of lk hc S len fun A out z G xs R E hg hr hsp => ?_
  obtain ⟨t, h, q⟩ := hb cv A out z G xs R E hg hr hsp
  exact ⟨t, h.nox, q⟩
end
section
variable {X : Cx} {k j : Nat} {f : Addr} {fd : FuncData} {ps : List Str} {x : Str} {sp : Sp} {CX : CXT} {E : XK} {p pos : Pos} {e : Expr} {es : List Expr} {t : TA}
theorem run_fng {pins : List (Addr × Obj)} {σ : L2.St} {H : Hp} {s : Shared} {R : VK} {us : List Value} {xs : List V} (F : FnG X.prog X.w X.K X.mg X.base CX k f fd ps sp) (hgd : X.A.guards = some []) (hr : Room k X.A) (b : Binds X.K fd ps [])
    (hx : Passes CX X E) (I : Inv X pins σ H s) (r : Vals xs us) (h : sp xs H R E) : wpAny (model X.prog X.w) X.A (call (.ref f) us) (EP X pins σ R) X.xe s := by
  have hl : us.length = ps.length := by rw [← r.length]; exact F.len _ _ _ _ h
  have bb := b s us I.kIn (by rw [List.append_nil]; exact hl)
  rw [List.append_nil] at bb
  refine wpAny_call (codeAny_mono (F.run X.A X.stack s H ⟨us, []⟩ us xs R E hgd hr I.env0 bb r h) fun rr z hq => ?_)
  match rr, hq with
  | .error e, hq => exact hx pins σ H s e z I hq
  | .ok (.ret u), hq => exact I.after hq
  | .ok .next, hq => exact False.elim hq
  | .ok .brk, hq => exact False.elim hq
  | .ok .cont, hq => exact False.elim hq
theorem pe_g (c : CalG X.prog X.w X.K X.mg X.base k x sp) (hgd : X.A.guards = some []) (hr : Room j X.A) (hk : k ≤ j) (hg : Gl X x) (ha : PA X (e :: es) t) (hdb : (x == ("__debug__" : Str)) = false := by decide)
    (he : starEach (e :: es) X.env = (false, eval e X.env) :: starEach es X.env := by rfl) (hpl : (backTo pos (starEach es X.env)).any (·.1) = false := by rfl) :
    PE X (.Call (.Name x p) (e :: es) [] pos) (tCall sp [] E0 t) := by
  obtain ⟨f, fd, ps, F, hm, kp, b⟩ := c.ex
  refine ⟨fun pins s σ H Q I h => ?_⟩
  refine wpAny_Call_Name_kw (ld_glob I hg hm ?_ hdb)
  refine PySem.W.callWith_K (h₀ := X.base) I.ok.mod.kin kp (thn (ha.run pos pins s σ H _ I h) fun us s1 ⟨xs, H1, I1, r, q⟩ => ⟨I1.kIn, ?_⟩) he hpl
  refine run_fng F hgd (hr.mono hk) b pass0 I1 r ?_
  rw [← List.append_nil xs]
  exact q
theorem pe_c0 {dvs : List V} (c : C8.Cal X.prog X.w X.K X.mg X.base k x sp dvs) (hr : Room j X.A) (hk : k ≤ j) (hg : Gl X x) (hdb : (x == ("__debug__" : Str)) = false := by decide) : PE X (.Call (.Name x p) [] [] pos) (tCall sp dvs E0 tNil) := by
  obtain ⟨f, fd, ps, ds, F, hm, kp, b, d⟩ := c.ex
  exact pe_call0 F (hr.mono hk) hg hm kp b d pass0 hdb
end
end Wd

set_option Elab.async false
set_option linter.all false
set_option maxRecDepth 100000
set_option maxHeartbeats 4000000
/-! The end of a law whose def is an FnG. -/
namespace Wd
open PySem PySem.Spec PyProof.Rows L2 PySem.W PySem.Calls
theorem end_core {P : Program} {w : World} {K : PySem.W.Frag} {mg mb : Str → Option Value} {k : Nat} {fa a : Addr} {fd : FuncData} {x : Str} {sp : Sp} {z : Shared} {us : List Value} {ks : List Int}
    (inK : K.In z.heap) (hns : z.heap.Ns mainGlobals mg) (hb : z.heap.Ns builtinsNs mb) (hbb : ∀ x : Str, x ≠ "__name__" → mb x = bootBuiltins x) (nolim : z.heap.NoLimit) (hgn : z.gens = #[])
    (obj : z.heap.get? a = some { cls := .type "list", data := .seq us.toArray }) (hr : Room k callerA)
    (F : ∀ base : Heap, K.In base → base.Ns mainGlobals mg → FnG P w K mg base CX0 k fa fd [x] sp) (bind : ∀ (s : Shared) (u : Value), BindsTo s fd ⟨[u], []⟩ [(x, u)])
    (G : Hp) (only : Only G) (hsp : sp [.ref a] G (fun v _ => v = .bl true) fun _ _ _ => False) (ok : HOk P w G z.heap) (trackA : ∀ b, G b ≠ none → b = a) (offK : G a ≠ none → K.lookup a = none) :
    codeAny (model P w) callerA (.call (.ref fa) ⟨[.ref a], []⟩) (fun r z2 => r = .ok (.ret (.bool true)) ∧ OldK z.heap z2.heap ∧ z2.os = z.os ∧ AllBare z2.gens) z := by
  have notDict : ∀ {b : Addr} {o : Obj} {es : Array DictEntry} {ep : Nat}, z.heap.get? b = some o → o.data = .dict es ep → G b = none := by
    intro b o es ep e d
    cases q : G b with
    | none => rfl
    | some u =>
      have eb : b = a := trackA b (by rw [q]; simp)
      subst eb
      rw [obj] at e
      cases e
      have dd : Data.seq us.toArray _ = Data.dict es ep := d
      cases dd
  have ns2 : ∀ {b : Addr} {m : Str → Option Value}, z.heap.Ns b m → (hidT z.heap G).Ns b m := fun {b m} ⟨o, es, ep, e, d, r⟩ => ⟨o, es, ep, hidT_get e (notDict e d), d, r⟩
  have inB : K.In (hidT z.heap G) := by
    intro b o e
    refine hidT_get (inK b o e) ?_
    cases q : G b with
    | none => rfl
    | some u =>
      have eb : b = a := trackA b (by rw [q]; simp)
      subst eb
      rw [offK (by rw [q]; simp)] at e
      cases e
  have hM : Mod K mg (hidT z.heap G) := ⟨inB, ns2 hns, ⟨mb, ns2 hb, hbb⟩, let ⟨mc, h1, h2⟩ := nolim; ⟨mc, ns2 h1, h2⟩⟩
  have en : Env0 P w K mg (hidT z.heap G) callerA [] z G := ⟨rfl, hM, fun b o e => of_hidT e, Nat.le_of_eq (hidT_size _ _), trivial, (by intro b hb; cases hb), ok, .of_eq hgn⟩
  refine codeAny_mono ((F _ inB (ns2 hns)).run callerA [] z G ⟨[.ref a], []⟩ [.ref a] [.ref a] _ _ rfl hr en (bind z (.ref a)) (.cons rfl .nil) hsp) fun r z2 h => ?_
  match r, h with
  | .error e, h => exact False.elim h
  | .ok .next, h => exact False.elim h
  | .ok .brk, h => exact False.elim h
  | .ok .cont, h => exact False.elim h
  | .ok (.ret u), ⟨v, G', os, bare, un, ok', rv, q⟩ =>
    have q' : v = .bl true := q
    subst q'
    obtain rfl : u = Value.bool true := rv
    refine ⟨rfl, OldK.of_keep fun b o e => ?_, os, bare⟩
    cases q : G b with
    | none => exact un.keep b o e q (by intro t; cases t) (by simp)
    | some u =>
      rcases only b with t | ⟨ob, xs, t⟩
      · rw [q] at t; cases t
      · have t2 := un.frzs b ob _ t
        obtain ⟨e1, _⟩ := ok b _ t
        obtain ⟨e2, _⟩ := ok' b _ t2
        rw [e] at e1
        cases e1
        exact e2
theorem end_call {P : Program} {w : World} {K : PySem.W.Frag} {mg mb : Str → Option Value} {k : Nat} {fa a : Addr} {fd : FuncData} {x : Str} {sp : Sp} {z : Shared} {us : List Value} {ks : List Int}
    (inK : K.In z.heap) (hns : z.heap.Ns mainGlobals mg) (hb : z.heap.Ns builtinsNs mb) (hbb : ∀ x : Str, x ≠ "__name__" → mb x = bootBuiltins x) (nolim : z.heap.NoLimit) (hgn : z.gens = #[])
    (obj : z.heap.get? a = some { cls := .type "list", data := .seq us.toArray }) (hi : IntsAre us ks) (hl : ks.length ≤ sizeLine) (hr : Room k callerA)
    (F : ∀ base : Heap, K.In base → base.Ns mainGlobals mg → FnG P w K mg base CX0 k fa fd [x] sp) (bind : ∀ (s : Shared) (u : Value), BindsTo s fd ⟨[u], []⟩ [(x, u)])
    (hsp : ∀ G : Hp, Only G → SqL K G a (ks.map V.int) → sp [.ref a] G (fun v _ => v = .bl true) fun _ _ _ => False) :
    codeAny (model P w) callerA (.call (.ref fa) ⟨[.ref a], []⟩) (fun r z2 => r = .ok (.ret (.bool true)) ∧ OldK z.heap z2.heap ∧ z2.os = z.os ∧ AllBare z2.gens) z := by
  have rv := vals_ints hi
  have hlen := hi.length
  cases hk : K.lookup a with
  | some o =>
    have e := inK a o hk
    rw [obj] at e
    cases e
    have nn : ∀ b : Addr, (fun _ => none : Hp) b = none := fun _ => rfl
    exact end_core (ks := ks) inK hns hb hbb nolim hgn obj hr F bind (fun _ => none) (fun _ => .inl rfl) (hsp _ (fun _ => .inl rfl) (.inr ⟨_, us.toArray, _, hk, rfl, rfl, rfl, by rw [List.size_toArray, hlen]; exact hl, by simpa using rv⟩))
      (fun b u t => by have t' : (none : Option HO) = some u := t; cases t') (fun b t => absurd rfl t) (fun t => absurd rfl t)
  | none =>
    have only : Only (fun b => if b = a then some (.frz { cls := .type "list", data := .seq us.toArray } (.lst (ks.map V.int))) else none) := by
      intro b
      by_cases eb : b = a
      · exact .inr ⟨_, _, if_pos eb⟩
      · exact .inl (if_neg eb)
    refine end_core (ks := ks) inK hns hb hbb nolim hgn obj hr F bind _ only (hsp _ only (.inl (.inr ⟨_, if_pos rfl⟩))) (fun b u t => ?_) (fun b t => ?_) fun _ => hk
    · by_cases eb : b = a
      · have t' := (if_pos eb).symm.trans t
        cases t'
        subst eb
        exact ⟨obj, by rw [List.length_map]; exact hl, us, _, rv, obj⟩
      · have t' := (if_neg eb).symm.trans t
        cases t'
    · by_cases eb : b = a
      · exact eb
      · exact absurd (if_neg eb) t
theorem walk_g {l : PySem.W.OpenLaw} {n k : Nat} {q : Program} {loose : List Str} {XP : (Str → Option Value) → Heap → Prop} {YP : World → Heap → Prop} {d : DefRec} {K : Params → PySem.W.Frag} {sp : World → Sp} {x : Str}
    (hn : l.most = some n) (hn2 : n ≤ sizeLine) (hdf : d.params.defaults = []) (hr : Room k callerA) (hY : ∀ (w : World) (h : Heap), YP w h → (K w.params).In h)
    (F : ∀ (w : World) (mg : Str → Option Value) (fa : Addr) (h : Heap), (K w.params).In h → h.Ns mainGlobals mg → mg d.name = some (.ref fa) →
      ∃ fd : FuncData, (∀ (s : Shared) (u : Value), BindsTo s fd ⟨[u], []⟩ [(x, u)]) ∧ ∀ base : Heap, (K w.params).In base → base.Ns mainGlobals mg → FnG l.prog w (K w.params) mg base CX0 k fa fd [x] (sp w))
    (hsp : ∀ (w : World) (G : Hp) (a : Addr) (ks : List Int), ks.length ≤ n → Only G → SqL (K w.params) G a (ks.map V.int) → sp w [.ref a] G (fun v _ => v = .bl true) fun _ _ _ => False) :
    PySem.W.WalkO q loose XP YP l.row.toRowW d [] (fun f vs => PySem.call f vs) := by
  refine Att.attach_call hn hdf fun w z0 z1 mg mb fa o pm cd doc a us ks Gr Y ho hd hcd hmg hobj hints hlen hg => ?_
  have inK := hY w _ Y
  obtain ⟨fd, hb, hF⟩ := F w mg fa _ inK Gr.T.g hmg
  exact end_call inK Gr.T.g Gr.T.b Gr.T.builtins Gr.T.nolimit hg hobj hints (Nat.le_trans hlen hn2) hr hF hb fun G hO hS => hsp w G a ks hlen hO hS
end Wd

set_option Elab.async false
set_option linter.all false
set_option maxRecDepth 100000
set_option maxHeartbeats 4000000
/-! repr of data at any depth: none, bools, ints, texts, lists, tuples, dicts with ints and texts as keys. -/
namespace Wd
open PySem PySem.Spec PyProof.Rows L2
def keyD : Key → PyData
  | .inl i => .int i
  | .inr x => .str x
mutual
/-- v is the data d; each list, tuple, dict in it stands at an address of which N is true -/
inductive Dq (N : Addr → Prop) (K : PySem.W.Frag) (H : Hp) : V → PyData → Prop
  | non : Dq N K H .non .none
  | bl (b : Bool) : Dq N K H (.bl b) (.bool b)
  | int (i : Int) : Dq N K H (.int i) (.int i)
  | str (x : Str) : Dq N K H (.str x) (.str x)
  | lst {a : Addr} {xs : List V} {ds : List PyData} : N a → SqL K H a xs → DqAll N K H xs ds → Dq N K H (.ref a) (.list ds)
  | tup {a : Addr} {xs : List V} {ds : List PyData} : N a → SqT K H a xs → DqAll N K H xs ds → Dq N K H (.ref a) (.tuple ds)
  | dct {a : Addr} {kvs : List (Key × V)} {ds : List (PyData × PyData)} : N a → Rd H a (.dK kvs) → DqKv N K H kvs ds → Dq N K H (.ref a) (.dict ds)
inductive DqAll (N : Addr → Prop) (K : PySem.W.Frag) (H : Hp) : List V → List PyData → Prop
  | nil : DqAll N K H [] []
  | cons {v : V} {vs : List V} {d : PyData} {ds : List PyData} : Dq N K H v d → DqAll N K H vs ds → DqAll N K H (v :: vs) (d :: ds)
inductive DqKv (N : Addr → Prop) (K : PySem.W.Frag) (H : Hp) : List (Key × V) → List (PyData × PyData) → Prop
  | nil : DqKv N K H [] []
  | cons {k : Key} {v : V} {kvs : List (Key × V)} {d : PyData} {ds : List (PyData × PyData)} : Dq N K H v d → DqKv N K H kvs ds → DqKv N K H ((k, v) :: kvs) ((keyD k, d) :: ds)
end
def anyA : Addr → Prop := fun _ => True
section
variable {N N' : Addr → Prop} {K : PySem.W.Frag} {H H' : Hp}
theorem sqL_at {a : Addr} {xs : List V} (s : ∀ o, H a = some o → H' a = some o) (h : SqL K H a xs) : SqL K H' a xs := by
  rcases h with (h | ⟨o, h⟩) | h
  · exact .inl (.inl (s _ h))
  · exact .inl (.inr ⟨o, s _ h⟩)
  · exact .inr h
theorem sqT_at {a : Addr} {xs : List V} (s : ∀ o, H a = some o → H' a = some o) (h : SqT K H a xs) : SqT K H' a xs := by
  rcases h with (h | ⟨o, h⟩) | h
  · exact .inl (.inl (s _ h))
  · exact .inl (.inr ⟨o, s _ h⟩)
  · exact .inr h
theorem rd_at {a : Addr} {u : HO} (s : ∀ o, H a = some o → H' a = some o) (h : Rd H a u) : Rd H' a u := by
  rcases h with h | ⟨o, h⟩
  · exact .inl (s _ h)
  · exact .inr ⟨o, s _ h⟩
mutual
theorem Dq.move (n : ∀ a, N a → N' a) (s : ∀ a o, N a → H a = some o → H' a = some o) : ∀ (d : PyData) (v : V), Dq N K H v d → Dq N' K H' v d
  | .none, _, h => by cases h; exact .non
  | .bool b, _, h => by cases h; exact .bl b
  | .int i, _, h => by cases h; exact .int i
  | .str x, _, h => by cases h; exact .str x
  | .list ds, _, h => by
    cases h with
    | lst na hq ha => exact .lst (n _ na) (sqL_at (fun o => s _ o na) hq) (DqAll.move n s ds _ ha)
  | .tuple ds, _, h => by
    cases h with
    | tup na hq ha => exact .tup (n _ na) (sqT_at (fun o => s _ o na) hq) (DqAll.move n s ds _ ha)
  | .dict ds, _, h => by
    cases h with
    | dct na hq ha => exact .dct (n _ na) (rd_at (fun o => s _ o na) hq) (DqKv.move n s ds _ ha)
theorem DqAll.move (n : ∀ a, N a → N' a) (s : ∀ a o, N a → H a = some o → H' a = some o) : ∀ (ds : List PyData) (vs : List V), DqAll N K H vs ds → DqAll N' K H' vs ds
  | [], _, h => by cases h; exact .nil
  | d :: ds, _, h => by
    cases h with
    | cons h1 h2 => exact .cons (Dq.move n s d _ h1) (DqAll.move n s ds _ h2)
theorem DqKv.move (n : ∀ a, N a → N' a) (s : ∀ a o, N a → H a = some o → H' a = some o) : ∀ (ds : List (PyData × PyData)) (vs : List (Key × V)), DqKv N K H vs ds → DqKv N' K H' vs ds
  | [], _, h => by cases h; exact .nil
  | (k, d) :: ds, _, h => by
    cases h with
    | cons h1 h2 => exact .cons (Dq.move n s d _ h1) (DqKv.move n s ds _ h2)
end
theorem Dq.mono {v : V} {d : PyData} (s : Same H H') (h : Dq N K H v d) : Dq N K H' v d := Dq.move (fun _ n => n) (fun a o _ => s a o) d v h
theorem DqAll.mono {v : List V} {d : List PyData} (s : Same H H') (h : DqAll N K H v d) : DqAll N K H' v d := DqAll.move (fun _ n => n) (fun a o _ => s a o) d v h
theorem DqKv.mono {v : List (Key × V)} {d : List (PyData × PyData)} (s : Same H H') (h : DqKv N K H v d) : DqKv N K H' v d := DqKv.move (fun _ n => n) (fun a o _ => s a o) d v h
theorem Dq.any {v : V} {d : PyData} (h : Dq N K H v d) : Dq anyA K H v d := Dq.move (fun _ _ => trivial) (fun _ _ _ e => e) d v h
theorem DqAll.any {v : List V} {d : List PyData} (h : DqAll N K H v d) : DqAll anyA K H v d := DqAll.move (fun _ _ => trivial) (fun _ _ _ e => e) d v h
theorem DqAll.snoc : ∀ {vs : List V} {ds : List PyData} {v : V} {d : PyData}, DqAll N K H vs ds → Dq N K H v d → DqAll N K H (vs ++ [v]) (ds ++ [d])
  | _, _, _, _, .nil, x => .cons x .nil
  | _, _, _, _, .cons y r, x => .cons y (r.snoc x)
theorem DqAll.app : ∀ {vs vs' : List V} {ds ds' : List PyData}, DqAll N K H vs ds → DqAll N K H vs' ds' → DqAll N K H (vs ++ vs') (ds ++ ds')
  | _, _, _, _, .nil, x => x
  | _, _, _, _, .cons y r, x => .cons y (r.app x)
theorem DqAll.length : ∀ {vs : List V} {ds : List PyData}, DqAll N K H vs ds → vs.length = ds.length
  | _, _, .nil => rfl
  | _, _, .cons y r => by rw [List.length_cons, List.length_cons, r.length]
theorem DqAll.bools : ∀ bs : List Bool, DqAll N K H (bs.map V.bl) (bs.map PyData.bool)
  | [] => .nil
  | b :: bs => .cons (.bl b) (DqAll.bools bs)
theorem DqAll.strs : ∀ bs : List Str, DqAll N K H (bs.map V.str) (bs.map PyData.str)
  | [] => .nil
  | b :: bs => .cons (.str b) (DqAll.strs bs)
mutual
/-- without dicts it is the layer's own -/
theorem Dq.dp : ∀ (d : PyData) (v : V), d.hasDict = false → Dq N K H v d → Dp K H v d
  | .none, _, _, h => by cases h; exact .non
  | .bool b, _, _, h => by cases h; exact .bl b
  | .int i, _, _, h => by cases h; exact .int i
  | .str x, _, _, h => by cases h; exact .str x
  | .list ds, _, e, h => by
    cases h with
    | lst _ hq ha => exact .lst hq (DqAll.dp ds _ (by simpa [PyData.hasDict] using e) ha)
  | .tuple ds, _, e, h => by
    cases h with
    | tup _ hq ha => exact .tup hq (DqAll.dp ds _ (by simpa [PyData.hasDict] using e) ha)
  | .dict ds, _, e, h => by
    rw [PyData.hasDict] at e
    cases e
theorem DqAll.dp : ∀ (ds : List PyData) (vs : List V), PyData.hasDictAll ds = false → DqAll N K H vs ds → DpAll K H vs ds
  | [], _, _, h => by cases h; exact .nil
  | d :: ds, _, e, h => by
    cases h with
    | cons h1 h2 =>
      have e' : d.hasDict = false ∧ PyData.hasDictAll ds = false := by simpa [PyData.hasDictAll] using e
      exact .cons (Dq.dp d _ e'.1 h1) (DqAll.dp ds _ e'.2 h2)
end
end
section
variable {X : Cx} {pins : List (Addr × Obj)} {σ : L2.St} {H : Hp} {s : Shared} {N : Addr → Prop}
/-- what an object shows: where it is read, its text -/
structure Rk (P : Program) (w : World) (h : Heap) (u : Value) (d : PyData) : Prop where
  ex : ∃ as bs, Reads h u d as ∧ ReadAtMost h d.depth bs ∧ ReprK P w bs h d.depth u d.shown
structure Rks (P : Program) (w : World) (h : Heap) (us : List Value) (ds : List PyData) : Prop where
  ex : ∃ as bs, ReadsAll h us ds as ∧ ReadAtMost h (PyData.depthAll ds) bs ∧ ReprAllK P w bs h (PyData.depthAll ds) us (PyData.shownAll ds)
theorem Rks.nil {P : Program} {w : World} {h : Heap} : Rks P w h [] [] := ⟨[], [], .nil, (fun _ m => nomatch m), by simp only [PyData.shownAll]; exact .nil⟩
theorem Rks.cons {P : Program} {w : World} {h : Heap} {u : Value} {us : List Value} {d : PyData} {ds : List PyData} (a : Rk P w h u d) (b : Rks P w h us ds) : Rks P w h (u :: us) (d :: ds) := by
  obtain ⟨as, bs, r1, m1, k1⟩ := a.ex
  obtain ⟨cs, es, r2, m2, k2⟩ := b.ex
  refine ⟨as ++ cs, bs ++ es, .cons r1 r2, fun c hm => ?_, ?_⟩
  · simp only [PyData.depthAll]
    rcases List.mem_append.mp hm with hm | hm
    · obtain ⟨d', as', r', hd⟩ := m1 c hm
      exact ⟨d', as', r', Nat.le_trans hd (Nat.le_max_left _ _)⟩
    · obtain ⟨d', as', r', hd⟩ := m2 c hm
      exact ⟨d', as', r', Nat.le_trans hd (Nat.le_max_right _ _)⟩
  · simp only [PyData.depthAll, PyData.shownAll]
    exact .cons ((k1.more fun c hc => List.mem_append_left _ hc).level_le (Nat.le_max_left _ _)) (k2.more_le (fun c hc => List.mem_append_right _ hc) (Nat.le_max_right _ _))
theorem rk_scal {P : Program} {w : World} {h : Heap} {u : Value} {d : PyData} (r : Reads h u d []) (k : ReprIs P w u d.shown) : Rk P w h u d := ⟨[], [], r, (fun _ m => nomatch m), .of_is k _ _ _⟩
theorem rk_list {P : Program} {w : World} {h : Heap} {a : Addr} {o : Obj} {us : List Value} {n : Nat} {ds : List PyData} (h1 : h.get? a = some o) (h2 : o.cls = .type "list") (h3 : o.data = .seq us.toArray n) (q : Rks P w h us ds) : Rk P w h (.ref a) (.list ds) := by
  obtain ⟨as, bs, r, hb, hk⟩ := q.ex
  have rr : Reads h (.ref a) (.list ds) (a :: as) := .list h1 h2 h3 r
  have off : a ∉ bs := not_mem_of_deeper rr (by simp only [PyData.depth]; omega) hb
  refine ⟨a :: as, a :: bs, rr, ReadAtMost.cons rr (by simp only [PyData.depth]; omega) hb, ?_⟩
  simp only [PyData.depth, PyData.shown]
  cases us with
  | nil =>
    cases r
    simp only [PyData.shownAll, listText_nil]
    exact ReprK.listEmpty h1 h2 h3
  | cons x l => exact ReprK.list h1 h2 h3 off (by simpa using hk.length_eq) fun i y e => hk.item i y (by simpa using e)
theorem rk_tuple {P : Program} {w : World} {h : Heap} {a : Addr} {o : Obj} {us : List Value} {n : Nat} {ds : List PyData} (h1 : h.get? a = some o) (h2 : o.cls = .type "tuple") (h3 : o.data = .seq us.toArray n) (q : Rks P w h us ds) : Rk P w h (.ref a) (.tuple ds) := by
  obtain ⟨as, bs, r, hb, hk⟩ := q.ex
  have rr : Reads h (.ref a) (.tuple ds) as := .tuple h1 h2 h3 r
  have off : a ∉ bs := not_mem_of_deeper rr (by simp only [PyData.depth]; omega) hb
  refine ⟨as, a :: bs, rr, ReadAtMost.cons rr (by simp only [PyData.depth]; omega) hb, ?_⟩
  simp only [PyData.depth, PyData.shown]
  exact ReprK.tuple h1 h2 h3 off hk
theorem rk_dict {P : Program} {w : World} {h : Heap} {a : Addr} {o : Obj} {es : Array DictEntry} {n : Nat} {ds : List (PyData × PyData)} (h1 : h.get? a = some o) (h2 : o.cls = .type "dict") (h3 : o.data = .dict es n) (hsys : (a == sysModules) = false)
    (q1 : Rks P w h (es.toList.map (·.key)) (ds.map (·.1))) (q2 : Rks P w h (es.toList.map (·.val)) (ds.map (·.2))) : Rk P w h (.ref a) (.dict ds) := by
  obtain ⟨as, bs, r1, hb1, hk1⟩ := q1.ex
  obtain ⟨cs, es', r2, hb2, hk2⟩ := q2.ex
  have rr : Reads h (.ref a) (.dict ds) (a :: as ++ cs) := .dict h1 h2 h3 r1 r2
  have hb : ReadAtMost h (PyData.depthKv ds) (bs ++ es') := (hb1.mono (PyData.depthAll_keys_le ds)).append (hb2.mono (PyData.depthAll_vals_le ds))
  have off : a ∉ bs ++ es' := not_mem_of_deeper rr (by simp only [PyData.depth]; omega) hb
  refine ⟨_, a :: (bs ++ es'), rr, ReadAtMost.cons rr (by simp only [PyData.depth]; omega) hb, ?_⟩
  simp only [PyData.depth, PyData.shown, PyData.shownKv_eq]
  refine ReprK.dict h1 h2 h3 hsys off (ReprEntriesK.of_two es.toList _ _ (hk1.more_le (fun b hb => List.mem_append_left _ hb) ?_) (hk2.more_le (fun b hb => List.mem_append_right _ hb) ?_))
  · exact PyData.depthAll_keys_le ds
  · exact PyData.depthAll_vals_le ds
theorem rk_key {P : Program} {w : World} {h : Heap} {k : Key} {v : Value} (e : (mixKind P w).is k v = true) (hs : (keyD k).showable = true) (hz : (keyD k).shown.length ≤ sizeLine) : Rk P w h v (keyD k) := by
  rcases keyIs_shape (k := k) (v := v) e with ⟨i, t, rfl, rfl⟩ | ⟨x, t, rfl, rfl⟩
  · exact rk_scal (.int i t) (by simp only [keyD, PyData.shown]; exact ReprIs.int t (by simpa [keyD, PyData.showable] using hs))
  · exact rk_scal (.str x t) (by simp only [keyD, PyData.shown]; exact ReprIs.str x t (by simpa only [keyD, PyData.shown] using hz))
mutual
theorem Dq.rk (I : Inv X pins σ H s) : ∀ (d : PyData) (v : V) (u : Value), Dq N X.K H v d → RelV v u → d.showable = true → d.shown.length ≤ sizeLine → Rk X.prog X.w s.heap u d
  | .none, _, _, h, r, _, _ => by
    cases h
    cases r
    exact rk_scal .none (by simp only [PyData.shown]; exact ReprIs.none)
  | .bool b, _, _, h, r, _, _ => by
    cases h
    cases r
    exact rk_scal (.bool b) (by simp only [PyData.shown]; exact ReprIs.bool b)
  | .int i, _, _, h, r, hs, _ => by
    cases h
    obtain ⟨t, rfl⟩ := r
    exact rk_scal (.int i t) (by simp only [PyData.shown]; exact ReprIs.int t (by simpa [PyData.showable] using hs))
  | .str x, _, _, h, r, _, hz => by
    cases h
    obtain ⟨t, rfl⟩ := r
    exact rk_scal (.str x t) (by simp only [PyData.shown]; exact ReprIs.str x t (by simpa only [PyData.shown] using hz))
  | .list ds, _, _, h, r, hs, hz => by
    cases h with
    | lst _ hq ha =>
      cases r
      have hz' : (listText (PyData.shownAll ds)).length ≤ sizeLine := by simpa only [PyData.shown] using hz
      obtain ⟨its, rv, ⟨o, n, ho, hc, _, hd⟩, _⟩ := I.list hq
      exact rk_list ho hc hd (Dq.rks I ds _ its ha rv (by simpa [PyData.showable] using hs) fun t ht => Nat.le_trans (listText_mem_le ht) hz')
  | .tuple ds, _, _, h, r, hs, hz => by
    cases h with
    | tup _ hq ha =>
      cases r
      have hz' : (tupleText (PyData.shownAll ds)).length ≤ sizeLine := by simpa only [PyData.shown] using hz
      obtain ⟨its, rv, ⟨o, ho, hc, n, hd⟩, _⟩ := I.tuple hq
      exact rk_tuple ho hc hd (Dq.rks I ds _ its ha rv (by simpa [PyData.showable] using hs) fun t ht => Nat.le_trans (tupleText_mem_le ht) hz')
  | .dict ds, _, _, h, r, hs, hz => by
    cases h with
    | dct _ hq ha =>
      cases r
      have hz' : (dictText (PyData.shownKv ds)).length ≤ sizeLine := by simpa only [PyData.shown] using hz
      obtain ⟨_, hsys, vs, rv, o, es, ep, ho, hx, hd, _, hp, _⟩ := dk_rd I.hok hq
      obtain ⟨q1, q2⟩ := Dq.rkv I ds _ vs es.toList ha rv hp (by simpa [PyData.showable] using hs) fun t ht => Nat.le_trans (dictText_mem_le ht) hz'
      exact rk_dict ho hx.1 hd hsys q1 q2
theorem Dq.rks (I : Inv X pins σ H s) : ∀ (ds : List PyData) (vs : List V) (us : List Value), DqAll N X.K H vs ds → Vals vs us → PyData.showableAll ds = true → (∀ t ∈ PyData.shownAll ds, t.length ≤ sizeLine) → Rks X.prog X.w s.heap us ds
  | [], _, _, h, r, _, _ => by
    cases h
    cases r
    exact Rks.nil
  | d :: ds, _, _, h, r, hs, hz => by
    cases h with
    | cons h1 h2 =>
      cases r with
      | cons r1 r2 =>
        have hs' : d.showable = true ∧ PyData.showableAll ds = true := by simpa [PyData.showableAll] using hs
        exact Rks.cons (Dq.rk I d _ _ h1 r1 hs'.1 (hz _ (by simp only [PyData.shownAll]; exact List.mem_cons_self ..))) (Dq.rks I ds _ _ h2 r2 hs'.2 fun t ht => hz t (by simp only [PyData.shownAll]; exact List.mem_cons_of_mem _ ht))
theorem Dq.rkv (I : Inv X pins σ H s) : ∀ (ds : List (PyData × PyData)) (kvs : List (Key × V)) (vs : List (Key × Value)) (es : List DictEntry), DqKv N X.K H kvs ds → KV kvs vs → Pairs (mixKind X.prog X.w) es vs → PyData.showableKv ds = true →
    (∀ t ∈ PyData.shownKv ds, t.length ≤ sizeLine) → Rks X.prog X.w s.heap (es.map (·.key)) (ds.map (·.1)) ∧ Rks X.prog X.w s.heap (es.map (·.val)) (ds.map (·.2))
  | [], _, _, _, h, r, p, _, _ => by
    cases h
    cases r
    cases p
    exact ⟨Rks.nil, Rks.nil⟩
  | (kd, d) :: ds, _, _, _, h, r, p, hs, hz => by
    cases h with
    | cons h1 h2 =>
      cases r with
      | cons r1 r2 =>
        cases p with
        | cons p1 p2 p3 =>
          rename_i k v kvs kv0 vs0 e0 es0
          obtain ⟨ek, rv⟩ := r1
          have hs' : ((keyD k).showable = true ∧ d.showable = true) ∧ PyData.showableKv ds = true := by simpa [PyData.showableKv] using hs
          have h0 := hz _ (by simp only [PyData.shownKv]; exact List.mem_cons_self ..)
          rw [strLen_append, strLen_append] at h0
          obtain ⟨q1, q2⟩ := Dq.rkv I ds _ _ _ h2 r2 p3 hs'.2 fun t ht => hz t (by simp only [PyData.shownKv]; exact List.mem_cons_of_mem _ ht)
          have ek' : k = kv0.1 := ek
          refine ⟨Rks.cons (rk_key (by rw [ek']; exact p1) hs'.1.1 (by omega)) q1, Rks.cons ?_ q2⟩
          show Rk _ _ _ e0.val d
          rw [p2]
          exact Dq.rk I d _ _ h1 rv hs'.1.2 (by omega)
end
end
section
variable {X : Cx}
/-- repr(x) -/
def rRepr (K : PySem.W.Frag) : List V → Hp → VK → Prop := fun xs H Q => ∃ v d, xs = [v] ∧ Dq anyA K H v d ∧ d.showable = true ∧ d.shown.length ≤ sizeLine ∧ d.depth ≤ 60 ∧ Q (.str d.shown) H
theorem call_reprG (hgd : X.A.guards = some []) (hu : X.A.units + 64 < cLine) : CallR X (.builtin "repr") (rRepr X.K) := by
  intro pins s σ H xs us Q I r h
  obtain ⟨v, d, rfl, hd, hs, hz, hdep, q⟩ := h
  obtain ⟨u, rfl, rv⟩ := vals1 r
  have back : ∀ (h' : Heap) (t : Tok) (tk : Nat), (∀ b o, s.heap.get? b = some o → h'.get? b = some o) → EP X pins σ Q (.str d.shown t) { s with heap := h', toks := tk } :=
    fun h' t tk k => ⟨.str d.shown, H, I.kept k, ⟨t, rfl⟩, q⟩
  cases hd with
  | non =>
    cases rv
    simp only [PyData.shown] at back
    exact call_repr_gives (typeIs_none s) F.slot_NoneType_repr F.entry_NoneType_repr (F.args_NoneType_repr_1 _) gives_none_repr (back s.heap _ _ fun _ _ e => e)
  | bl b =>
    cases rv
    simp only [PyData.shown] at back
    exact call_repr_gives (PySem.typeIs_bool s b) F.slot_bool_repr F.entry_bool_repr (F.args_bool_repr_1 _) (gives_bool_repr b) (back s.heap _ _ fun _ _ e => e)
  | int i =>
    obtain ⟨t, rfl⟩ := rv
    have hi : i.natAbs.log2 < 1920 := by simpa [PyData.showable] using hs
    simp only [PyData.shown] at back
    exact PySem.P.repr_of_int hi (back s.heap _ _ fun _ _ e => e)
  | str x =>
    obtain ⟨t, rfl⟩ := rv
    simp only [PyData.shown] at back hz
    exact call_repr_gives (typeIs_str s x t) F.slot_str_repr F.entry_str_repr (F.args_str_repr_1 _) (gives_str_repr x t) (back s.heap _ _ fun _ _ e => e) (hx := hz)
  | @lst a ys ds _ hq ha =>
    cases rv
    have hz' : (listText (PyData.shownAll ds)).length ≤ sizeLine := by simpa only [PyData.shown] using hz
    obtain ⟨its, rv, ⟨o, n, ho, hc, _, hdd⟩, _⟩ := I.list hq
    obtain ⟨as, bs, rr, hb, hk⟩ := (Dq.rks I ds _ its ha rv (by simpa [PyData.showable] using hs) fun t ht => Nat.le_trans (listText_mem_le ht) hz').ex
    have r1 : Reads s.heap (.ref a) (.list ds) (a :: as) := .list ho hc hdd rr
    have off : a ∉ bs := not_mem_of_deeper r1 (by simp only [PyData.depth]; omega) hb
    simp only [PyData.shown] at back
    simp only [PyData.depth] at hdep
    refine call_repr_slot (by omega) ⟨o, ho, hc⟩ F.slot_list_repr.toG ?_
    cases its with
    | nil =>
      cases rr
      simp only [PyData.shownAll, listText_nil] at back
      exact call_list_repr_empty ⟨o, ho, hc⟩ ho hdd ⟨_, _, rfl, back s.heap _ _ fun _ _ e => e⟩
    | cons y l =>
      exact call_list_reprK ho hc hdd off (by simpa using hk.length_eq) (fun i y e => hk.item i y (by simpa using e)) hgd (fun b _ => Clear.nil b) (by show X.A.units + 1 + _ < _; omega) (fun _ _ e => e) (fun h' t tk k => ⟨_, _, rfl, back h' t tk k⟩) hz'
  | @tup a ys ds _ hq ha =>
    cases rv
    have hz' : (tupleText (PyData.shownAll ds)).length ≤ sizeLine := by simpa only [PyData.shown] using hz
    obtain ⟨its, rv, ⟨o, ho, hc, n, hdd⟩, _⟩ := I.tuple hq
    obtain ⟨as, bs, rr, hb, hk⟩ := (Dq.rks I ds _ its ha rv (by simpa [PyData.showable] using hs) fun t ht => Nat.le_trans (tupleText_mem_le ht) hz').ex
    have r1 : Reads s.heap (.ref a) (.tuple ds) as := .tuple ho hc hdd rr
    have off : a ∉ bs := not_mem_of_deeper r1 (by simp only [PyData.depth]; omega) hb
    simp only [PyData.shown] at back
    simp only [PyData.depth] at hdep
    refine call_repr_slot (by omega) ⟨o, ho, hc⟩ F.slot_tuple_repr ?_
    exact call_tuple_reprK ho hc hdd off hk hgd (fun b _ => Clear.nil b) (by show X.A.units + 1 + _ < _; omega) (fun _ _ e => e) (fun h' t tk k => ⟨_, _, rfl, back h' t tk k⟩) hz'
  | @dct a kvs ds _ hq ha =>
    cases rv
    have hz' : (dictText (PyData.shownKv ds)).length ≤ sizeLine := by simpa only [PyData.shown] using hz
    obtain ⟨_, hsys, vs, rv, o, es, ep, ho, hx, hdd, _, hp, _⟩ := dk_rd I.hok hq
    obtain ⟨q1, q2⟩ := Dq.rkv I ds _ vs es.toList ha rv hp (by simpa [PyData.showable] using hs) fun t ht => Nat.le_trans (dictText_mem_le ht) hz'
    obtain ⟨as, bs, rr1, hb1, hk1⟩ := q1.ex
    obtain ⟨cs, es', rr2, hb2, hk2⟩ := q2.ex
    have r1 : Reads s.heap (.ref a) (.dict ds) (a :: as ++ cs) := .dict ho hx.1 hdd rr1 rr2
    have hb : ReadAtMost s.heap (PyData.depthKv ds) (bs ++ es') := (hb1.mono (PyData.depthAll_keys_le ds)).append (hb2.mono (PyData.depthAll_vals_le ds))
    have off : a ∉ bs ++ es' := not_mem_of_deeper r1 (by simp only [PyData.depth]; omega) hb
    simp only [PyData.shown, PyData.shownKv_eq] at back
    simp only [PyData.depth] at hdep
    refine call_repr_slot (by omega) ⟨o, ho, hx.1⟩ F.slot_dict_repr ?_
    exact call_dict_reprK ho hx.1 hdd hsys off (ReprEntriesK.of_two es.toList _ _ (hk1.more_le (fun b hb => List.mem_append_left _ hb) (PyData.depthAll_keys_le ds)) (hk2.more_le (fun b hb => List.mem_append_right _ hb) (PyData.depthAll_vals_le ds)))
      hgd (fun b _ => Clear.nil b) (by show X.A.units + 1 + _ < _; omega) (fun _ _ e => e) (fun h' t tk k => ⟨_, _, rfl, back h' t tk k⟩) (by rw [← PyData.shownKv_eq]; exact hz')
end
end Wd

set_option Elab.async false
set_option linter.all false
set_option maxRecDepth 100000
set_option maxHeartbeats 4000000
/-! Exceptions of own classes, straight under one of Python's own, whose __init__ stores fields: made as values that are tracked. -/
namespace PySem
namespace WX
open PySem.W PySem.Calls PyProof.Rows PySem.HandSPX
/-- the classes of Python's own above an own error class -/
structure Tail (B newId initId : String) (bmB T : List Value) : Prop where
  F : ExcBaseFacts B newId initId bmB
  hB : T.contains (.type B) = true
  hA : T.contains (.type "AttributeError") = false
  hN : T.contains (.type "NameError") = false
  hO : T.contains (.type "object") = true
  ne : T.isEmpty = false
  pass : ∀ self, refuseLoop self "__setattr__" T = pure ()
def tlV : List Value := [.type "ValueError", .type "Exception", .type "BaseException", .type "object"]
def tlK : List Value := [.type "KeyError", .type "LookupError", .type "Exception", .type "BaseException", .type "object"]
def tlI : List Value := [.type "IndexError", .type "LookupError", .type "Exception", .type "BaseException", .type "object"]
def tlL : List Value := [.type "LookupError", .type "Exception", .type "BaseException", .type "object"]
def tlA : List Value := [.type "ArithmeticError", .type "Exception", .type "BaseException", .type "object"]
def tlO : List Value := [.type "OverflowError", .type "ArithmeticError", .type "Exception", .type "BaseException", .type "object"]
def tlR : List Value := [.type "RuntimeError", .type "Exception", .type "BaseException", .type "object"]
theorem tail_V : Tail "ValueError" "ValueError.__new__" "ValueError.__init__" tlV tlV := ⟨F.excBase_ValueError, by decide +kernel, by decide +kernel, by decide +kernel, by decide +kernel, rfl, fun self => by kernel_rfl⟩
theorem tail_K : Tail "LookupError" "LookupError.__new__" "LookupError.__init__" tlL tlK := ⟨F.excBase_LookupError, by decide +kernel, by decide +kernel, by decide +kernel, by decide +kernel, rfl, fun self => by kernel_rfl⟩
theorem tail_I : Tail "IndexError" "IndexError.__new__" "IndexError.__init__" tlI tlI := ⟨F.excBase_IndexError, by decide +kernel, by decide +kernel, by decide +kernel, by decide +kernel, rfl, fun self => by kernel_rfl⟩
theorem tail_L : Tail "LookupError" "LookupError.__new__" "LookupError.__init__" tlL tlL := ⟨F.excBase_LookupError, by decide +kernel, by decide +kernel, by decide +kernel, by decide +kernel, rfl, fun self => by kernel_rfl⟩
theorem tail_A : Tail "ArithmeticError" "ArithmeticError.__new__" "ArithmeticError.__init__" tlA tlA := ⟨F.excBase_ArithmeticError, by decide +kernel, by decide +kernel, by decide +kernel, by decide +kernel, rfl, fun self => by kernel_rfl⟩
theorem tail_O : Tail "OverflowError" "OverflowError.__new__" "OverflowError.__init__" tlO tlO := ⟨F.excBase_OverflowError, by decide +kernel, by decide +kernel, by decide +kernel, by decide +kernel, rfl, fun self => by kernel_rfl⟩
theorem tail_R : Tail "RuntimeError" "RuntimeError.__new__" "RuntimeError.__init__" tlR tlR := ⟨F.excBase_RuntimeError, by decide +kernel, by decide +kernel, by decide +kernel, by decide +kernel, rfl, fun self => by kernel_rfl⟩
section
variable {prog : Program} {w : World} {M : Model} {A : Around} {E : Value → Shared → Prop} {R : Result → Shared → Prop} {h : Heap} {g : Array GenState} {d : Drawn} {t : Nat} {os : OsState}
variable {nm q : Str} {C N : Addr} {bs T bmB : List Value} {sn : List Str} {sub : List Value} {ab : Bool} {col : Option Bool} {dd : Option Addr} {k0 k1 k2 k3 k5 : Option Value} {B newId initId : String}
theorem xc_check (Z : Tail B newId initId bmB T) {more : List Value} {kw : List (Str × Value)} {Q : Unit → Shared → Prop} (cC : h.get? C = some (excClassObj nm q C N bs T true sn sub ab col dd k0 k1 k2 k3 k5 newId))
    (fin : Q () ⟨h, g, d, t, os⟩) : wpAny M A (checkBuiltinCall newId ⟨.ref C :: more, kw⟩) Q E ⟨h, g, d, t, os⟩ := by
  have inB : (Value.ref C :: T).contains (.type B) = true := by rw [List.contains_cons, Z.hB, Bool.or_true]
  have star := Z.F.noStar
  simp only [checkBuiltinCall, Z.F.newKind, Z.F.newSplit, Z.F.newRow]
  repeat (first | refine wpAny_loadPart_at cC ?_ | (refine wpAny_isSubtype_exc cC ?_; rw [inB]) | refine wpAny_staticBase_exc cC ?_ | refine wpAny_madeBy_exc cC ?_ | simp only [bne_self_eq_false, Bool.false_eq_true, if_false] | wp_step)
  exact fin
theorem xc_new (Z : Tail B newId initId bmB T) {more : List Value} {kw : List (Str × Value)} (cC : h.get? C = some (excClassObj nm q C N bs T true sn sub ab col dd k0 k1 k2 k3 k5 newId)) (hz : more.length ≤ sizeLine)
    (fin : R (.ok (.ret (.ref (h.objs.size + 1)))) ⟨(h.push { cls := .type "tuple", data := .seq more.toArray }).push { cls := .ref C, data := .fields #[.ref h.objs.size, .none, .none, .none, .bool false, .none] }, g, d, t, os⟩) :
    codeAny (model prog w) A (.builtin newId ⟨.ref C :: more, kw⟩) R ⟨h, g, d, t, os⟩ := by
  have ends := Z.F.ends
  have inB : (Value.ref C :: T).contains (.type B) = true := by rw [List.contains_cons, Z.hB, Bool.or_true]
  have noA : (Value.ref C :: T).contains (.type "AttributeError") = false := by rw [List.contains_cons, Z.hA]; rfl
  have noN : (Value.ref C :: T).contains (.type "NameError") = false := by rw [List.contains_cons, Z.hN]; rfl
  refine codeAny_builtinAt Z.F.entry ?_
  unfold Builtin.«BaseException.__new__»
  refine wpAt_bind ?_
  show wpAt _ _ _ (stack >>= _) _ _ _
  refine wpAt_bind (wpAt_stack fun p below => wpAt_of_wpAny ?_)
  wp_walk
  refine wpAt_of_wpAny ?_
  rw [Z.F.owner]
  repeat (first | with_reducible refine wpAny_madeHere_exc Z.F.canon cC ?_ | with_reducible refine wpAny_loadPart_at cC ?_ | (with_reducible refine wpAny_isSubtype_exc cC ?_; first | rw [inB] | rw [noA] | rw [noN]) | wp_step)
  show R _ _
  rw [Heap.size_push]
  exact fin
theorem xc_type_call (Z : Tail B newId initId bmB T) {more : List Value} {kw : List (Str × Value)} {fI : Addr} {Q : Fin → Shared → Prop} (cC : h.get? C = some (excClassObj nm q C N bs T true sn sub ab col dd k0 k1 k2 k3 k5 newId))
    (li : W.Looks (model prog w) h (typeLookup (.ref C) "__init__") (some (.ref fI))) (lb : ∀ self, W.Looks (model prog w) h (bindSpecial (.ref fI) self) (.ref fI, [self])) (hz : more.length ≤ sizeLine)
    (run : codeAny (model prog w) A (.call (.ref fI) ⟨.ref (h.objs.size + 1) :: more, kw⟩)
      (fun r s' => match r with | .ok (.ret v) => v = .none ∧ Q (.done (.ret (.ref (h.objs.size + 1)))) s' | .ok _ => False | .error e => E e s') ⟨(h.push (W.kdv_tup more)).push (excO C h.objs.size), g, d, t, os⟩) :
    wpAny (model prog w) A (Builtin.«type.__call__» ⟨.ref C :: more, kw⟩) Q E ⟨h, g, d, t, os⟩ := by
  repeat (first | with_reducible refine wpAny_loadPart_at cC ?_ | with_reducible refine wpAny_madeBy_exc cC ?_ | wp_step)
  refine codeAny_call_builtin_code (Code.quiet_builtin _ Z.F.quiet) (xc_check Z cC ?_)
  refine xc_new Z cC hz ?_
  show wpAny _ _ _ _ _ _
  have kk : ∀ b o, h.get? b = some o → ((h.push (W.kdv_tup more)).push (excO C h.objs.size)).get? b = some o := fun b o e => Heap.get?_push_of_some _ (Heap.get?_push_of_some _ e)
  have cC2 := kk _ _ cC
  have at1 : ((h.push (W.kdv_tup more)).push (excO C h.objs.size)).get? (h.objs.size + 1) = some (excO C h.objs.size) := by heap_get
  have self : (Value.ref C :: T).contains (.ref C) = true := by simp
  have l1 := li.keeps kk
  have l2 := (lb (.ref (h.objs.size + 1))).keeps kk
  unfold isInstance
  repeat (first | with_reducible refine wpAny_loadPart_at at1 ?_ | (with_reducible refine wpAny_isSubtype_exc cC2 ?_; rw [self]) | wp_step)
  show wpAny _ _ (typeLookup (.ref C) _) _ _ _
  refine l1.at ?_
  refine wpAny_holding (wpAny_bind (l2.at ?_))
  refine wpAny_bind (wpAny_call (codeAny_mono run fun r s' zz => ?_))
  rcases r with e | (v | _ | _ | _) <;> first | exact zz | exact zz.elim | skip
  obtain ⟨rfl, zz⟩ := zz
  first
    | exact wpAny_pure (wpAny_pure zz)
    | (wp_walk; exact zz)
theorem xc_call (Z : Tail B newId initId bmB T) {more : List Value} {kw : List (Str × Value)} {fI : Addr} (cC : h.get? C = some (excClassObj nm q C N bs T true sn sub ab col dd k0 k1 k2 k3 k5 newId))
    (li : W.Looks (model prog w) h (typeLookup (.ref C) "__init__") (some (.ref fI))) (lb : ∀ self, W.Looks (model prog w) h (bindSpecial (.ref fI) self) (.ref fI, [self])) (hz : more.length ≤ sizeLine)
    (run : codeAny (model prog w) (A.under (.builtin "type.__call__" ⟨.ref C :: more, kw⟩)) (.call (.ref fI) ⟨.ref (h.objs.size + 1) :: more, kw⟩) (W.InitBack (h.objs.size + 1) R)
      ⟨(h.push (W.kdv_tup more)).push (excO C h.objs.size), g, d, t, os⟩) :
    codeAny (model prog w) A (.call (.ref C) ⟨more, kw⟩) R ⟨h, g, d, t, os⟩ := by
  have e1 := tc_lookup
  have e2 := tc_bind (.ref C)
  have isTy : (⟨h, g, d, t, os⟩ : Shared).TypeIs (.ref C) "type" := ⟨_, cC, rfl⟩
  refine codeAny_of_tree ?_
  show wpAny _ _ (callAny (.ref C) _) _ _ _
  repeat (any_goals (first | assumption | with_reducible refine wpAny_loadPart_at cC ?_ | wp_step))
  refine ⟨rfl, ?_⟩
  refine codeAny_call_builtin_at (Code.quiet_builtin _ (by decide +kernel)) entry_typeCall (wpAny_check_type_call_sub cC (xc_type_call Z cC li lb hz ?_))
  refine codeAny_mono run fun r s' zz => ?_
  rcases r with e | (v | _ | _ | _) <;> exact zz
end
section
open Builtin Builtin.ObjectAttr
variable {prog : Program} {w : World} {A : Around} {R : Result → Shared → Prop} {hp : Heap} {g : Array GenState} {d : Drawn} {t : Nat} {os : OsState} {B newId initId : String} {bmB T : List Value}
/-- self.name = v, the first field -/
theorem xc_store1 (Z : Tail B newId initId bmB T) {K : W.Frag} {name nm qn : Str} {tk : Tok} {v : Value} {x C N : Addr} {fv : Array Value} {bs sb : List Value} {sn : List Str} {ab : Bool} {col : Option Bool} {del : Bool}
    (inK : K.In hp) (ox : hp.get? x = some { cls := .ref C, data := .fields fv })
    (cd : W.clsIn K C = some { name := nm, bases := bs, mro := .ref C :: T, ns := N, qualname := qn, hasDict := true, slotNames := sn, subclasses := sb, abstract := ab, collection := col, hasDel := del }) (off : W.findIn K (.ref C) name = some none)
    (fin : ∀ h' tk' dx, (∀ b o, b ≠ x → hp.get? b = some o → h'.get? b = some o) → hp.objs.size ≤ dx → dx ≠ x → h'.get? x = some { cls := .ref C, dict := some dx, data := .fields fv } →
      h'.Ns1 dx (fun y => if y = name then some v else none) → R (.ok (.ret .none)) ⟨h', g, d, tk', os⟩) :
    codeAny (model prog w) A (.call (.builtin "object.__setattr__") ⟨[.ref x, .str name tk, v], []⟩) R ⟨hp, g, d, t, os⟩ := by
  have at0 : W.InstAt hp x { cls := .ref C, data := .fields fv } C none := ⟨ox, rfl, rfl, trivial⟩
  have SF := F.store_object
  have hob : (Value.ref C :: T).contains (.type "object") = true := by rw [List.contains_cons, Z.hO, Bool.or_true]
  have ne : x ≠ hp.objs.size := Nat.ne_of_lt (Heap.lt_size ox)
  have isObj : W.Looks (model prog w) hp (isInstance (.ref x) (.type "object")) true := at0.type.andThen (W.looks_mroIn inK (by unfold W.mroIn; rw [cd, Option.bind_some, if_neg (by simp), hob]))
  refine codeAny_call_builtin SF.slot.plain SF.entry (@W.check_slot (model prog w) _ _ ⟨hp, g, d, t, os⟩ "object.__setattr__" "object" "__setattr__" (.ref x) [.str name tk, v] [] _ SF.kind SF.split isObj (SF.args (.ref x) (.str name tk) v) ?_)
  have l1 : W.Looks (model prog w) hp (mroOf (.ref C)) (.ref C :: T) := (W.looks_clsIn inK cd).andThen .now
  have l2 : W.Looks (model prog w) hp (storeTaker? none) none := .now
  have l3 := W.looks_clsIn (M := model prog w) inK cd
  rw [W.osa_eq, refuse_eq]
  refine wpAny_bind (wpAny_bind (at0.type.at (wpAny_bind (l1.at ?_))))
  rw [refuseLoop_ref, Z.pass]
  refine wpAny_pure (wpAny_bind (at0.type.at (wpAny_bind ((W.looks_findIn inK off).at (wpAny_bind (l2.at ?_))))))
  show wpAny _ _ (storeInOwnDict (.ref x) (.ref C) (.str name tk) name v false) _ _ _
  unfold storeInOwnDict ownDictForStores
  repeat (first | with_reducible refine store_in_new ?_ ?_ | with_reducible refine wpAny_loadPart_at ox ?_ | with_reducible refine l3.at ?_ | wp_step)
  · exact ⟨_, #[], _, (Heap.get?_update_ne _ _ _ _ ne.symm).trans (Heap.get?_push_at rfl rfl), rfl, fun e he => absurd he (by simp), fun _ => rfl⟩
  · intro h' tk' hn' same
    have ox2 : (hp.push { cls := .type "dict", data := .dict #[] }).get? x = some { cls := .ref C, data := .fields fv } := Heap.get?_push_of_some _ ox
    refine fin h' tk' hp.objs.size (fun b o hb ho => ?_) (Nat.le_refl _) ne.symm ?_ hn'
    · exact (same.2 b (Nat.ne_of_lt (Heap.lt_size ho))).trans ((Heap.get?_update_ne _ _ _ _ hb).trans (Heap.get?_push_of_some _ ho))
    · exact (same.2 x ne).trans (Heap.get?_update_self _ ox2 rfl)
/-- a further field -/
theorem xc_store2 (Z : Tail B newId initId bmB T) {K : W.Frag} {name nm qn : Str} {tk : Tok} {v : Value} {x C N dx : Addr} {fv : Array Value} {bs sb : List Value} {sn nl : List Str} {ab : Bool} {col : Option Bool} {del : Bool} {m0 : Str → Option Value}
    (inK : K.In hp) (ox : hp.get? x = some { cls := .ref C, dict := some dx, data := .fields fv }) (hns : hp.Ns1 dx m0) (hw : Within m0 nl) (hz : nl.length ≤ 1000)
    (cd : W.clsIn K C = some { name := nm, bases := bs, mro := .ref C :: T, ns := N, qualname := qn, hasDict := true, slotNames := sn, subclasses := sb, abstract := ab, collection := col, hasDel := del }) (off : W.findIn K (.ref C) name = some none)
    (fin : ∀ h' tk', (∀ b o, b ≠ dx → hp.get? b = some o → h'.get? b = some o) → h'.Ns1 dx (fun y => if y = name then some v else m0 y) → R (.ok (.ret .none)) ⟨h', g, d, tk', os⟩) :
    codeAny (model prog w) A (.call (.builtin "object.__setattr__") ⟨[.ref x, .str name tk, v], []⟩) R ⟨hp, g, d, t, os⟩ := by
  obtain ⟨oD, esD, epD, hoD, hdD, _⟩ := hns.count hw
  have at0 : W.InstAt hp x { cls := .ref C, dict := some dx, data := .fields fv } C (some oD) := ⟨ox, rfl, rfl, hoD⟩
  have SF := F.store_object
  have hob : (Value.ref C :: T).contains (.type "object") = true := by rw [List.contains_cons, Z.hO, Bool.or_true]
  have isObj : W.Looks (model prog w) hp (isInstance (.ref x) (.type "object")) true := at0.type.andThen (W.looks_mroIn inK (by unfold W.mroIn; rw [cd, Option.bind_some, if_neg (by simp), hob]))
  refine codeAny_call_builtin SF.slot.plain SF.entry (@W.check_slot (model prog w) _ _ ⟨hp, g, d, t, os⟩ "object.__setattr__" "object" "__setattr__" (.ref x) [.str name tk, v] [] _ SF.kind SF.split isObj (SF.args (.ref x) (.str name tk) v) ?_)
  have l1 : W.Looks (model prog w) hp (mroOf (.ref C)) (.ref C :: T) := (W.looks_clsIn inK cd).andThen .now
  have l2 : W.Looks (model prog w) hp (storeTaker? none) none := .now
  have l3 := W.looks_clsIn (M := model prog w) inK cd
  rw [W.osa_eq, refuse_eq]
  refine wpAny_bind (wpAny_bind (at0.type.at (wpAny_bind (l1.at ?_))))
  rw [refuseLoop_ref, Z.pass]
  refine wpAny_pure (wpAny_bind (at0.type.at (wpAny_bind ((W.looks_findIn inK off).at (wpAny_bind (l2.at ?_))))))
  show wpAny _ _ (storeInOwnDict (.ref x) (.ref C) (.str name tk) name v false) _ _ _
  unfold storeInOwnDict ownDictForStores
  repeat (first | with_reducible refine OEX.store_in_old hns hw hz ?_ | with_reducible refine wpAny_loadPart_at ox ?_ | with_reducible refine l3.at ?_ | wp_step)
  intro h' tk' hn' same
  exact fin h' tk' (fun b o hb ho => (same.2 b hb).trans ho) hn'
end
end WX
end PySem

namespace Wd
open PySem PySem.Spec PyProof.Rows L2
/-- what the written part says of an own error class at C (fields' names never found on the class) -/
structure Xc (K : PySem.W.Frag) (C : Addr) (B newId initId : String) (bmB T : List Value) : Prop where
  Z : PySem.WX.Tail B newId initId bmB T
  cls : ∃ nm q N bs sn sub ab col dd k0 k1 k2 k3 k5, K.lookup C = some (excClassObj nm q C N bs T true sn sub ab col dd k0 k1 k2 k3 k5 newId)
  sa : PySem.W.findIn K (.ref C) "__setattr__" = some (some (.builtin "object.__setattr__"))
  ga : PySem.W.findIn K (.ref C) "__getattribute__" = some (some (.builtin "BaseException.__getattribute__"))
  gg : PySem.W.findIn K (.ref C) "__getattr__" = some none
  exC : PySem.W.subIn K (.ref C) (.type "BaseException") = some true
  tyC : PySem.W.typeIn K (.ref C) = some (.type "type")
  kC : PySem.W.keepIn K (.ref C) = true
theorem Xc.cd {K : PySem.W.Frag} {C : Addr} {B newId initId : String} {bmB T : List Value} (c : Xc K C B newId initId bmB T) :
    ∃ nm bs N q sn sub ab col, PySem.W.clsIn K C = some { name := nm, bases := bs, mro := .ref C :: T, ns := N, qualname := q, hasDict := true, slotNames := sn, subclasses := sub, abstract := ab, collection := col, hasDel := false } := by
  obtain ⟨nm, q, N, bs, sn, sub, ab, col, dd, k0, k1, k2, k3, k5, hC⟩ := c.cls
  exact ⟨nm, bs, N, q, sn, sub, ab, col, by unfold PySem.W.clsIn; rw [hC] <;> rfl⟩
section
variable {X : Cx} {pins : List (Addr × Obj)} {σ : L2.St} {H : Hp} {s : Shared} {a C dx : Addr} {f : Str} {y : V} {u : Value} {fs : List (Str × V)} {Q : Unit → Shared → Prop} {E : Value → Shared → Prop} {A : Around} {B newId initId : String} {bmB T : List Value}
theorem xst_new (c : Xc X.K C B newId initId bmB T) (I : Inv X pins σ H s) (e : H a = some (exo a C none)) (off : PySem.W.findIn X.K (.ref C) f = some none) (ry : RelV y u)
    (k : ∀ dx s', H dx = none → dx ≠ a → Inv X pins σ (upd (upd H dx (exd dx [(f, y)])) a (exo a C (some dx))) s' → Q () s') : wpAny (model X.prog X.w) A (setAttr (.ref a) f u) Q E s := by
  obtain ⟨nm, bs, N, q, sn, sub, ab, col, cd⟩ := c.cd
  obtain ⟨t1, ho⟩ := exo_at I.hok e
  obtain ⟨hp, g, d, t, os⟩ := s
  refine PySem.W.set_plain I.kIn (ox := { cls := .ref C, dict := none, data := .fields #[.ref t1, .none, .none, .none, .bool false, .none] }) (od := none) ⟨ho, rfl, rfl, trivial⟩ c.sa ?_
  refine PySem.WX.xc_store1 c.Z I.kIn ho cd off (fun h' tk' dx kp dn dne hx hn => ?_)
  have free : H dx = none := I.hok.fresh dn
  have old : ∀ {b : Addr} {o : Obj}, hp.get? b = some o → b ≠ dx := fun {b o} z => Nat.ne_of_lt (Nat.lt_of_lt_of_le (Heap.lt_size z) dn)
  have na : ∀ {b : Addr}, H b = none → b ≠ a := fun {b} n z => by
    rw [z, e] at n
    cases n
  have U : Un X.fs [] H (upd (upd H dx (exd dx [(f, y)])) a (exo a C (some dx))) hp h' := {
    keep := fun b o z n _ _ => kp b o (na n) z
    slot := fun b o z n _ _ => ⟨o.slots, kp b o (na n) z⟩
    free := fun b o z n _ => by
      rw [upd_ne (na n), upd_ne (old z)]
      exact n
    there := fun b o z _ => by
      by_cases hb : b = a
      · exact ⟨_, by rw [hb]; exact hx⟩
      · exact ⟨o, kp b o hb z⟩
    tups := fun b xs z => by
      rw [upd_ne (at_ne e z exo_tup), upd_ne (ne_of_none z free)]
      exact z
    frzs := fun b o v z => by
      rw [upd_ne (at_ne e z exo_frz), upd_ne (ne_of_none z free)]
      exact z
    tbls := fun b ps z => ⟨#[], by rw [upd_ne (at_ne e z exo_tbl), upd_ne (ne_of_none z free), z]; simp⟩ }
  refine k dx _ free dne (I.un (t' := tk') U fun b o z => ?_)
  by_cases hb : b = a
  · subst hb
    rw [upd_same] at z
    cases z
    exact exo_ok hx
  · rw [upd_ne hb] at z
    by_cases hd : b = dx
    · subst hd
      rw [upd_same] at z
      cases z
      exact exd_ok hn (relO_put (fs := []) ry fun g => True.intro)
    · rw [upd_ne hd] at z
      refine (I.hok b o z).stay (fun c' v hc zz => kp c' v ?_ zz) (fun c' hc => ?_) (fun c' xs hc => ?_)
      · rcases hc with hc | hc
        · rw [hc]
          exact hb
        · exact at_ne e hc exo_own
      · rw [upd_ne (at_ne e hc exo_own), upd_ne (ne_of_none hc free)]
        exact hc
      · rw [upd_ne (at_ne e hc exo_tup), upd_ne (ne_of_none hc free)]
        exact hc
theorem xst_old (c : Xc X.K C B newId initId bmB T) (I : Inv X pins σ H s) (e : H a = some (exo a C (some dx))) (ed : H dx = some (exd dx fs)) (hl : fs.length ≤ 900) (off : PySem.W.findIn X.K (.ref C) f = some none) (ry : RelV y u)
    (k : ∀ s', Inv X pins σ (upd H dx (exd dx ((f, y) :: fs))) s' → Q () s') : wpAny (model X.prog X.w) A (setAttr (.ref a) f u) Q E s := by
  obtain ⟨nm, bs, N, q, sn, sub, ab, col, cd⟩ := c.cd
  obtain ⟨t1, ho⟩ := exo_at I.hok e
  obtain ⟨mA, hns, rel⟩ := exd_at I.hok ed
  have hw := within_of rel
  obtain ⟨hp, g, d, t, os⟩ := s
  obtain ⟨oD, _, _, hoD, _, _⟩ := hns.count hw
  refine PySem.W.set_plain I.kIn (ox := { cls := .ref C, dict := some dx, data := .fields #[.ref t1, .none, .none, .none, .bool false, .none] }) (od := some oD) ⟨ho, rfl, rfl, hoD⟩ c.sa ?_
  refine PySem.WX.xc_store2 c.Z I.kIn ho hns hw (by rw [List.length_map]; omega) cd off (fun h' tk' kp hn => ?_)
  have there : ∃ o, h'.get? dx = some o := by
    obtain ⟨o, _, _, e', _⟩ := hn
    exact ⟨o, e'⟩
  exact k _ (I.write (t' := tk') (x := dx) (e := dx) (o := exd dx ((f, y) :: fs)) (by rw [ed]; exact True.intro) (.inl rfl) kp there (exd_ok hn (relO_put ry rel)))
/-- self.f = e within an own error's __init__ -/
def tXst (K : PySem.W.Frag) (f : Str) (to te : TE) : TS := fun D σ H => te σ H fun y H1 => to σ H1 fun x H2 => ∃ (a C : Addr) (B newId initId : String) (bmB T : List Value), x = .ref a ∧ Xc K C B newId initId bmB T ∧ PySem.W.findIn K (.ref C) f = some none ∧
  ((H2 a = some (exo a C none) ∧ ∀ dx, H2 dx = none → dx ≠ a → D.nx σ (upd (upd H2 dx (exd dx [(f, y)])) a (exo a C (some dx)))) ∨
    ∃ (dx : Addr) (fs : List (Str × V)), H2 a = some (exo a C (some dx)) ∧ H2 dx = some (exd dx fs) ∧ fs.length ≤ 900 ∧ D.nx σ (upd H2 dx (exd dx ((f, y) :: fs))))
theorem ps_xst {o e : Expr} {to te : TE} {p' pos : Pos} (ho : PE X o to) (he : PE X e te) (hs : swapsWith e (some (.Attribute o f p')) pos.line X.env = pure false := by rfl) : PS X (.Assign [.Attribute o f p'] e pos) (tXst X.K f to te) := by
  refine ⟨fun pins s σ H D I h => ?_⟩
  refine plainObj_wpAny_Assign_Attribute (thn (he.run pins s σ H _ I h) fun v s1 ⟨y, H1, I1, r1, q1⟩ => thn (ho.run pins s1 σ H1 _ I1 q1) fun u s2 ⟨x, H2, I2, r2, a, C, B, newId, initId, bmB, T, ex, c, off, q⟩ => ?_) hs
  subst ex
  obtain rfl : u = Value.ref a := r2
  rcases q with ⟨ea, q⟩ | ⟨dx, fs, ea, ed, hl, q⟩
  · exact xst_new c I2 ea off r1 fun dx s' n ne J => ⟨σ, _, J, q dx n ne⟩
  · exact xst_old c I2 ea ed hl off r1 fun s' J => ⟨σ, _, J, q⟩
end

/-- C(e, .., k = v, ..) of an own error class with an __init__ -/
def tXmake (C : Addr) (n m : Nat) (sp : Sp) (gV : List V → List V → List V) (t tk : TA) : TE := fun σ H Q => t σ H fun vs H1 => tk σ H1 fun zs H2 => vs.length = n ∧ zs.length = m ∧
  ∀ a, H2 a = none → sp (gV (.ref a :: vs) zs) (upd H2 a (exo a C none)) (fun v H3 => v = .non ∧ Q (.ref a) H3) E0
section
variable {X : Cx} {k n : Nat} {fI C : Addr} {fd : FuncData} {ps ks : List Str} {sp : Sp} {x : Str} {p pos : Pos} {e : Expr} {es : List Expr} {kws : List Keyword} {t tk : TA} {g : List Value → List Value → List Value} {gV : List V → List V → List V} {B newId initId : String} {bmB T : List Value}
theorem run_xmake {pins : List (Addr × Obj)} {σ : L2.St} {H : Hp} {s : Shared} {Q : VK} {us ws : List Value} {vs zs : List V} (c : Xc X.K C B newId initId bmB T) (iC : PySem.W.findIn X.K (.ref C) "__init__" = some (some (.ref fI)))
    (tI : PySem.W.typeIn X.K (.ref fI) = some (.type "function")) (F : FnOk X.prog X.w X.K X.mg X.base CX0 k fI fd ps sp) (hr : Room (k + 1) X.A) (hb : KBn X.K fd ps (n + 1) ks g gV) (I : Inv X pins σ H s) (r : Vals vs us) (rz : Vals zs ws)
    (l1 : vs.length = n) (l2 : zs.length = ks.length) (hn : n ≤ 1000) (h : ∀ a, H a = none → sp (gV (.ref a :: vs) zs) (upd H a (exo a C none)) (fun v H3 => v = .non ∧ Q (.ref a) H3) E0) :
    wpAny (model X.prog X.w) X.A (call (.ref C) us (ks.zip ws)) (EP X pins σ Q) X.xe s := by
  obtain ⟨nm, q, N, bs, sn, sub, ab, col, dd, k0, k1, k2, k3, k5, hC⟩ := c.cls
  obtain ⟨hp, gn, dr, tk0, os⟩ := s
  have up : hp.objs.size ≤ hp.objs.size + 1 := Nat.le_succ _
  have hq := h (hp.objs.size + 1) (I.hok.fresh up)
  have kk : ∀ b o, hp.get? b = some o → ((hp.push (PySem.W.kdv_tup us)).push (PySem.HandSPX.excO C hp.objs.size)).get? b = some o := fun b o e => Heap.get?_push_of_some _ (Heap.get?_push_of_some _ e)
  have at1 : ((hp.push (PySem.W.kdv_tup us)).push (PySem.HandSPX.excO C hp.objs.size)).get? (hp.objs.size + 1) = some (PySem.HandSPX.excO C hp.objs.size) := by heap_get
  have J : Inv X pins σ (upd H (hp.objs.size + 1) (exo (hp.objs.size + 1) C none)) ⟨(hp.push (PySem.W.kdv_tup us)).push (PySem.HandSPX.excO C hp.objs.size), gn, dr, tk0, os⟩ :=
    I.laid (t' := tk0) (a := hp.objs.size + 1) (o := exo (hp.objs.size + 1) C none) (h' := (hp.push (PySem.W.kdv_tup us)).push (PySem.HandSPX.excO C hp.objs.size)) kk up (exo_ok at1)
  have r1 : Vals (V.ref (hp.objs.size + 1) :: vs) (Value.ref (hp.objs.size + 1) :: us) := .cons rfl r
  have r2 := hb.rel r1 rz
  have e1 : (Value.ref (hp.objs.size + 1) :: us).length = n + 1 := r1.length.symm.trans (congrArg Nat.succ l1)
  have e2 : ws.length = ks.length := rz.length.symm.trans l2
  have hus : us.length ≤ sizeLine := by
    rw [← Paired.length r, sizeLine_eq]
    omega
  refine wpAny_call (PySem.WX.xc_call c.Z (I.kIn _ _ hC) (PySem.W.looks_findIn I.kIn iC) (fun self => PySem.W.bind_fn I.kIn self tI) hus
    (codeAny_mono (F.run _ X.stack _ _ ⟨Value.ref (hp.objs.size + 1) :: us, ks.zip ws⟩ (g (Value.ref (hp.objs.size + 1) :: us) ws) _ _ E0 (hr.make C us (ks.zip ws)) (J.env0.make C us (ks.zip ws)) (hb.to _ (Value.ref (hp.objs.size + 1) :: us) ws J.kIn e1 e2) r2 hq) fun rr z hq' => ?_))
  match rr, hq' with
  | .error e, hq' => exact pass0 pins σ _ _ e z J hq'
  | .ok (.ret u), hq' =>
    obtain ⟨v, H', J3, rv, ev, q3⟩ := J.after hq'
    subst ev
    exact ⟨rv, V.ref (hp.objs.size + 1), H', J3, rfl, q3⟩
  | .ok .next, hq' => exact False.elim hq'
  | .ok .brk, hq' => exact False.elim hq'
  | .ok .cont, hq' => exact False.elim hq'
theorem pe_xmake (c : Xc X.K C B newId initId bmB T) (iC : PySem.W.findIn X.K (.ref C) "__init__" = some (some (.ref fI))) (tI : PySem.W.typeIn X.K (.ref fI) = some (.type "function")) (F : FnOk X.prog X.w X.K X.mg X.base CX0 k fI fd ps sp) (hr : Room (k + 1) X.A)
    (hb : KBn X.K fd ps (n + 1) [] g gV) (hn : n ≤ 1000) (hg : Gl X x) (hm : X.mg x = some (.ref C)) (ha : PA X (e :: es) t) (hdb : (x == ("__debug__" : Str)) = false := by decide)
    (he : starEach (e :: es) X.env = (false, eval e X.env) :: starEach es X.env := by rfl) (hpl : (backTo pos (starEach es X.env)).any (·.1) = false := by rfl) :
    PE X (.Call (.Name x p) (e :: es) [] pos) (tXmake C n 0 sp gV t tNil) := by
  refine ⟨fun pins s σ H Q I h => ?_⟩
  refine wpAny_Call_Name_kw (ld_glob I hg hm ?_ hdb)
  refine PySem.W.callWith_K (h₀ := X.base) I.ok.mod.kin c.kC (thn (ha.run pos pins s σ H _ I h) fun us s1 ⟨vs, H1, I1, r, l1, _, q⟩ => ⟨I1.kIn, ?_⟩) he hpl
  exact run_xmake (ks := []) (ws := []) (zs := []) c iC tI F hr hb I1 r .nil l1 rfl hn q
theorem pe_xmakeK (c : Xc X.K C B newId initId bmB T) (iC : PySem.W.findIn X.K (.ref C) "__init__" = some (some (.ref fI))) (tI : PySem.W.typeIn X.K (.ref fI) = some (.type "function")) (F : FnOk X.prog X.w X.K X.mg X.base CX0 k fI fd ps sp) (hr : Room (k + 1) X.A)
    (hb : KBn X.K fd ps 1 ks g gV) (hg : Gl X x) (hm : X.mg x = some (.ref C)) (hkw : PK X kws tk) (hdb : (x == ("__debug__" : Str)) = false := by decide) (hall : (backToKw pos (keywordEach kws X.env)).all (·.1.isSome) = true := by rfl)
    (hks : (backToKw pos (keywordEach kws X.env)).filterMap (·.1) = ks := by rfl) (hpl : ((backTo pos (starEach [] X.env)).any (·.1) || (backToKw pos (keywordEach kws X.env)).any (·.1.isNone)) = false := by rfl) :
    PE X (.Call (.Name x p) [] kws pos) (tXmake C 0 ks.length sp gV tNil tk) := by
  refine ⟨fun pins s σ H Q I h => ?_⟩
  refine wpAny_Call_Name_kw (ld_glob I hg hm ?_ hdb)
  refine PySem.W.callWith_KW0 (h₀ := X.base) I.ok.mod.kin c.kC hall ?_ hpl
  refine thn (hkw.run pos pins s σ H _ I h) fun ws s2 ⟨zs, H2, I2, rz, _, l2, q2⟩ => ⟨I2.kIn, ?_⟩
  rw [hks]
  exact run_xmake (n := 0) (vs := []) (us := []) c iC tI F hr hb I2 .nil rz rfl l2 (by decide) q2
end
end Wd
namespace PySem.W
open PySem PySem.Spec PySem.Calls PyProof.Rows
section
variable {prog : Program} {w : World} {A : Around} {E : Value → Shared → Prop} {s : Shared} {K : Frag} {x D : Addr} {ox : Obj} {od : Option Obj}
theorem xfind_cls {g a : Value} {nm : Str} (hc : (clsIn K D).isSome = true) (f1 : findIn K (.ref D) nm = some (some a)) (f2 : specialIn K a "__get__" = some (some g)) (f3 : takesIn K a = some true) : findObj K D od nm = some (.bind g a) := by
  obtain ⟨cd, hc⟩ := Option.isSome_iff_exists.mp hc
  unfold findObj
  rw [hc, Option.bind_some, f1, Option.bind_some]
  cases od <;> simp [f2, f3]
end
end PySem.W

set_option Elab.async false
set_option linter.all false
set_option maxRecDepth 100000
set_option maxHeartbeats 4000000
/-! Tracked exceptions: their fields read, isinstance of them, such without an __init__ made. -/
namespace PySem.W
open PySem PySem.Spec PySem.Calls PyProof.Rows
section
variable {prog : Program} {w : World} {A : Around} {E : Value → Shared → Prop} {s : Shared} {K : Frag} {x D : Addr} {ox : Obj} {od : Option Obj}
/-- what the class at D says so that its instances may be asked by isinstance -/
structure XIs (K : Frag) (D : Addr) : Prop where
  hga : findIn K (.ref D) "__getattribute__" = some (some (.builtin "BaseException.__getattribute__"))
  hgt : findIn K (.ref D) "__getattr__" = some none
  hsub : subIn K (.ref D) (.type "BaseException") = some true
  hdct : hasDictIn K D = true
  ha : findIn K (.ref D) "__class__" = some (some (.builtin "object.__class__"))
  hn : specialIn K (.builtin "object.__class__") "__get__" = some (some (.builtin "getset_descriptor.__get__"))
  htk : takesIn K (.builtin "object.__class__") = some true
  hm : mroIn K D (.type "object") = some true
theorem x_class {Q : Option Value → Shared → Prop} (Z : XIs K D) (inK : K.In s.heap) (I : InstAt s.heap x ox D od) (fin : Q (some (.ref D)) { s with toks := s.toks + 1 }) : wpAny (model prog w) A (getAttr? (.ref x) "__class__") Q E s := by
  have found : findObj K D od "__class__" = some (.bind (.builtin "getset_descriptor.__get__") (.builtin "object.__class__")) := xfind_cls (by obtain ⟨cd, hc, _⟩ := any_some Z.hdct; rw [hc]; rfl) Z.ha Z.hn Z.htk
  obtain ⟨hp, g, d, t, os⟩ := s
  have l0 := I.type (M := model prog w)
  have l1 := looks_findIn (M := model prog w) inK Z.hga
  have l2 := looks_findIn (M := model prog w) inK Z.hgt
  have l3 := looks_find (M := model prog w) inK I found
  have isB : Looks (model prog w) hp (isInstance (.ref x) (.type "BaseException")) true := l0.andThen (looks_subIn inK Z.hsub)
  have q0 : (false && onTheHeap (Value.builtin "BaseException.__getattribute__")) = false := rfl
  have q2 : (Value.builtin "BaseException.__getattribute__" == Value.builtin "object.__getattribute__") = false := by decide +kernel
  have q1 : (onTheHeap (Value.ref D) && Value.builtin "BaseException.__getattribute__" == Value.builtin "object.__getattribute__") = false := by rw [q2]; rfl
  unfold getAttr? getAttrBy? getAttrBy
  refine wpAny_bind (wpAny_mkText (wpAny_bind (wpAny_attempt (wpAny_holding (wpAny_bind (l0.at (wpAny_bind (l1.at ?_))))))))
  show wpAny _ _ (if (onTheHeap (Value.ref D) && Value.builtin "BaseException.__getattribute__" == Value.builtin "object.__getattribute__") = true then _ else _) _ _ _
  rw [q1, if_neg Bool.false_ne_true]
  unfold getAttrByItsOwn hookBefore
  refine wpAny_bind ?_
  rw [if_pos (show onTheHeap (Value.ref D) = true from rfl)]
  refine l2.at ?_
  refine wpAny_bind (wpAny_attempt (wpAny_holding ?_))
  unfold callGetattribute
  rw [q0, if_neg Bool.false_ne_true]
  unfold boundAndCalled
  rw [PySem.F.excAttr_ValueError.ga.bind (.ref x)]
  refine wpAny_bind (wpAny_pure ?_)
  show wpAny _ _ (call (.builtin "BaseException.__getattribute__") [.ref x, .str "__class__" t]) _ _ _
  refine wpAny_call (codeAny_call_builtin PySem.F.excAttr_ValueError.ga.plain PySem.F.entry_bexc_ga ?_)
  refine @check_slot (model prog w) _ _ ⟨hp, g, d, t + 1, os⟩ "BaseException.__getattribute__" "BaseException" "__getattribute__" (.ref x) [.str "__class__" t] [] _ (by decide +kernel) (by decide +kernel) isB (PySem.F.args_bexc_ga (.ref x) (.str "__class__" t)) ?_
  unfold Builtin.«object.__getattribute__»
  refine wpAny_bind (wpAny_of_eq (a := ((Value.ref x : Value), [Value.str "__class__" t])) (by first | rfl | (simp only [slotArgs]; rfl)) ?_)
  refine wpAny_bind (wpAny_pure (wpAny_bind (l0.at (wpAny_bind (l3.at ?_)))))
  show wpAny _ _ (holding [Value.builtin "object.__class__"] (call (.builtin "getset_descriptor.__get__") [.builtin "object.__class__", .ref x, .ref D]) >>= ret) _ _ _
  refine wpAny_bind (wpAny_holding (wpAny_call (class_get (s := ⟨hp, g, d, t + 1, os⟩) (ox := ox) (od := od) inK I Z.hm ?_)))
  refine wpAny_pure ?_
  show wpAny _ _ (handedOut (.ref D)) _ _ _
  rw [handedOut_of (v := .ref D) rfl]
  first
    | exact wpAny_pure (wpAny_pure fin)
    | exact wpAny_pure fin
    | exact wpAny_pure (wpAny_bind (wpAny_pure (wpAny_pure fin)))
theorem x_kit (Z : XIs K D) : KitX K (.ref x) (.ref D) (fun h => ∃ ox od, InstAt h x ox D od) where
  ty := fun _ _ _ ⟨_, _, I⟩ => I.type
  it := fun _ _ inK _ => by
    obtain ⟨cdD, hcD, _⟩ := any_some Z.hdct
    unfold clsIn at hcD
    split at hcD
    · rename_i c' d' cd' sl' ho
      intro A' Q' E' s' k q
      unfold isType loadHead
      exact wpAny_bind (wpAny_loadPart (k _ _ (inK _ _ ho)) (wpAny_pure q))
    · cases hcD
  ne := fun h tp dd its n sl inK htp => by
    obtain ⟨cdD, hcD, _⟩ := any_some Z.hdct
    refine Bool.eq_false_iff.mpr fun q => ?_
    have e : D = tp := Value.ref.inj (beq_iff_eq.mp q)
    subst e
    unfold clsIn at hcD
    split at hcD
    · rename_i c' d' cd' sl' ho
      have z := (inK _ _ ho).symm.trans htp
      cases z
    · cases hcD
  ca := fun inK ⟨_, _, I⟩ k => x_class Z inK I k
end
end PySem.W
namespace Wd
open PySem PySem.Spec PyProof.Rows L2
/-- a caught exception that is kept -/
def exk (a C : Addr) (d : Option Addr) : HO := .ext fun h => ∃ (oe : Obj) (vs : Array Value), h.get? a = some oe ∧ oe.cls = .ref C ∧ oe.dict = d ∧ oe.data = .fields vs
theorem exk_ok {P : Program} {w : World} {H : Hp} {h : Heap} {a C : Addr} {d : Option Addr} {oe : Obj} {vs : Array Value} (e : h.get? a = some oe) (c : oe.cls = .ref C) (dd : oe.dict = d) (f : oe.data = .fields vs) : ObjOk P w H h a (exk a C d) :=
  ⟨⟨oe, vs, e, c, dd, f⟩, ⟨oe, e⟩, fun _ _ ⟨o, v, q, r⟩ k => ⟨o, v, k o q, r⟩⟩
/-- at a: an exception of the class at C, its dict d -/
def ExAt (H : Hp) (a C : Addr) (d : Option Addr) : Prop := H a = some (exo a C d) ∨ H a = some (exk a C d) ∨ (d = none ∧ H a = some (ExO (.ref C) a))
def ExD (H : Hp) (dx : Addr) (fs : List (Str × V)) : Prop := H dx = some (exd dx fs) ∨ H dx = some (.xd fs)
theorem ExAt.get {P : Program} {w : World} {H : Hp} {h : Heap} {a C : Addr} {d : Option Addr} (x : ExAt H a C d) (ok : HOk P w H h) : ∃ (oe : Obj) (vs : Array Value), h.get? a = some oe ∧ oe.cls = .ref C ∧ oe.dict = d ∧ oe.data = .fields vs := by
  rcases x with x | x | ⟨rfl, x⟩
  · obtain ⟨t1, e⟩ := exo_at ok x
    exact ⟨_, _, e, rfl, rfl, rfl⟩
  · have z : ObjOk P w H h a (.ext _) := ok a _ x
    exact z.1
  · have z : ObjOk P w H h a (.ext _) := ok a _ x
    obtain ⟨oe, vs, e, zc, dd, _⟩ := z.1
    exact ⟨oe, vs, e, zc.1, zc.2, dd⟩
theorem ExD.get {P : Program} {w : World} {H : Hp} {h : Heap} {dx : Addr} {fs : List (Str × V)} (x : ExD H dx fs) (ok : HOk P w H h) : ∃ mA, h.Ns1 dx mA ∧ ∀ f, RelO (fs.lookup f) (mA f) := by
  rcases x with x | x
  · exact exd_at ok x
  · exact ok dx _ x
def ExF (H : Hp) (d : Option Addr) : Prop := d = none ∨ ∃ dx fs, d = some dx ∧ ExD H dx fs
section
variable {X : Cx} {pins : List (Addr × Obj)} {σ : L2.St} {H : Hp} {s : Shared}
theorem inst_of {a C : Addr} {d : Option Addr} (I : Inv X pins σ H s) (x : ExAt H a C d) (f : ExF H d) : ∃ ox od, PySem.W.InstAt s.heap a ox C od := by
  obtain ⟨oe, vs, e, c, dd, dt⟩ := x.get I.hok
  rcases f with rfl | ⟨dx, fs, rfl, y⟩
  · exact ⟨oe, none, e, c, by unfold PySem.W.notCls; rw [dt] <;> rfl, by rw [dd]; exact True.intro⟩
  · obtain ⟨mA, hns, _⟩ := y.get I.hok
    obtain ⟨od, ho, _⟩ := lookIn_ns hns
    exact ⟨oe, some od, e, c, by unfold PySem.W.notCls; rw [dt] <;> rfl, by rw [dd]; exact ho⟩
end
/-- isinstance(e, C), e a tracked exception -/
def rIsX (K : PySem.W.Frag) : List V → Hp → VK → Prop := fun xs H Q => ∃ (a C : Addr) (d : Option Addr) (c : V) (u : Value) (b : Bool), xs = [.ref a, c] ∧ PySem.W.XIs K C ∧ ExAt H a C d ∧ ExF H d ∧ ClsV c u ∧ PySem.W.kitOne K (.ref C) u = some b ∧ Q (.bl b) H
def rIsXT (K : PySem.W.Frag) : List V → Hp → VK → Prop := fun xs H Q => ∃ (a C : Addr) (d : Option Addr) (tp : Addr) (cs : List V) (us : List Value) (b : Bool), xs = [.ref a, .ref tp] ∧ H tp = some (.tup cs) ∧ Paired ClsV cs us ∧ PySem.W.XIs K C ∧ ExAt H a C d ∧ ExF H d ∧
  PySem.W.kitAny K (.ref C) us = some b ∧ Q (.bl b) H
/-- e.f, e a tracked exception -/
def tXattr (K : PySem.W.Frag) (te : TE) (n : Str) : TE := fun σ H Q => te σ H fun x H1 => ∃ (a C dx : Addr) (fs : List (Str × V)) (v : V), x = .ref a ∧ PySem.W.XIs K C ∧ ExAt H1 a C (some dx) ∧ ExD H1 dx fs ∧ PySem.W.findIn K (.ref C) n = some none ∧ fs.lookup n = some v ∧ Q v H1
section
variable {X : Cx}
theorem call_isX : CallR X (.builtin "isinstance") (rIsX X.K) := by
  intro pins s σ H xs us Q I r h
  obtain ⟨a, C, d, c, u, b, rfl, Z, x, f, k, e, q⟩ := h
  obtain ⟨u1, u2, rfl, r1, r2⟩ := vals2 r
  have e2 := k.eq r2
  subst e2
  cases (show u1 = Value.ref a from r1)
  exact PySem.W.kia_one (PySem.W.x_kit Z) I.kIn (inst_of I x f) e (fun z => nomatch z) fun tk => ⟨.bl b, H, I.tok tk, rfl, q⟩
theorem call_isXT : CallR X (.builtin "isinstance") (rIsXT X.K) := by
  intro pins s σ H xs us Q I r h
  obtain ⟨a, C, d, tp, cs, ws, b, rfl, hT, k, Z, x, f, e, q⟩ := h
  obtain ⟨u1, u2, rfl, r1, r2⟩ := vals2 r
  cases (show u2 = Value.ref tp from r2)
  cases (show u1 = Value.ref a from r1)
  obtain ⟨_, its, rv, o, h1, h2, n, h3⟩ := (show ObjOk X.prog X.w H s.heap tp (.tup cs) from I.hok tp _ hT)
  have e3 := ClsV.all k rv
  subst e3
  obtain ⟨oc, od, dt, sl⟩ := o
  simp only at h2 h3
  subst h2 h3
  exact PySem.W.kia_tup (PySem.W.x_kit Z) I.kIn (inst_of I x f) h1 e (fun z => nomatch z) fun tk => ⟨.bl b, H, I.tok tk, rfl, q⟩
/-- isinstance of anything that is told, by one class or a tuple of them -/
def rIsAny (K : PySem.W.Frag) : List V → Hp → VK → Prop := fun xs H Q => (rIsX K xs H Q ∨ rIsXT K xs H Q) ∨ (rIsi K xs H Q ∨ rIsiT K xs H Q)
theorem call_isAny : CallR X (.builtin "isinstance") (rIsAny X.K) := by
  intro pins s σ H xs us Q I r h
  rcases h with (h | h) | (h | h)
  · exact call_isX pins s σ H xs us Q I r h
  · exact call_isXT pins s σ H xs us Q I r h
  · exact call_isi pins s σ H xs us Q I r h
  · exact call_isiT pins s σ H xs us Q I r h
theorem pe_xattr {e : Expr} {te : TE} {n : Str} {pos : Pos} (he : PE X e te) (hb : attributeBase e n X.env (eval e X.env) = eval e X.env := by rfl) : PE X (.Attribute e n pos) (tXattr X.K te n) := by
  refine ⟨fun pins s σ H Q I h => ?_⟩
  refine attr_of hb (thn (he.run pins s σ H _ I h) fun u s1 ⟨y, H1, I1, rx, a, C, dx, fs, v, ey, Z, x, dct, off, l, q⟩ => ?_)
  subst ey
  obtain rfl : u = Value.ref a := rx
  obtain ⟨oe, vs, e1, c1, d1, t1⟩ := x.get I1.hok
  obtain ⟨mA, hns, hr⟩ := dct.get I1.hok
  obtain ⟨od, ho, hl⟩ := lookIn_ns hns
  obtain ⟨u2, hu, ru⟩ := RelO.some_of (v := v) (o := mA n) (by rw [← l]; exact hr n)
  have J : PySem.W.InstAt s1.heap a oe C (some od) := ⟨e1, c1, by unfold PySem.W.notCls; rw [t1] <;> rfl, by rw [d1]; exact ho⟩
  exact HandSPX.exc_get I1.kIn J Z.hga Z.hgt Z.hsub (PySem.W.findObj_own Z.hdct off rfl (by rw [hl, hu])) (handed_of ru) ⟨v, H1, I1.tok _, ru, q⟩
/-- C() of an own error class without __init__ -/
theorem pe_xmake0 {C : Addr} {bmB : List Value} {B newId initId : String} {x : Str} {p pos : Pos} (F : ExcBaseFacts B newId initId bmB) (q : PySem.W.excIn X.K C bmB newId = true) (gC : X.mg x = some (.ref C)) (kC : PySem.W.keepIn X.K (.ref C) = true) (hg : Gl X x)
    (hdb : (x == ("__debug__" : Str)) = false := by decide) : PE X (.Call (.Name x p) [] [] pos) (fun _ H Q => ∀ a, H a = none → Q (.ref a) (upd H a (ExO (.ref C) a))) := by
  refine ⟨fun pins s σ H Q I h => ?_⟩
  refine wpAny_Call_Name_kw (ld_glob I hg gC ?_ hdb)
  refine PySem.W.callWith_K0 I.kIn kC ?_
  show wpAny _ _ (call (.ref C) []) _ _ _
  obtain ⟨bm, N, nm, qn, bs, hdct, sn, sub, ab, col, dd, k0, k1, k2, k3, k5, mN, hC, hN, hni, T⟩ := exc_obj I.kIn q
  refine wpAny_call_exc_subT F T hC hN hni (fun h' a hm => ?_) (by show 0 ≤ sizeLine; omega)
  have hn : H a = none := I.hok.gone hm.new
  obtain ⟨t, ht, _, _⟩ := hm.there
  exact ⟨.ref a, upd H a (ExO (.ref C) a), I.laidN hm.keeps hm.new hn (exO_ok ht ⟨rfl, rfl⟩ rfl rfl rfl (show 4 < 6 by decide)), rfl, h a hn⟩
end
end Wd

set_option Elab.async false
set_option linter.all false
set_option maxRecDepth 100000
set_option maxHeartbeats 4000000
/-! Own error classes of one field, of two, of none: what a text's class must show, what making one answers. -/
namespace Wd
open PySem PySem.Spec PyProof.Rows L2
/-- at a: an exception of the class at C with these fields -/
def ExOne (H : Hp) (a C : Addr) (fs : List (Str × V)) : Prop := ∃ d, ExAt H a C d ∧ ((fs = [] ∧ d = none) ∨ ∃ dx, d = some dx ∧ ExD H dx fs)
theorem ExAt.mono {H H' : Hp} {a C : Addr} {d : Option Addr} (s : Same H H') (x : ExAt H a C d) : ExAt H' a C d := by
  rcases x with x | x | ⟨e, x⟩
  · exact .inl (s _ _ x)
  · exact .inr (.inl (s _ _ x))
  · exact .inr (.inr ⟨e, s _ _ x⟩)
theorem ExD.mono {H H' : Hp} {dx : Addr} {fs : List (Str × V)} (s : Same H H') (x : ExD H dx fs) : ExD H' dx fs := by
  rcases x with x | x
  · exact .inl (s _ _ x)
  · exact .inr (s _ _ x)
theorem ExOne.mono {H H' : Hp} {a C : Addr} {fs : List (Str × V)} (s : Same H H') (x : ExOne H a C fs) : ExOne H' a C fs := by
  obtain ⟨d, x, y⟩ := x
  refine ⟨d, x.mono s, ?_⟩
  rcases y with y | ⟨dx, e, y⟩
  · exact .inl y
  · exact .inr ⟨dx, e, y.mono s⟩
theorem ExOne.f {H : Hp} {d : Option Addr} {fs : List (Str × V)} (y : (fs = [] ∧ d = none) ∨ ∃ dx, d = some dx ∧ ExD H dx fs) : ExF H d := by
  rcases y with ⟨_, e⟩ | ⟨dx, e, y⟩
  · exact .inl e
  · exact .inr ⟨dx, _, e, y⟩
/-- all but what stands at p is as it was -/
def Kp (p : Addr) (H H' : Hp) : Prop := ∀ a o, a ≠ p → H a = some o → H' a = some o
theorem Kp.refl (p : Addr) (H : Hp) : Kp p H H := fun _ _ _ h => h
theorem Kp.trans {p : Addr} {H H1 H2 : Hp} (a : Kp p H H1) (b : Kp p H1 H2) : Kp p H H2 := fun x o n h => b x o n (a x o n h)
theorem Kp.at {p : Addr} {H H1 : Hp} {o : HO} (a : Kp p H H1) : Kp p H (upd H1 p o) := fun x u n h => by rw [upd_ne n]; exact a x u n h
theorem Kp.new {p l : Addr} {H H1 : Hp} {o : HO} (a : Kp p H H1) (h : H1 l = none) : Kp p H (upd H1 l o) := fun x u n e => by rw [upd_ne (ne_of_none (a x u n e) h)]; exact a x u n e
theorem Kp.same {p : Addr} {H H1 H2 : Hp} (a : Kp p H H1) (s : Same H1 H2) : Kp p H H2 := fun x o n h => s x o (a x o n h)
theorem same_new {H : Hp} {l : Addr} {o : HO} (n : H l = none) : Same H (upd H l o) := fun b u e => by rw [upd_ne (ne_of_none e n)]; exact e
/-- a new thing at a, changed while it is made: all that was known stays -/
theorem Kp.born {a : Addr} {o : HO} {H H' : Hp} (k : Kp a (upd H a o) H') (n : H a = none) : Same H H' := fun b u e => by
  have ne : b ≠ a := ne_of_none e n
  exact k b u ne (by rw [upd_ne ne]; exact e)
/-! ### the promises of an __init__ -/
def XcE (K : PySem.W.Frag) (C : Addr) : Prop := ∃ (B newId initId : String) (bmB T : List Value), Xc K C B newId initId bmB T
def spI1 (K : PySem.W.Frag) (f : Str) : Sp := fun vs H Q _ => ∃ (a C : Addr) (y : V), vs = [.ref a, y] ∧ XcE K C ∧ PySem.W.findIn K (.ref C) f = some none ∧ H a = some (exo a C none) ∧ ∀ H', Kp a H H' → ExOne H' a C [(f, y)] → Q .non H'
def spI2 (K : PySem.W.Frag) (f g : Str) : Sp := fun vs H Q _ => ∃ (a C : Addr) (y z : V), vs = [.ref a, y, z] ∧ XcE K C ∧ PySem.W.findIn K (.ref C) f = some none ∧ PySem.W.findIn K (.ref C) g = some none ∧ H a = some (exo a C none) ∧
  ∀ H', Kp a H H' → ExOne H' a C [(g, z), (f, y)] → Q .non H'
/-- what making one answers -/
theorem x1_ans {K : PySem.W.Frag} {C : Addr} {f : Str} {y : V} {H : Hp} {Q : VK} (c : XcE K C) (off : PySem.W.findIn K (.ref C) f = some none) (k : ∀ a H', H a = none → Same H H' → ExOne H' a C [(f, y)] → Q (.ref a) H') :
    ∀ a, H a = none → spI1 K f [.ref a, y] (upd H a (exo a C none)) (fun v H3 => v = .non ∧ Q (.ref a) H3) E0 :=
  fun a n => ⟨a, C, y, rfl, c, off, upd_same, fun H' kp x => ⟨rfl, k a H' n (kp.born n) x⟩⟩
theorem x2_ans {K : PySem.W.Frag} {C : Addr} {f g : Str} {y z : V} {H : Hp} {Q : VK} (c : XcE K C) (off : PySem.W.findIn K (.ref C) f = some none) (off2 : PySem.W.findIn K (.ref C) g = some none) (k : ∀ a H', H a = none → Same H H' → ExOne H' a C [(g, z), (f, y)] → Q (.ref a) H') :
    ∀ a, H a = none → spI2 K f g [.ref a, y, z] (upd H a (exo a C none)) (fun v H3 => v = .non ∧ Q (.ref a) H3) E0 :=
  fun a n => ⟨a, C, y, z, rfl, c, off, off2, upd_same, fun H' kp x => ⟨rfl, k a H' n (kp.born n) x⟩⟩
structure XA where
  C : Addr
  fI : Addr
  fd : FuncData
section
variable (P : Program) (w : World) (K : PySem.W.Frag) (mg : Str → Option Value) (base : Heap)
structure XOne (x : Str) (q : XA) (f : Str) (B newId initId : String) (bmB T : List Value) : Prop where
  gC : mg x = some (.ref q.C)
  xc : Xc K q.C B newId initId bmB T
  xi : PySem.W.XIs K q.C
  off : PySem.W.findIn K (.ref q.C) f = some none
  iC : PySem.W.findIn K (.ref q.C) "__init__" = some (some (.ref q.fI))
  tI : PySem.W.typeIn K (.ref q.fI) = some (.type "function")
  F : FnOk P w K mg base CX0 1 q.fI q.fd ["self", f] (spI1 K f)
  bp : KBn K q.fd ["self", f] 2 [] (fun us _ => us) (fun vs _ => vs)
  bk : KBn K q.fd ["self", f] 1 [f] (fun us ws => us ++ ws) (fun vs zs => vs ++ zs)
structure XTwo (x : Str) (q : XA) (f g : Str) (B newId initId : String) (bmB T : List Value) : Prop where
  gC : mg x = some (.ref q.C)
  xc : Xc K q.C B newId initId bmB T
  xi : PySem.W.XIs K q.C
  off : PySem.W.findIn K (.ref q.C) f = some none
  off2 : PySem.W.findIn K (.ref q.C) g = some none
  iC : PySem.W.findIn K (.ref q.C) "__init__" = some (some (.ref q.fI))
  tI : PySem.W.typeIn K (.ref q.fI) = some (.type "function")
  F : FnOk P w K mg base CX0 1 q.fI q.fd ["self", f, g] (spI2 K f g)
  bp : KBn K q.fd ["self", f, g] 3 [] (fun us _ => us) (fun vs _ => vs)
  bk : KBn K q.fd ["self", f, g] 1 [g, f] (fun us ws => us ++ ws.reverse) (fun vs zs => vs ++ zs.reverse)
structure XNil (x : Str) (q : XA) (B newId initId : String) (bmB T : List Value) : Prop where
  gC : mg x = some (.ref q.C)
  xc : Xc K q.C B newId initId bmB T
  xi : PySem.W.XIs K q.C
  kC : PySem.W.keepIn K (.ref q.C) = true
  eF : ExcBaseFacts B newId initId bmB
  eq : PySem.W.excIn K q.C bmB newId = true
end
/-! ### isinstance among own error classes -/
theorem kit_self {K : PySem.W.Frag} {C : Addr} : PySem.W.kitOne K (.ref C) (.ref C) = some true := by
  unfold PySem.W.kitOne
  rw [if_pos (by simp)]
theorem Xc.sub {K : PySem.W.Frag} {C : Addr} {B newId initId : String} {bmB T : List Value} (c : Xc K C B newId initId bmB T) (v : Value) : PySem.W.subIn K (.ref C) v = some ((Value.ref C :: T).contains v) := by
  obtain ⟨nm, bs, N, q, sn, sub, ab, col, cd⟩ := c.cd
  show PySem.W.mroIn K C v = _
  unfold PySem.W.mroIn
  rw [cd, Option.bind_some, if_neg (by simp)]
def isTyV : Value → Bool
  | .type _ => true
  | _ => false
def noRefs (T : List Value) : Bool := T.all isTyV
theorem noRefs_ref {a : Addr} : ∀ {T : List Value}, noRefs T = true → T.contains (.ref a) = false
  | [], _ => rfl
  | v :: T, h => by
    have h' : isTyV v = true ∧ noRefs T = true := by
      have z : (isTyV v && T.all isTyV) = true := h
      rw [Bool.and_eq_true] at z
      exact z
    rw [List.contains_cons, noRefs_ref h'.2]
    cases v <;> first | rfl | exact absurd h'.1 Bool.false_ne_true
theorem kit_two {K : PySem.W.Frag} {C D : Addr} {B newId initId B' newId' initId' : String} {bmB T bmB' T' : List Value} (c : Xc K C B newId initId bmB T) (d : Xc K D B' newId' initId' bmB' T') (nr : noRefs T = true) :
    PySem.W.kitOne K (.ref C) (.ref D) = some (decide (C = D)) := by
  by_cases e : C = D
  · subst e
    rw [decide_eq_true rfl]
    exact kit_self
  · obtain ⟨nm, bs, N, q, sn, sub, ab, col, cd⟩ := d.cd
    have ne : (Value.ref C == Value.ref D) = false := beq_eq_false_iff_ne.mpr fun z => e (Value.ref.inj z)
    have ne2 : (Value.ref D == Value.ref C) = false := beq_eq_false_iff_ne.mpr fun z => e (Value.ref.inj z).symm
    unfold PySem.W.kitOne PySem.W.kitCls
    rw [if_neg (by rw [ne]; simp)]
    show (if ((PySem.W.clsIn K D).isSome && PySem.W.typeIn K (Value.ref D) == some (Value.type "type")) = true then PySem.W.subIn K (Value.ref C) (Value.ref D) else none) = _
    rw [d.tyC, cd, if_pos (by simp), c.sub, List.contains_cons, ne2, noRefs_ref nr, decide_eq_false e]
    rfl
theorem kit_base {K : PySem.W.Frag} {C : Addr} {B newId initId : String} {bmB T : List Value} (c : Xc K C B newId initId bmB T) {S : String} (m : PySem.W.kitMeta S = true) : PySem.W.kitOne K (.ref C) (.type S) = some (T.contains (.type S)) := by
  unfold PySem.W.kitOne PySem.W.kitCls
  rw [if_neg (by simp)]
  show (if PySem.W.kitMeta S = true then PySem.W.subIn K (Value.ref C) (Value.type S) else none) = _
  rw [if_pos m, c.sub, List.contains_cons]
  rfl
theorem nr_V : noRefs PySem.WX.tlV = true := rfl
theorem nr_K : noRefs PySem.WX.tlK = true := rfl
theorem nr_I : noRefs PySem.WX.tlI = true := rfl
theorem nr_L : noRefs PySem.WX.tlL = true := rfl
theorem nr_A : noRefs PySem.WX.tlA = true := rfl
theorem nr_O : noRefs PySem.WX.tlO = true := rfl
theorem nr_R : noRefs PySem.WX.tlR = true := rfl
end Wd

set_option Elab.async false
set_option linter.all false
set_option maxRecDepth 100000
set_option maxHeartbeats 4000000
namespace Wd
open PySem PySem.Spec PyProof.Rows L2
def topS (i : Nat) : Stmt := PySem.Challenge.pw_weighdoors_k04_refusals_by_their_kinds.main.body.getD i (.Pass ⟨0, 0, 0, 0⟩)
structure CA where
  NoText : XA
  NoDeed : XA
  NoWay : XA
  NoGoal : XA
  NoTurning : XA
  NoName : XA
  NoReply : XA
  NoNumber : XA
  NoMoment : XA
  NoPlan : XA
  NoMore : XA
  NotRising : XA
  Unlike : XA
  TooMany : XA
  NoBack : XA
  NotMet : XA
/-! ### what the top has written -/
section
variable (P : Program) (w : World) (K : PySem.W.Frag) (mg : Str → Option Value) (base : Heap)
structure Txt (c : CA) : Prop where
  b_len : mg "len" = none
  b_abs : mg "abs" = none
  b_list : mg "list" = none
  b_range : mg "range" = none
  b_min : mg "min" = none
  b_isinstance : mg "isinstance" = none
  b_repr : mg "repr" = none
  b_ValueError : mg "ValueError" = none
  b_LookupError : mg "LookupError" = none
  b_KeyError : mg "KeyError" = none
  b_IndexError : mg "IndexError" = none
  b_ArithmeticError : mg "ArithmeticError" = none
  b_OverflowError : mg "OverflowError" = none
  b_ZeroDivisionError : mg "ZeroDivisionError" = none
  b_RuntimeError : mg "RuntimeError" = none
  b_NotImplementedError : mg "NotImplementedError" = none
  b_TypeError : mg "TypeError" = none
  x_NoText : XOne P w K mg base "NoText" c.NoText "row" "ValueError" "ValueError.__new__" "ValueError.__init__" PySem.WX.tlV PySem.WX.tlV
  x_NoDeed : XOne P w K mg base "NoDeed" c.NoDeed "why" "ValueError" "ValueError.__new__" "ValueError.__init__" PySem.WX.tlV PySem.WX.tlV
  x_NoWay : XTwo P w K mg base "NoWay" c.NoWay "at" "why" "ValueError" "ValueError.__new__" "ValueError.__init__" PySem.WX.tlV PySem.WX.tlV
  x_NoGoal : XOne P w K mg base "NoGoal" c.NoGoal "at" "ValueError" "ValueError.__new__" "ValueError.__init__" PySem.WX.tlV PySem.WX.tlV
  x_NoTurning : XOne P w K mg base "NoTurning" c.NoTurning "at" "ValueError" "ValueError.__new__" "ValueError.__init__" PySem.WX.tlV PySem.WX.tlV
  x_NoName : XOne P w K mg base "NoName" c.NoName "asked" "LookupError" "LookupError.__new__" "LookupError.__init__" PySem.WX.tlL PySem.WX.tlK
  x_NoReply : XOne P w K mg base "NoReply" c.NoReply "asked" "LookupError" "LookupError.__new__" "LookupError.__init__" PySem.WX.tlL PySem.WX.tlK
  x_NoNumber : XOne P w K mg base "NoNumber" c.NoNumber "asked" "IndexError" "IndexError.__new__" "IndexError.__init__" PySem.WX.tlI PySem.WX.tlI
  x_NoMoment : XOne P w K mg base "NoMoment" c.NoMoment "asked" "IndexError" "IndexError.__new__" "IndexError.__init__" PySem.WX.tlI PySem.WX.tlI
  x_NoPlan : XNil K mg "NoPlan" c.NoPlan "LookupError" "LookupError.__new__" "LookupError.__init__" PySem.WX.tlL PySem.WX.tlL
  x_NoMore : XOne P w K mg base "NoMore" c.NoMore "word" "LookupError" "LookupError.__new__" "LookupError.__init__" PySem.WX.tlL PySem.WX.tlL
  x_NotRising : XOne P w K mg base "NotRising" c.NotRising "name" "ArithmeticError" "ArithmeticError.__new__" "ArithmeticError.__init__" PySem.WX.tlA PySem.WX.tlA
  x_Unlike : XNil K mg "Unlike" c.Unlike "ArithmeticError" "ArithmeticError.__new__" "ArithmeticError.__init__" PySem.WX.tlA PySem.WX.tlA
  x_TooMany : XOne P w K mg base "TooMany" c.TooMany "most" "OverflowError" "OverflowError.__new__" "OverflowError.__init__" PySem.WX.tlO PySem.WX.tlO
  x_NoBack : XOne P w K mg base "NoBack" c.NoBack "at" "RuntimeError" "RuntimeError.__new__" "RuntimeError.__init__" PySem.WX.tlR PySem.WX.tlR
  x_NotMet : XNil K mg "NotMet" c.NotMet "RuntimeError" "RuntimeError.__new__" "RuntimeError.__init__" PySem.WX.tlR PySem.WX.tlR
  nodup : [c.NoText.C, c.NoDeed.C, c.NoWay.C, c.NoGoal.C, c.NoTurning.C, c.NoName.C, c.NoReply.C, c.NoNumber.C, c.NoMoment.C, c.NoPlan.C, c.NoMore.C, c.NotRising.C, c.Unlike.C, c.TooMany.C, c.NoBack.C, c.NotMet.C].Nodup
end
abbrev s_NoText___init__ : Stmt := inClass (topS 1) 0
theorem sc_NoText___init__ : FnScope ["self", "row"] ["self", "row"] (C8.fnScope s_NoText___init__) := ⟨rfl, rfl, rfl, by decide +kernel, rfl, by decide +kernel, by decide +kernel⟩
abbrev s_NoDeed___init__ : Stmt := inClass (topS 2) 0
theorem sc_NoDeed___init__ : FnScope ["self", "why"] ["self", "why"] (C8.fnScope s_NoDeed___init__) := ⟨rfl, rfl, rfl, by decide +kernel, rfl, by decide +kernel, by decide +kernel⟩
abbrev s_NoWay___init__ : Stmt := inClass (topS 3) 0
theorem sc_NoWay___init__ : FnScope ["self", "at", "why"] ["self", "at", "why"] (C8.fnScope s_NoWay___init__) := ⟨rfl, rfl, rfl, by decide +kernel, rfl, by decide +kernel, by decide +kernel⟩
abbrev s_NoGoal___init__ : Stmt := inClass (topS 4) 0
theorem sc_NoGoal___init__ : FnScope ["self", "at"] ["self", "at"] (C8.fnScope s_NoGoal___init__) := ⟨rfl, rfl, rfl, by decide +kernel, rfl, by decide +kernel, by decide +kernel⟩
abbrev s_NoTurning___init__ : Stmt := inClass (topS 5) 0
theorem sc_NoTurning___init__ : FnScope ["self", "at"] ["self", "at"] (C8.fnScope s_NoTurning___init__) := ⟨rfl, rfl, rfl, by decide +kernel, rfl, by decide +kernel, by decide +kernel⟩
abbrev s_NoName___init__ : Stmt := inClass (topS 6) 0
theorem sc_NoName___init__ : FnScope ["self", "asked"] ["self", "asked"] (C8.fnScope s_NoName___init__) := ⟨rfl, rfl, rfl, by decide +kernel, rfl, by decide +kernel, by decide +kernel⟩
abbrev s_NoReply___init__ : Stmt := inClass (topS 7) 0
theorem sc_NoReply___init__ : FnScope ["self", "asked"] ["self", "asked"] (C8.fnScope s_NoReply___init__) := ⟨rfl, rfl, rfl, by decide +kernel, rfl, by decide +kernel, by decide +kernel⟩
abbrev s_NoNumber___init__ : Stmt := inClass (topS 8) 0
theorem sc_NoNumber___init__ : FnScope ["self", "asked"] ["self", "asked"] (C8.fnScope s_NoNumber___init__) := ⟨rfl, rfl, rfl, by decide +kernel, rfl, by decide +kernel, by decide +kernel⟩
abbrev s_NoMoment___init__ : Stmt := inClass (topS 9) 0
theorem sc_NoMoment___init__ : FnScope ["self", "asked"] ["self", "asked"] (C8.fnScope s_NoMoment___init__) := ⟨rfl, rfl, rfl, by decide +kernel, rfl, by decide +kernel, by decide +kernel⟩
abbrev s_NoMore___init__ : Stmt := inClass (topS 11) 0
theorem sc_NoMore___init__ : FnScope ["self", "word"] ["self", "word"] (C8.fnScope s_NoMore___init__) := ⟨rfl, rfl, rfl, by decide +kernel, rfl, by decide +kernel, by decide +kernel⟩
abbrev s_NotRising___init__ : Stmt := inClass (topS 12) 0
theorem sc_NotRising___init__ : FnScope ["self", "name"] ["self", "name"] (C8.fnScope s_NotRising___init__) := ⟨rfl, rfl, rfl, by decide +kernel, rfl, by decide +kernel, by decide +kernel⟩
abbrev s_TooMany___init__ : Stmt := inClass (topS 14) 0
theorem sc_TooMany___init__ : FnScope ["self", "most"] ["self", "most"] (C8.fnScope s_TooMany___init__) := ⟨rfl, rfl, rfl, by decide +kernel, rfl, by decide +kernel, by decide +kernel⟩
abbrev s_NoBack___init__ : Stmt := inClass (topS 15) 0
theorem sc_NoBack___init__ : FnScope ["self", "at"] ["self", "at"] (C8.fnScope s_NoBack___init__) := ⟨rfl, rfl, rfl, by decide +kernel, rfl, by decide +kernel, by decide +kernel⟩
section
variable {P : Program} {w : World} {K : PySem.W.Frag} {mg : Str → Option Value} {base : Heap}
theorem i_NoText {f : Addr} {fd : FuncData} (F : C8.Fun K "__init__" "NoText.__init__" s_NoText___init__ f fd) : FnOk P w K mg base CX0 1 f fd ["self", "row"] (spI1 K "row") := by
  refine C8.fn0 F sc_NoText___init__ (fun vs H Q E h => ?_) (fun cdv A outer s H vs Q E hr h => ?_)
  · obtain ⟨a, C, y, rfl, _⟩ := h
    rfl
  · obtain ⟨a, C, y, rfl, ⟨B, n1, n2, bm, T, c⟩, off, e, q⟩ := h
    refine ⟨_, (pss_one (ps_xst (pv 0) (pv 1))), ?_⟩
    exact ⟨y, rfl, .ref a, rfl, a, C, B, n1, n2, bm, T, rfl, c, off, .inl ⟨e, fun dx nd nda => q _ (Kp.at ((Kp.refl a H).new nd)) ⟨some dx, .inl upd_same, .inr ⟨dx, rfl, .inl (by rw [upd_ne nda, upd_same])⟩⟩⟩⟩
theorem i_NoDeed {f : Addr} {fd : FuncData} (F : C8.Fun K "__init__" "NoDeed.__init__" s_NoDeed___init__ f fd) : FnOk P w K mg base CX0 1 f fd ["self", "why"] (spI1 K "why") := by
  refine C8.fn0 F sc_NoDeed___init__ (fun vs H Q E h => ?_) (fun cdv A outer s H vs Q E hr h => ?_)
  · obtain ⟨a, C, y, rfl, _⟩ := h
    rfl
  · obtain ⟨a, C, y, rfl, ⟨B, n1, n2, bm, T, c⟩, off, e, q⟩ := h
    refine ⟨_, (pss_one (ps_xst (pv 0) (pv 1))), ?_⟩
    exact ⟨y, rfl, .ref a, rfl, a, C, B, n1, n2, bm, T, rfl, c, off, .inl ⟨e, fun dx nd nda => q _ (Kp.at ((Kp.refl a H).new nd)) ⟨some dx, .inl upd_same, .inr ⟨dx, rfl, .inl (by rw [upd_ne nda, upd_same])⟩⟩⟩⟩
theorem i_NoWay {f : Addr} {fd : FuncData} (F : C8.Fun K "__init__" "NoWay.__init__" s_NoWay___init__ f fd) : FnOk P w K mg base CX0 1 f fd ["self", "at", "why"] (spI2 K "at" "why") := by
  refine C8.fn0 F sc_NoWay___init__ (fun vs H Q E h => ?_) (fun cdv A outer s H vs Q E hr h => ?_)
  · obtain ⟨a, C, y, z, rfl, _⟩ := h
    rfl
  · obtain ⟨a, C, y, z, rfl, ⟨B, n1, n2, bm, T, c⟩, off, off2, e, q⟩ := h
    refine ⟨_, (pss_cons (ps_xst (pv 0) (pv 1))
  (pss_one (ps_xst (pv 0) (pv 2)))), ?_⟩
    refine ⟨y, rfl, .ref a, rfl, a, C, B, n1, n2, bm, T, rfl, c, off, .inl ⟨e, fun dx nd nda => ?_⟩⟩
    have ea : (upd (upd H dx (exd dx [("at", y)])) a (exo a C (some dx))) a = some (exo a C (some dx)) := upd_same
    have ed : (upd (upd H dx (exd dx [("at", y)])) a (exo a C (some dx))) dx = some (exd dx [("at", y)]) := by rw [upd_ne nda, upd_same]
    have k1 : Kp a H (upd (upd H dx (exd dx [("at", y)])) a (exo a C (some dx))) := Kp.at ((Kp.refl a H).new nd)
    refine ⟨z, rfl, .ref a, rfl, a, C, B, n1, n2, bm, T, rfl, c, off2, .inr ⟨dx, _, ea, ed, (by show 1 ≤ 900; decide), ?_⟩⟩
    refine q _ (fun b o nb hb => ?_) ⟨some dx, .inl (by rw [upd_ne nda.symm]; exact ea), .inr ⟨dx, rfl, .inl upd_same⟩⟩
    rw [upd_ne (ne_of_none hb nd)]
    exact k1 b o nb hb
theorem i_NoGoal {f : Addr} {fd : FuncData} (F : C8.Fun K "__init__" "NoGoal.__init__" s_NoGoal___init__ f fd) : FnOk P w K mg base CX0 1 f fd ["self", "at"] (spI1 K "at") := by
  refine C8.fn0 F sc_NoGoal___init__ (fun vs H Q E h => ?_) (fun cdv A outer s H vs Q E hr h => ?_)
  · obtain ⟨a, C, y, rfl, _⟩ := h
    rfl
  · obtain ⟨a, C, y, rfl, ⟨B, n1, n2, bm, T, c⟩, off, e, q⟩ := h
    refine ⟨_, (pss_one (ps_xst (pv 0) (pv 1))), ?_⟩
    exact ⟨y, rfl, .ref a, rfl, a, C, B, n1, n2, bm, T, rfl, c, off, .inl ⟨e, fun dx nd nda => q _ (Kp.at ((Kp.refl a H).new nd)) ⟨some dx, .inl upd_same, .inr ⟨dx, rfl, .inl (by rw [upd_ne nda, upd_same])⟩⟩⟩⟩
theorem i_NoTurning {f : Addr} {fd : FuncData} (F : C8.Fun K "__init__" "NoTurning.__init__" s_NoTurning___init__ f fd) : FnOk P w K mg base CX0 1 f fd ["self", "at"] (spI1 K "at") := by
  refine C8.fn0 F sc_NoTurning___init__ (fun vs H Q E h => ?_) (fun cdv A outer s H vs Q E hr h => ?_)
  · obtain ⟨a, C, y, rfl, _⟩ := h
    rfl
  · obtain ⟨a, C, y, rfl, ⟨B, n1, n2, bm, T, c⟩, off, e, q⟩ := h
    refine ⟨_, (pss_one (ps_xst (pv 0) (pv 1))), ?_⟩
    exact ⟨y, rfl, .ref a, rfl, a, C, B, n1, n2, bm, T, rfl, c, off, .inl ⟨e, fun dx nd nda => q _ (Kp.at ((Kp.refl a H).new nd)) ⟨some dx, .inl upd_same, .inr ⟨dx, rfl, .inl (by rw [upd_ne nda, upd_same])⟩⟩⟩⟩
theorem i_NoName {f : Addr} {fd : FuncData} (F : C8.Fun K "__init__" "NoName.__init__" s_NoName___init__ f fd) : FnOk P w K mg base CX0 1 f fd ["self", "asked"] (spI1 K "asked") := by
  refine C8.fn0 F sc_NoName___init__ (fun vs H Q E h => ?_) (fun cdv A outer s H vs Q E hr h => ?_)
  · obtain ⟨a, C, y, rfl, _⟩ := h
    rfl
  · obtain ⟨a, C, y, rfl, ⟨B, n1, n2, bm, T, c⟩, off, e, q⟩ := h
    refine ⟨_, (pss_one (ps_xst (pv 0) (pv 1))), ?_⟩
    exact ⟨y, rfl, .ref a, rfl, a, C, B, n1, n2, bm, T, rfl, c, off, .inl ⟨e, fun dx nd nda => q _ (Kp.at ((Kp.refl a H).new nd)) ⟨some dx, .inl upd_same, .inr ⟨dx, rfl, .inl (by rw [upd_ne nda, upd_same])⟩⟩⟩⟩
theorem i_NoReply {f : Addr} {fd : FuncData} (F : C8.Fun K "__init__" "NoReply.__init__" s_NoReply___init__ f fd) : FnOk P w K mg base CX0 1 f fd ["self", "asked"] (spI1 K "asked") := by
  refine C8.fn0 F sc_NoReply___init__ (fun vs H Q E h => ?_) (fun cdv A outer s H vs Q E hr h => ?_)
  · obtain ⟨a, C, y, rfl, _⟩ := h
    rfl
  · obtain ⟨a, C, y, rfl, ⟨B, n1, n2, bm, T, c⟩, off, e, q⟩ := h
    refine ⟨_, (pss_one (ps_xst (pv 0) (pv 1))), ?_⟩
    exact ⟨y, rfl, .ref a, rfl, a, C, B, n1, n2, bm, T, rfl, c, off, .inl ⟨e, fun dx nd nda => q _ (Kp.at ((Kp.refl a H).new nd)) ⟨some dx, .inl upd_same, .inr ⟨dx, rfl, .inl (by rw [upd_ne nda, upd_same])⟩⟩⟩⟩
theorem i_NoNumber {f : Addr} {fd : FuncData} (F : C8.Fun K "__init__" "NoNumber.__init__" s_NoNumber___init__ f fd) : FnOk P w K mg base CX0 1 f fd ["self", "asked"] (spI1 K "asked") := by
  refine C8.fn0 F sc_NoNumber___init__ (fun vs H Q E h => ?_) (fun cdv A outer s H vs Q E hr h => ?_)
  · obtain ⟨a, C, y, rfl, _⟩ := h
    rfl
  · obtain ⟨a, C, y, rfl, ⟨B, n1, n2, bm, T, c⟩, off, e, q⟩ := h
    refine ⟨_, (pss_one (ps_xst (pv 0) (pv 1))), ?_⟩
    exact ⟨y, rfl, .ref a, rfl, a, C, B, n1, n2, bm, T, rfl, c, off, .inl ⟨e, fun dx nd nda => q _ (Kp.at ((Kp.refl a H).new nd)) ⟨some dx, .inl upd_same, .inr ⟨dx, rfl, .inl (by rw [upd_ne nda, upd_same])⟩⟩⟩⟩
theorem i_NoMoment {f : Addr} {fd : FuncData} (F : C8.Fun K "__init__" "NoMoment.__init__" s_NoMoment___init__ f fd) : FnOk P w K mg base CX0 1 f fd ["self", "asked"] (spI1 K "asked") := by
  refine C8.fn0 F sc_NoMoment___init__ (fun vs H Q E h => ?_) (fun cdv A outer s H vs Q E hr h => ?_)
  · obtain ⟨a, C, y, rfl, _⟩ := h
    rfl
  · obtain ⟨a, C, y, rfl, ⟨B, n1, n2, bm, T, c⟩, off, e, q⟩ := h
    refine ⟨_, (pss_one (ps_xst (pv 0) (pv 1))), ?_⟩
    exact ⟨y, rfl, .ref a, rfl, a, C, B, n1, n2, bm, T, rfl, c, off, .inl ⟨e, fun dx nd nda => q _ (Kp.at ((Kp.refl a H).new nd)) ⟨some dx, .inl upd_same, .inr ⟨dx, rfl, .inl (by rw [upd_ne nda, upd_same])⟩⟩⟩⟩
theorem i_NoMore {f : Addr} {fd : FuncData} (F : C8.Fun K "__init__" "NoMore.__init__" s_NoMore___init__ f fd) : FnOk P w K mg base CX0 1 f fd ["self", "word"] (spI1 K "word") := by
  refine C8.fn0 F sc_NoMore___init__ (fun vs H Q E h => ?_) (fun cdv A outer s H vs Q E hr h => ?_)
  · obtain ⟨a, C, y, rfl, _⟩ := h
    rfl
  · obtain ⟨a, C, y, rfl, ⟨B, n1, n2, bm, T, c⟩, off, e, q⟩ := h
    refine ⟨_, (pss_one (ps_xst (pv 0) (pv 1))), ?_⟩
    exact ⟨y, rfl, .ref a, rfl, a, C, B, n1, n2, bm, T, rfl, c, off, .inl ⟨e, fun dx nd nda => q _ (Kp.at ((Kp.refl a H).new nd)) ⟨some dx, .inl upd_same, .inr ⟨dx, rfl, .inl (by rw [upd_ne nda, upd_same])⟩⟩⟩⟩
theorem i_NotRising {f : Addr} {fd : FuncData} (F : C8.Fun K "__init__" "NotRising.__init__" s_NotRising___init__ f fd) : FnOk P w K mg base CX0 1 f fd ["self", "name"] (spI1 K "name") := by
  refine C8.fn0 F sc_NotRising___init__ (fun vs H Q E h => ?_) (fun cdv A outer s H vs Q E hr h => ?_)
  · obtain ⟨a, C, y, rfl, _⟩ := h
    rfl
  · obtain ⟨a, C, y, rfl, ⟨B, n1, n2, bm, T, c⟩, off, e, q⟩ := h
    refine ⟨_, (pss_one (ps_xst (pv 0) (pv 1))), ?_⟩
    exact ⟨y, rfl, .ref a, rfl, a, C, B, n1, n2, bm, T, rfl, c, off, .inl ⟨e, fun dx nd nda => q _ (Kp.at ((Kp.refl a H).new nd)) ⟨some dx, .inl upd_same, .inr ⟨dx, rfl, .inl (by rw [upd_ne nda, upd_same])⟩⟩⟩⟩
theorem i_TooMany {f : Addr} {fd : FuncData} (F : C8.Fun K "__init__" "TooMany.__init__" s_TooMany___init__ f fd) : FnOk P w K mg base CX0 1 f fd ["self", "most"] (spI1 K "most") := by
  refine C8.fn0 F sc_TooMany___init__ (fun vs H Q E h => ?_) (fun cdv A outer s H vs Q E hr h => ?_)
  · obtain ⟨a, C, y, rfl, _⟩ := h
    rfl
  · obtain ⟨a, C, y, rfl, ⟨B, n1, n2, bm, T, c⟩, off, e, q⟩ := h
    refine ⟨_, (pss_one (ps_xst (pv 0) (pv 1))), ?_⟩
    exact ⟨y, rfl, .ref a, rfl, a, C, B, n1, n2, bm, T, rfl, c, off, .inl ⟨e, fun dx nd nda => q _ (Kp.at ((Kp.refl a H).new nd)) ⟨some dx, .inl upd_same, .inr ⟨dx, rfl, .inl (by rw [upd_ne nda, upd_same])⟩⟩⟩⟩
theorem i_NoBack {f : Addr} {fd : FuncData} (F : C8.Fun K "__init__" "NoBack.__init__" s_NoBack___init__ f fd) : FnOk P w K mg base CX0 1 f fd ["self", "at"] (spI1 K "at") := by
  refine C8.fn0 F sc_NoBack___init__ (fun vs H Q E h => ?_) (fun cdv A outer s H vs Q E hr h => ?_)
  · obtain ⟨a, C, y, rfl, _⟩ := h
    rfl
  · obtain ⟨a, C, y, rfl, ⟨B, n1, n2, bm, T, c⟩, off, e, q⟩ := h
    refine ⟨_, (pss_one (ps_xst (pv 0) (pv 1))), ?_⟩
    exact ⟨y, rfl, .ref a, rfl, a, C, B, n1, n2, bm, T, rfl, c, off, .inl ⟨e, fun dx nd nda => q _ (Kp.at ((Kp.refl a H).new nd)) ⟨some dx, .inl upd_same, .inr ⟨dx, rfl, .inl (by rw [upd_ne nda, upd_same])⟩⟩⟩⟩
end
abbrev s__law_pen : Stmt := topS 18
theorem sc__law_pen : FnScope ["script"] ["script"] (C8.fnScope s__law_pen) := ⟨rfl, rfl, rfl, by decide +kernel, rfl, by decide +kernel, by decide +kernel⟩
abbrev s__law_draw : Stmt := topS 19
theorem sc__law_draw : FnScope ["pen", "many", "digit", "turn", "cell", "primes", "prime", "drawn"] ["pen", "many"] (C8.fnScope s__law_draw) := ⟨rfl, rfl, rfl, by decide +kernel, rfl, by decide +kernel, by decide +kernel⟩
abbrev s__law_pick : Stmt := topS 20
theorem sc__law_pick : FnScope ["pen", "some"] ["pen", "some"] (C8.fnScope s__law_pick) := ⟨rfl, rfl, rfl, by decide +kernel, rfl, by decide +kernel, by decide +kernel⟩
/-! ### the pen: n is at least the number of turns so far -/
def penK (c : Addr) (t r : Int) : HO := .dK [(.inr "cells", .ref c), (.inr "turn", .int t), (.inr "rest", .int r)]
def Pen (K : PySem.W.Frag) (H : Hp) (p : Addr) (n : Nat) : Prop := ∃ (c : Addr) (L : List Int) (t r : Int), H p = some (penK c t r) ∧ SqL K H c (L.map V.int) ∧ c ≠ p ∧ L.length ≤ 63 ∧ 0 ≤ t ∧ t ≤ n ∧ 0 ≤ r
theorem pen_cells {H : Hp} {p c : Addr} {t r : Int} (h : H p = some (penK c t r)) : DGet H p (.str "cells") (some (.ref c)) := DGet.k (k := .inr "cells") h
theorem pen_turn {H : Hp} {p c : Addr} {t r : Int} (h : H p = some (penK c t r)) : DGet H p (.str "turn") (some (.int t)) := DGet.k (k := .inr "turn") h
theorem pen_rest {H : Hp} {p c : Addr} {t r : Int} (h : H p = some (penK c t r)) : DGet H p (.str "rest") (some (.int r)) := DGet.k (k := .inr "rest") h
theorem pen_putT {H : Hp} {p c : Addr} {t r : Int} (t' : Int) (h : H p = some (penK c t r)) : DPut H p (.str "turn") (.int t') (upd H p (penK c t' r)) := DPut.k (k := .inr "turn") h (by show 3 < sizeLine; decide)
theorem pen_putR {H : Hp} {p c : Addr} {t r : Int} (r' : Int) (h : H p = some (penK c t r)) : DPut H p (.str "rest") (.int r') (upd H p (penK c t r')) := DPut.k (k := .inr "rest") h (by show 3 < sizeLine; decide)
theorem seqL_upd {K : PySem.W.Frag} {H : Hp} {p c : Addr} {o o' : HO} {xs : List V} (ho : H p = some o) (nl : ∀ ys, o ≠ .lst ys) (nf : ∀ u y, o ≠ .frz u y) (h : SqL K H c xs) : SqL K (upd H p o') c xs := by
  rcases h with (h | ⟨u, h⟩) | h
  · exact .inl (.inl (by rw [upd_ne (fun e => by rw [e, ho] at h; exact nl _ (Option.some.inj h))]; exact h))
  · exact .inl (.inr ⟨u, by rw [upd_ne (fun e => by rw [e, ho] at h; exact nf _ _ (Option.some.inj h))]; exact h⟩)
  · exact .inr h
theorem pow60 {m : Int} (h0 : 0 < m) (h : m < 2 ^ 60) (i : Int) : CDivW i m := wide_div h0 (b := 60) (by omega) (by decide) (by decide)
theorem atI_in {xs : List V} {i : Int} {j : Nat} {v : V} (e : i = j) (h : xs[j]? = some v) : atI xs i = some v := by subst e; exact atI_nat h
theorem seq_new {K : PySem.W.Frag} {H : Hp} {l c : Addr} {o : HO} {xs : List V} (n : H l = none) (h : SqL K H c xs) : SqL K (upd H l o) c xs :=
  Same.seq (fun b u e => by rw [upd_ne (ne_of_none e n)]; exact e) h
theorem dp_ints {K : PySem.W.Frag} {H : Hp} : ∀ L : List Int, DpAll K H (L.map V.int) (L.map PyData.int)
  | [] => .nil
  | x :: r => .cons (.int x) (dp_ints r)
theorem lay_ints : ∀ L : List Int, PyData.canLayAll0 (L.map PyData.int) = true
  | [] => by simp [PyData.canLayAll0]
  | x :: r => by simp [PyData.canLayAll0, PyData.canLay0, lay_ints r]
theorem depth_ints : ∀ L : List Int, PyData.depthAll (L.map PyData.int) ≤ 0
  | [] => by simp [PyData.depthAll]
  | x :: r => by
    have h := depth_ints r
    simp only [List.map_cons, PyData.depthAll, PyData.depth]
    omega
theorem shaped_ints (L : List Int) : SeqAt.shaped (.list (L.map PyData.int)) = true := by
  have h := depth_ints L
  show (PyData.canLay0 _ && decide _) = true
  rw [Bool.and_eq_true]
  exact ⟨by simp only [PyData.canLay0]; exact lay_ints L, decide_eq_true (by simp only [PyData.depth]; omega)⟩
theorem eqv_ints_nil (L : List Int) : (!PyData.eqv (.list (L.map PyData.int)) (.list [])) = !L.isEmpty := by
  cases L <;> simp [PyData.eqv, PyData.eqvAll]
theorem cut63 {xs : List V} (h : xs.length ≤ 63) : cutV xs none (some 63) = xs := by
  unfold cutV
  rw [show HT.sIx xs.length xs.length (some 63) = min 63 xs.length from HT.sIx_nat xs.length xs.length 63, HT.sIx_none]
  rw [show min 63 xs.length = xs.length by omega]
  simp
def primesL : List Int := [2147483647, 2147483629, 2147483587, 2147483579, 2147483563]
theorem primes_at (t : Int) : ∃ p : Int, atI (primesL.map V.int) (t % 5) = some (.int p) ∧ 2147483563 ≤ p ∧ p ≤ 2147483647 := by
  have h0 := Int.emod_nonneg t (show (5 : Int) ≠ 0 by decide)
  have h1 := Int.emod_lt_of_pos t (show (0 : Int) < 5 by decide)
  generalize t % 5 = i at h0 h1
  have h : i = 0 ∨ i = 1 ∨ i = 2 ∨ i = 3 ∨ i = 4 := by omega
  rcases h with rfl | rfl | rfl | rfl | rfl <;> exact ⟨_, rfl, by decide, by decide⟩
section
variable {P : Program} {w : World} {K : PySem.W.Frag} {mg : Str → Option Value} {base : Heap}
def spDraw (K : PySem.W.Frag) : Sp := fun vs H Q _ => ∃ (p : Addr) (m : Int) (n : Nat), vs = [.ref p, .int m] ∧ Pen K H p n ∧ n < 1000000 ∧ 0 < m ∧ m < 2 ^ 60 ∧
  ∀ (d : Int) (H' : Hp), 0 ≤ d → d < m → Kp p H H' → Pen K H' p (n + 1) → Q (.int d) H'
theorem c_draw {c : CA} (T : Txt P w K mg base c) {f : Addr} {fd : FuncData} (F : C8.Def K mg "_law_draw" s__law_draw f fd) (b : Binds K fd ["pen", "many"] []) : C8.Cal P w K mg base 1 "_law_draw" (spDraw K) [] := by
  refine C8.cal0 F b .nil sc__law_draw (fun vs H Q E h => ?_) (fun cdv A outer s H vs Q E hr h => ?_)
  · obtain ⟨p, m, n, rfl, _⟩ := h
    rfl
  · obtain ⟨p, m, n, rfl, hp, hn, hm, hm2, q⟩ := h
    have hu := hu_of hr
    have hu6 := hu64 hr
    refine ⟨_, (pss_cons (ps_if (pt_cmpR (op_gt) (pe_dget hu (pv 0) pe_str (fun _ _ => rfl)) pe_int (nomark _)) (pss_cons (ps_set (i := 2) sc__law_draw.nd rfl (.inl rfl) (pe_op (op_mod) (pe_dget hu (pv 0) pe_str (fun _ _ => rfl)) (pv 1)))
  (pss_cons (ps_dput hu (pv 0) pe_str (pe_op (op_fdivW) (pe_dget hu (pv 0) pe_str (fun _ _ => rfl)) (pv 1)) rfl)
  (pss_one (ps_ret (pv 2))))) pss_nil)
  (pss_cons (ps_set (i := 3) sc__law_draw.nd rfl (.inl rfl) (pe_dget hu (pv 0) pe_str (fun _ _ => rfl)))
  (pss_cons (ps_dput hu (pv 0) pe_str (pe_op (op_addG (K := K)) (pv 3) pe_int) rfl)
  (pss_cons (ps_set (i := 4) sc__law_draw.nd rfl (.inl rfl) (pe_op (op_addG (K := K)) (pe_op (op_mulG (K := K)) pe_int (pv 3)) pe_int))
  (C8.pss_cut (ps_if (pt_cmpR (op_neX (K := K) hu6) (pe_dget hu (pv 0) pe_str (fun _ _ => rfl)) (pe_lst pa_nil) (nomark _)) (pss_one (ps_set (i := 4) sc__law_draw.nd rfl (.inl rfl) (pe_ix (ixG (K := K)) (pe_dget hu (pv 0) pe_str (fun _ _ => rfl)) (pe_op (op_mod) (pv 3) (pe_callB (call_lenG (K := K)) (by rfl) T.b_len bt_len (pa_cons (pe_dget hu (pv 0) pe_str (fun _ _ => rfl)) pa_nil))) (fun _ _ => rfl)))) pss_nil)
  (C8.pss_cut (ps_if (PW.pt (pw_and (pt_cmpR (op_lt) (pv 3) (pe_callB (call_lenG (K := K)) (by rfl) T.b_len bt_len (pa_cons (pe_dget hu (pv 0) pe_str (fun _ _ => rfl)) pa_nil)) (nomark _)) (pw_and1 (pt_cmpR (op_ge) (pe_callB (call_abs) (by rfl) T.b_abs bt_abs (pa_cons (pv 4) pa_nil)) (pe_op (op_pow) pe_int pe_int) (nomark _))))) (pss_cons (ps_dput hu (pv 0) pe_str (pe_op (op_fdivW) (pe_op (op_sub) (pe_callB (call_abs) (by rfl) T.b_abs bt_abs (pa_cons (pv 4) pa_nil)) (pe_op (op_pow) pe_int pe_int)) (pv 1)) rfl)
  (pss_one (ps_ret (pe_op (op_mod) (pe_op (op_sub) (pe_callB (call_abs) (by rfl) T.b_abs bt_abs (pa_cons (pv 4) pa_nil)) (pe_op (op_pow) pe_int pe_int)) (pv 1))))) pss_nil)
  (pss_cons (ps_set (i := 5) sc__law_draw.nd rfl (.inl rfl) (pe_lst (pa_cons pe_int (pa_cons pe_int (pa_cons pe_int (pa_cons pe_int (pa_cons pe_int pa_nil)))))))
  (pss_cons (ps_set (i := 6) sc__law_draw.nd rfl (.inl rfl) (pe_ix (ixG (K := K)) (pv 5) (pe_op (op_mod) (pv 3) pe_int) (fun _ _ => rfl)))
  (pss_cons (ps_set (i := 7) sc__law_draw.nd rfl (.inl rfl) (pe_op (op_mod) (pe_op (op_addG (K := K)) (pe_op (op_addG (K := K)) (pe_op (op_mulG (K := K)) (pe_op (op_mod) (pv 4) (pv 6)) pe_int) (pe_op (op_mulG (K := K)) (pe_op (op_mulG (K := K)) pe_int (pv 3)) (pv 3))) pe_int) (pv 6)))
  (pss_cons (ps_set (i := 7) sc__law_draw.nd rfl (.inl rfl) (pe_op (op_mod) (pe_op (op_mulG (K := K)) (pv 7) (pe_op (op_addG (K := K)) (pv 7) pe_int)) (pe_ix (ixG (K := K)) (pv 5) (pe_op (op_mod) (pe_op (op_addG (K := K)) (pv 3) pe_int) pe_int) (fun _ _ => rfl))))
  (pss_one (ps_ret (pe_op (op_mod) (pe_op (op_fdivW) (pe_op (op_mod) (pe_op (op_mulG (K := K)) (pv 7) (pv 7)) pe_int) pe_int) (pv 1)))))))))))))), ?_⟩
    obtain ⟨c, L, t, r, hH, hc, hcp, hL, ht0, htn, hr0⟩ := hp
    refine ⟨.ref p, rfl, p, .int r, rfl, pen_rest hH, r, 0, rfl, rfl, _, rfl, ite2 (fun e => ?_) (fun e => ?_)⟩
    · -- a great cell's next digit
      refine ⟨.ref p, rfl, p, .int r, rfl, pen_rest hH, .int m, rfl, r, m, rfl, rfl, hm, ?_⟩
      refine ⟨.ref p, rfl, p, .int r, rfl, pen_rest hH, .int m, rfl, r, m, rfl, rfl, pow60 hm hm2 r, .ref p, rfl, p, _, rfl, pen_putR _ hH, _, rfl, ?_⟩
      exact q _ _ (Int.emod_nonneg _ (by omega)) (Int.emod_lt_of_pos _ hm) (Kp.at (Kp.refl _ _)) ⟨c, L, t, r / m, upd_same, seqL_upd hH (fun _ z => by cases z) (fun _ _ z => by cases z) hc, hcp, hL, ht0, by omega, Int.ediv_nonneg hr0 (by omega)⟩
    -- the turn
    refine ⟨.ref p, rfl, p, .int t, rfl, pen_turn hH, ?_⟩
    refine ⟨.int t, rfl, .ref p, rfl, p, _, rfl, pen_putT _ hH, ?_⟩
    have k1 : Kp p H (upd H p (penK c (t + 1) r)) := Kp.at (Kp.refl _ _)
    have h1 : (upd H p (penK c (t + 1) r)) p = some (penK c (t + 1) r) := upd_same
    have c1 : SqL K (upd H p (penK c (t + 1) r)) c (L.map V.int) := seqL_upd hH (fun _ z => by cases z) (fun _ _ z => by cases z) hc
    generalize upd H p (penK c (t + 1) r) = H1 at k1 h1 c1 ⊢
    refine ⟨.int t, rfl, .inl ⟨by decide, by decide⟩, ?_⟩
    -- if pen['cells'] != []
    refine ⟨fun σ H' => ∃ (x : Int) (d5 d6 d7 d8 : Option V), σ = [some (.ref p), some (.int m), d5, some (.int t), some (.int x), d6, d7, d8] ∧ Kp p H H' ∧ H' p = some (penK c (t + 1) r) ∧ SqL K H' c (L.map V.int), ?_, ?_⟩
    · refine ⟨.ref p, rfl, p, .ref c, rfl, pen_cells h1, Nat.zero_le _, fun l nl => ?_⟩
      have k2 := k1.new nl (o := .lst [])
      have h2 : (upd H1 l (.lst [])) p = some (penK c (t + 1) r) := by rw [upd_ne (ne_of_none h1 nl)]; exact h1
      have c2 : SqL K (upd H1 l (.lst [])) c (L.map V.int) := seq_new nl c1
      have e2 : SqL K (upd H1 l (.lst [])) l [] := .inl (.inl upd_same)
      generalize upd H1 l (.lst []) = H2 at k2 h2 c2 e2 ⊢
      refine .inr ⟨_, _, .lst c2 (dp_ints L), .lst e2 .nil, shaped_ints L, by decide, _, rfl, ?_⟩
      rw [eqv_ints_nil]
      cases hLe : L with
      | nil => exact iteF ⟨_, _, _, _, _, rfl, k2, h2, hLe ▸ c2⟩
      | cons z zs =>
        refine iteT ?_
        rw [← hLe]
        have hlen : 0 < L.length := by rw [hLe]; simp
        have hlt : (t % (L.length : Int)).toNat < L.length := by
          have a1 := Int.emod_nonneg t (show (L.length : Int) ≠ 0 by omega)
          have a2 := Int.emod_lt_of_pos t (show (0 : Int) < L.length by omega)
          omega
        refine ⟨.ref p, rfl, p, .ref c, rfl, pen_cells h2, .int t, rfl, .ref p, rfl, p, .ref c, rfl, pen_cells h2, .inl ⟨_, .inl c2, t, _, rfl, rfl, ?_, .inl ⟨c, L.map V.int, _, .int L[(t % (L.length : Int)).toNat], rfl, rfl, c2, ?_, ?_⟩⟩⟩
        · show (0 : Int) < ((L.map V.int).length : Int)
          rw [List.length_map]; omega
        · refine atI_in (j := (t % (L.length : Int)).toNat) ?_ ?_
          · rw [List.length_map, Int.toNat_of_nonneg (Int.emod_nonneg _ (by omega))]
          · rw [List.getElem?_map, List.getElem?_eq_getElem hlt]; rfl
        · exact ⟨_, _, _, _, _, rfl, k2, h2, c2⟩
    · rintro σ' H2 ⟨x, d5, d6, d7, d8, rfl, k2, h2, c2⟩
      -- a great cell
      refine ⟨fun σ H' => σ = [some (.ref p), some (.int m), d5, some (.int t), some (.int x), d6, d7, d8] ∧ H' = H2, ?_, ?_⟩
      · refine ⟨.int t, rfl, .ref p, rfl, p, .ref c, rfl, pen_cells h2, .inl ⟨_, .inl c2, t, _, rfl, rfl, _, rfl, ite2 (fun e1 => ?_) (fun e1 => iteF ⟨rfl, rfl⟩)⟩⟩
        refine ⟨.int x, rfl, x, rfl, 10, 18, rfl, rfl, ⟨by decide, by decide, by decide⟩, _, _, rfl, rfl, _, rfl, ite2 (fun e2 => ?_) (fun e2 => ⟨rfl, rfl⟩)⟩
        have e3 := of_decide_eq_true e2
        refine ⟨.int x, rfl, x, rfl, 10, 18, rfl, rfl, ⟨by decide, by decide, by decide⟩, _, _, rfl, rfl, .int m, rfl, _, m, rfl, rfl, pow60 hm hm2 _, .ref p, rfl, p, _, rfl, pen_putR _ h2, ?_⟩
        refine ⟨.int x, rfl, x, rfl, 10, 18, rfl, rfl, ⟨by decide, by decide, by decide⟩, _, _, rfl, rfl, .int m, rfl, _, m, rfl, rfl, hm, ?_⟩
        exact q _ _ (Int.emod_nonneg _ (by omega)) (Int.emod_lt_of_pos _ hm) k2.at ⟨c, L, t + 1, _, upd_same, seqL_upd h2 (fun _ z => by cases z) (fun _ _ z => by cases z) c2, hcp, hL, by omega, by omega, Int.ediv_nonneg (by omega) (by omega)⟩
      · rintro σ3 H3 ⟨rfl, rfl⟩
        -- a mixed one
        refine ⟨(by show 5 ≤ sizeLine; decide), fun l nl => ?_⟩
        have k3 := k2.new nl (o := .lst (primesL.map V.int))
        have h3 : (upd H3 l (.lst (primesL.map V.int))) p = some (penK c (t + 1) r) := by rw [upd_ne (ne_of_none h2 nl)]; exact h2
        have c3 : SqL K (upd H3 l (.lst (primesL.map V.int))) c (L.map V.int) := seq_new nl c2
        have e3 : SqL K (upd H3 l (.lst (primesL.map V.int))) l (primesL.map V.int) := .inl (.inl upd_same)
        show _
        obtain ⟨p1, g1, g2, g3⟩ := primes_at t
        obtain ⟨p2, f1, f2, f3⟩ := primes_at (t + 3)
        refine ⟨.ref l, rfl, .int t, rfl, t, 5, rfl, rfl, (by show (0 : Int) < 5; decide), .inl ⟨l, _, _, _, rfl, rfl, e3, g1, ?_⟩⟩
        have a0 := Int.emod_nonneg x (show p1 ≠ 0 by omega)
        have a1 := Int.emod_lt_of_pos x (show 0 < p1 by omega)
        refine ⟨.int x, rfl, .int p1, rfl, x, p1, rfl, rfl, by omega, .inr ⟨by decide, by decide⟩, .int t, rfl, .inl ⟨by decide, by decide⟩, .int t, rfl, .inr ⟨by omega, by omega⟩, .int p1, rfl, _, p1, rfl, rfl, by omega, ?_⟩
        generalize (x % p1 * 69621 + 40692 * t * t + 11) = y1
        have b0 := Int.emod_nonneg y1 (show p1 ≠ 0 by omega)
        have b1 := Int.emod_lt_of_pos y1 (show 0 < p1 by omega)
        refine ⟨.int (y1 % p1), rfl, .int (y1 % p1), rfl, .inl ⟨by omega, by omega⟩, .ref l, rfl, .int t, rfl, t + 3, 5, rfl, rfl, (by show (0 : Int) < 5; decide), .inl ⟨l, _, _, _, rfl, rfl, e3, f1, _, p2, rfl, rfl, by omega, ?_⟩⟩
        have d0 := Int.emod_nonneg (y1 % p1 * (y1 % p1 + 48271)) (show p2 ≠ 0 by omega)
        have d1 := Int.emod_lt_of_pos (y1 % p1 * (y1 % p1 + 48271)) (show 0 < p2 by omega)
        refine ⟨.int (y1 % p1 * (y1 % p1 + 48271) % p2), rfl, .int (y1 % p1 * (y1 % p1 + 48271) % p2), rfl, .inl ⟨by omega, by omega⟩, _, 2147483549, rfl, rfl, (by show (0 : Int) < 2147483549; decide), _, 64, rfl, rfl, wide_div (b := 7) (by decide) (by decide) (by decide) (by decide), .int m, rfl, _, m, rfl, rfl, hm, ?_⟩
        exact q _ _ (Int.emod_nonneg _ (by omega)) (Int.emod_lt_of_pos _ hm) k3 ⟨c, L, t + 1, r, h3, c3, hcp, hL, by omega, by omega, hr0⟩
def spPick (K : PySem.W.Frag) : Sp := fun vs H Q _ => ∃ (p a : Addr) (n : Nat) (xs : List V), vs = [.ref p, .ref a] ∧ Pen K H p n ∧ n < 1000000 ∧ a ≠ p ∧ (SqL K H a xs ∨ SqT K H a xs) ∧ 0 < xs.length ∧ xs.length < 1000000 ∧
  ∀ (v : V) (H' : Hp), v ∈ xs → Kp p H H' → Pen K H' p (n + 1) → Q v H'
theorem c_pick {c : CA} (T : Txt P w K mg base c) (c_law_draw : C8.Cal P w K mg base 1 "_law_draw" (spDraw K) []) {f : Addr} {fd : FuncData} (F : C8.Def K mg "_law_pick" s__law_pick f fd) (b : Binds K fd ["pen", "some"] []) : C8.Cal P w K mg base 2 "_law_pick" (spPick K) [] := by
  refine C8.cal0 F b .nil sc__law_pick (fun vs H Q E h => ?_) (fun cdv A outer s H vs Q E hr h => ?_)
  · obtain ⟨p, m, n, xs, rfl, _⟩ := h
    rfl
  · obtain ⟨p, a, n, xs, rfl, hp, hn, hap, hs, h0, h1, q⟩ := h
    have hu := hu_of hr
    have hu6 := hu64 hr
    refine ⟨_, (pss_one (ps_ret (pe_ix (ixG (K := K)) (pv 1) (C8.pe_c c_law_draw hr (by decide) (by rfl) (pa_cons (pv 0) (pa_cons (pe_callB (call_lenG (K := K)) (by rfl) T.b_len bt_len (pa_cons (pv 1) pa_nil)) pa_nil))) (fun _ _ => rfl)))), ?_⟩
    refine ⟨.ref a, rfl, .ref p, rfl, .ref a, rfl, .inl ⟨xs, hs, ?_⟩⟩
    refine ⟨p, _, n, rfl, hp, hn, by omega, by omega, fun d H' d0 d1 k hp' => ?_⟩
    have hlt : d.toNat < xs.length := by omega
    have hat : atI xs d = some xs[d.toNat] := atI_in (by omega) (List.getElem?_eq_getElem hlt)
    have hk : ∀ b o, H b = some o → b ≠ p → H' b = some o := fun b o e ne => k b o ne e
    rcases hs with hs | hs
    · refine .inl ⟨a, xs, d, _, rfl, rfl, ?_, hat, q _ _ (List.getElem_mem hlt) k hp'⟩
      rcases hs with (h | ⟨u, h⟩) | h
      · exact .inl (.inl (k _ _ hap h))
      · exact .inl (.inr ⟨u, k _ _ hap h⟩)
      · exact .inr h
    · refine .inr (.inl ⟨a, xs, d, _, rfl, rfl, ?_, hat, q _ _ (List.getElem_mem hlt) k hp'⟩)
      rcases hs with (h | ⟨u, h⟩) | h
      · exact .inl (.inl (k _ _ hap h))
      · exact .inl (.inr ⟨u, k _ _ hap h⟩)
      · exact .inr h
def spPen (K : PySem.W.Frag) : Sp := fun vs H Q _ => ∃ (a : Addr) (L : List Int), vs = [.ref a] ∧ SqL K H a (L.map V.int) ∧ L.length ≤ 63 ∧
  ∀ (p : Addr) (H' : Hp), H p = none → Same H H' → Pen K H' p 0 → Q (.ref p) H'
theorem c_pen {c : CA} (T : Txt P w K mg base c) {f : Addr} {fd : FuncData} (F : C8.Def K mg "_law_pen" s__law_pen f fd) (b : Binds K fd ["script"] []) : C8.Cal P w K mg base 1 "_law_pen" (spPen K) [] := by
  refine C8.cal0 F b .nil sc__law_pen (fun vs H Q E h => ?_) (fun cdv A outer s H vs Q E hr h => ?_)
  · obtain ⟨a, L, rfl, _⟩ := h
    rfl
  · obtain ⟨a, L, rfl, hs, hl, q⟩ := h
    have hu := hu_of hr
    have hu6 := hu64 hr
    refine ⟨_, (pss_one (ps_ret (pe_disp (pps_cons pe_str (pe_callTy (call_list_of) (by rfl) T.b_list bt_list (pa_cons (pe_slice (sl_any (K := K)) (pv 0) po_none (po_some pe_int)) pa_nil)) (pps_cons pe_str pe_int (pps_cons pe_str pe_int pps_nil))) rfl rfl (by simp) (by decide)))), ?_⟩
    intro p np
    have s1 : Same H (upd H p (.dK [])) := fun b o e => by rw [upd_ne (ne_of_none e np)]; exact e
    -- the cells: a copy of the script
    refine ⟨.ref a, rfl, 63, rfl, .inl ⟨a, L.map V.int, rfl, s1.seq hs, fun l1 n1 => ?_⟩⟩
    rw [cut63 (by rw [List.length_map]; exact hl)]
    have s2 : Same (upd H p (.dK [])) (upd (upd H p (.dK [])) l1 (.lst (L.map V.int))) := fun b o e => by rw [upd_ne (ne_of_none e n1)]; exact e
    refine ⟨l1, L.map V.int, rfl, .inl (.inl (.inl upd_same)), fun l2 n2 => ?_⟩
    have s3 : Same (upd (upd H p (.dK [])) l1 (.lst (L.map V.int))) (upd (upd (upd H p (.dK [])) l1 (.lst (L.map V.int))) l2 (.lst (L.map V.int))) := fun b o e => by rw [upd_ne (ne_of_none e n2)]; exact e
    have hp3 : (upd (upd (upd H p (.dK [])) l1 (.lst (L.map V.int))) l2 (.lst (L.map V.int))) p = some (.dK []) := s3 _ _ (s2 _ _ upd_same)
    have hl2 : (upd (upd (upd H p (.dK [])) l1 (.lst (L.map V.int))) l2 (.lst (L.map V.int))) l2 = some (.lst (L.map V.int)) := upd_same
    have sA := s1.trans (s2.trans s3)
    generalize upd (upd (upd H p (.dK [])) l1 (.lst (L.map V.int))) l2 (.lst (L.map V.int)) = H3 at hp3 hl2 sA
    refine ⟨hp3, [(.inr "cells", .ref l2), (.inr "turn", .int 0), (.inr "rest", .int 0)], rfl, (by show 3 ≤ 15; decide), ?_⟩
    have ne : l2 ≠ p := ne_of hl2 hp3 (by intro z; cases z)
    refine q p _ np (fun b o e => ?_) ⟨l2, L, 0, 0, upd_same, .inl (.inl ?_), ne, hl, by decide, by decide, by decide⟩
    · rw [upd_ne (ne_of_none e np)]
      exact sA b o e
    · rw [upd_ne ne]
      exact hl2
end

end Wd

set_option Elab.async false
set_option linter.all false
set_option maxRecDepth 100000
set_option maxHeartbeats 4000000
namespace Wd
open PySem PySem.Spec PyProof.Rows L2
abbrev s__law_made_errors : Stmt := topS 21
theorem sc__law_made_errors : FnScope ["a", "b", "by_names", "some"] ["a", "b", "by_names"] (C8.fnScope s__law_made_errors) := ⟨rfl, rfl, rfl, by decide +kernel, rfl, by decide +kernel, by decide +kernel⟩
abbrev s__law_kinds : Stmt := topS 22
theorem sc__law_kinds : FnScope ["e", "some"] ["e"] (C8.fnScope s__law_kinds) := ⟨rfl, rfl, rfl, by decide +kernel, rfl, by decide +kernel, by decide +kernel⟩
abbrev s__law_bases : Stmt := topS 23
theorem sc__law_bases : FnScope ["e", "some"] ["e"] (C8.fnScope s__law_bases) := ⟨rfl, rfl, rfl, by decide +kernel, rfl, by decide +kernel, by decide +kernel⟩
abbrev s__law_fields : Stmt := topS 25
theorem sc__law_fields : FnScope ["made", "some"] ["made"] (C8.fnScope s__law_fields) := ⟨rfl, rfl, rfl, by decide +kernel, rfl, by decide +kernel, by decide +kernel⟩
/-- the sixteen: class and fields -/
def sixteen (c : CA) (a b : V) : List (Addr × List (Str × V)) := [(c.NoText.C, [("row", a)]), (c.NoDeed.C, [("why", a)]), (c.NoWay.C, [("why", b), ("at", a)]), (c.NoGoal.C, [("at", a)]), (c.NoTurning.C, [("at", a)]), (c.NoName.C, [("asked", a)]), (c.NoReply.C, [("asked", a)]), (c.NoNumber.C, [("asked", a)]), (c.NoMoment.C, [("asked", a)]), (c.NoPlan.C, []), (c.NoMore.C, [("word", a)]), (c.NotRising.C, [("name", a)]), (c.Unlike.C, []), (c.TooMany.C, [("most", a)]), (c.NoBack.C, [("at", a)]), (c.NotMet.C, [])]
inductive AllEx (H : Hp) : List Addr → List (Addr × List (Str × V)) → Prop
  | nil : AllEx H [] []
  | cons {e C : Addr} {fs : List (Str × V)} {es : List Addr} {ks : List (Addr × List (Str × V))} : ExOne H e C fs → AllEx H es ks → AllEx H (e :: es) ((C, fs) :: ks)
theorem AllEx.mono {H H' : Hp} (s : Same H H') : ∀ {es : List Addr} {ks : List (Addr × List (Str × V))}, AllEx H es ks → AllEx H' es ks
  | _, _, .nil => .nil
  | _, _, .cons x r => .cons (x.mono s) (r.mono s)
theorem AllEx.app {H : Hp} : ∀ {es es' : List Addr} {ks ks' : List (Addr × List (Str × V))}, AllEx H es ks → AllEx H es' ks' → AllEx H (es ++ es') (ks ++ ks')
  | _, _, _, _, .nil, r => r
  | _, _, _, _, .cons x q, r => .cons x (q.app r)
theorem AllEx.at {H : Hp} : ∀ {es : List Addr} {ks : List (Addr × List (Str × V))} {i : Nat} {k : Addr × List (Str × V)}, AllEx H es ks → ks[i]? = some k → ∃ e, es[i]? = some e ∧ ExOne H e k.1 k.2
  | _, _, i, k, .nil, h => by cases i <;> cases h
  | _, _, 0, k, .cons x r, h => by
    cases h
    exact ⟨_, rfl, x⟩
  | _, _, i + 1, k, .cons x r, h => r.at (i := i) h
section
variable {P : Program} {w : World} {K : PySem.W.Frag} {mg : Str → Option Value} {base : Heap}
theorem x0_new {H : Hp} {e C : Addr} (n : H e = none) : ExOne (upd H e (ExO (.ref C) e)) e C [] := ⟨none, .inr (.inr ⟨rfl, upd_same⟩), .inl ⟨rfl, rfl⟩⟩
def spMade (K : PySem.W.Frag) (c : CA) : Sp := fun vs H Q _ => ∃ (a b : V) (bn : Bool), vs = [a, b, .bl bn] ∧ ∀ (l : Addr) (es : List Addr) (H' : Hp), Same H H' → H' l = some (.lst (es.map V.ref)) → AllEx H' es (sixteen c a b) → Q (.ref l) H'
theorem c_made {c : CA} (T : Txt P w K mg base c) {f : Addr} {fd : FuncData} (F : C8.Def K mg "_law_made_errors" s__law_made_errors f fd) (b : Binds K fd ["a", "b", "by_names"] []) : C8.Cal P w K mg base 3 "_law_made_errors" (spMade K c) [] := by
  refine C8.cal0 F b .nil sc__law_made_errors (fun vs H Q E h => ?_) (fun cdv A outer s H vs Q E hr h => ?_)
  · obtain ⟨a, b, bn, rfl, _⟩ := h
    rfl
  · obtain ⟨a, b, bn, rfl, q⟩ := h
    have hu := hu_of hr
    have hu6 := hu64 hr
    refine ⟨_, (pss_cons (ps_if (pt_truK (K := K) (pv 2) (fun _ => rfl)) (pss_cons (ps_set (i := 3) sc__law_made_errors.nd rfl (.inl rfl) (pe_lst (pa_cons (pe_xmakeK T.x_NoText.xc T.x_NoText.iC T.x_NoText.tI T.x_NoText.F (hr.mono (by decide)) T.x_NoText.bk (by rfl) T.x_NoText.gC (pk_cons (pv 0) pk_nil)) (pa_cons (pe_xmakeK T.x_NoDeed.xc T.x_NoDeed.iC T.x_NoDeed.tI T.x_NoDeed.F (hr.mono (by decide)) T.x_NoDeed.bk (by rfl) T.x_NoDeed.gC (pk_cons (pv 0) pk_nil)) (pa_cons (pe_xmakeK T.x_NoWay.xc T.x_NoWay.iC T.x_NoWay.tI T.x_NoWay.F (hr.mono (by decide)) T.x_NoWay.bk (by rfl) T.x_NoWay.gC (pk_cons (pv 1) (pk_cons (pv 0) pk_nil))) (pa_cons (pe_xmakeK T.x_NoGoal.xc T.x_NoGoal.iC T.x_NoGoal.tI T.x_NoGoal.F (hr.mono (by decide)) T.x_NoGoal.bk (by rfl) T.x_NoGoal.gC (pk_cons (pv 0) pk_nil)) (pa_cons (pe_xmakeK T.x_NoTurning.xc T.x_NoTurning.iC T.x_NoTurning.tI T.x_NoTurning.F (hr.mono (by decide)) T.x_NoTurning.bk (by rfl) T.x_NoTurning.gC (pk_cons (pv 0) pk_nil)) (pa_cons (pe_xmakeK T.x_NoName.xc T.x_NoName.iC T.x_NoName.tI T.x_NoName.F (hr.mono (by decide)) T.x_NoName.bk (by rfl) T.x_NoName.gC (pk_cons (pv 0) pk_nil)) pa_nil))))))))
  (pss_cons (ps_set (i := 3) sc__law_made_errors.nd rfl (.inl rfl) (pe_op (op_addG (K := K)) (pv 3) (pe_lst (pa_cons (pe_xmakeK T.x_NoReply.xc T.x_NoReply.iC T.x_NoReply.tI T.x_NoReply.F (hr.mono (by decide)) T.x_NoReply.bk (by rfl) T.x_NoReply.gC (pk_cons (pv 0) pk_nil)) (pa_cons (pe_xmakeK T.x_NoNumber.xc T.x_NoNumber.iC T.x_NoNumber.tI T.x_NoNumber.F (hr.mono (by decide)) T.x_NoNumber.bk (by rfl) T.x_NoNumber.gC (pk_cons (pv 0) pk_nil)) (pa_cons (pe_xmakeK T.x_NoMoment.xc T.x_NoMoment.iC T.x_NoMoment.tI T.x_NoMoment.F (hr.mono (by decide)) T.x_NoMoment.bk (by rfl) T.x_NoMoment.gC (pk_cons (pv 0) pk_nil)) (pa_cons (pe_xmake0 T.x_NoPlan.eF T.x_NoPlan.eq T.x_NoPlan.gC T.x_NoPlan.kC (by rfl)) (pa_cons (pe_xmakeK T.x_NoMore.xc T.x_NoMore.iC T.x_NoMore.tI T.x_NoMore.F (hr.mono (by decide)) T.x_NoMore.bk (by rfl) T.x_NoMore.gC (pk_cons (pv 0) pk_nil)) pa_nil))))))))
  (pss_one (ps_ret (pe_op (op_addG (K := K)) (pv 3) (pe_lst (pa_cons (pe_xmakeK T.x_NotRising.xc T.x_NotRising.iC T.x_NotRising.tI T.x_NotRising.F (hr.mono (by decide)) T.x_NotRising.bk (by rfl) T.x_NotRising.gC (pk_cons (pv 0) pk_nil)) (pa_cons (pe_xmake0 T.x_Unlike.eF T.x_Unlike.eq T.x_Unlike.gC T.x_Unlike.kC (by rfl)) (pa_cons (pe_xmakeK T.x_TooMany.xc T.x_TooMany.iC T.x_TooMany.tI T.x_TooMany.F (hr.mono (by decide)) T.x_TooMany.bk (by rfl) T.x_TooMany.gC (pk_cons (pv 0) pk_nil)) (pa_cons (pe_xmakeK T.x_NoBack.xc T.x_NoBack.iC T.x_NoBack.tI T.x_NoBack.F (hr.mono (by decide)) T.x_NoBack.bk (by rfl) T.x_NoBack.gC (pk_cons (pv 0) pk_nil)) (pa_cons (pe_xmake0 T.x_NotMet.eF T.x_NotMet.eq T.x_NotMet.gC T.x_NotMet.kC (by rfl)) pa_nil))))))))))) pss_nil)
  (pss_cons (ps_set (i := 3) sc__law_made_errors.nd rfl (.inl rfl) (pe_lst (pa_cons (pe_xmake T.x_NoText.xc T.x_NoText.iC T.x_NoText.tI T.x_NoText.F (hr.mono (by decide)) T.x_NoText.bp (by decide) (by rfl) T.x_NoText.gC (pa_cons (pv 0) pa_nil)) (pa_cons (pe_xmake T.x_NoDeed.xc T.x_NoDeed.iC T.x_NoDeed.tI T.x_NoDeed.F (hr.mono (by decide)) T.x_NoDeed.bp (by decide) (by rfl) T.x_NoDeed.gC (pa_cons (pv 0) pa_nil)) (pa_cons (pe_xmake T.x_NoWay.xc T.x_NoWay.iC T.x_NoWay.tI T.x_NoWay.F (hr.mono (by decide)) T.x_NoWay.bp (by decide) (by rfl) T.x_NoWay.gC (pa_cons (pv 0) (pa_cons (pv 1) pa_nil))) (pa_cons (pe_xmake T.x_NoGoal.xc T.x_NoGoal.iC T.x_NoGoal.tI T.x_NoGoal.F (hr.mono (by decide)) T.x_NoGoal.bp (by decide) (by rfl) T.x_NoGoal.gC (pa_cons (pv 0) pa_nil)) (pa_cons (pe_xmake T.x_NoTurning.xc T.x_NoTurning.iC T.x_NoTurning.tI T.x_NoTurning.F (hr.mono (by decide)) T.x_NoTurning.bp (by decide) (by rfl) T.x_NoTurning.gC (pa_cons (pv 0) pa_nil)) (pa_cons (pe_xmake T.x_NoName.xc T.x_NoName.iC T.x_NoName.tI T.x_NoName.F (hr.mono (by decide)) T.x_NoName.bp (by decide) (by rfl) T.x_NoName.gC (pa_cons (pv 0) pa_nil)) (pa_cons (pe_xmake T.x_NoReply.xc T.x_NoReply.iC T.x_NoReply.tI T.x_NoReply.F (hr.mono (by decide)) T.x_NoReply.bp (by decide) (by rfl) T.x_NoReply.gC (pa_cons (pv 0) pa_nil)) (pa_cons (pe_xmake T.x_NoNumber.xc T.x_NoNumber.iC T.x_NoNumber.tI T.x_NoNumber.F (hr.mono (by decide)) T.x_NoNumber.bp (by decide) (by rfl) T.x_NoNumber.gC (pa_cons (pv 0) pa_nil)) (pa_cons (pe_xmake T.x_NoMoment.xc T.x_NoMoment.iC T.x_NoMoment.tI T.x_NoMoment.F (hr.mono (by decide)) T.x_NoMoment.bp (by decide) (by rfl) T.x_NoMoment.gC (pa_cons (pv 0) pa_nil)) pa_nil)))))))))))
  (pss_one (ps_ret (pe_op (op_addG (K := K)) (pv 3) (pe_lst (pa_cons (pe_xmake0 T.x_NoPlan.eF T.x_NoPlan.eq T.x_NoPlan.gC T.x_NoPlan.kC (by rfl)) (pa_cons (pe_xmake T.x_NoMore.xc T.x_NoMore.iC T.x_NoMore.tI T.x_NoMore.F (hr.mono (by decide)) T.x_NoMore.bp (by decide) (by rfl) T.x_NoMore.gC (pa_cons (pv 0) pa_nil)) (pa_cons (pe_xmake T.x_NotRising.xc T.x_NotRising.iC T.x_NotRising.tI T.x_NotRising.F (hr.mono (by decide)) T.x_NotRising.bp (by decide) (by rfl) T.x_NotRising.gC (pa_cons (pv 0) pa_nil)) (pa_cons (pe_xmake0 T.x_Unlike.eF T.x_Unlike.eq T.x_Unlike.gC T.x_Unlike.kC (by rfl)) (pa_cons (pe_xmake T.x_TooMany.xc T.x_TooMany.iC T.x_TooMany.tI T.x_TooMany.F (hr.mono (by decide)) T.x_TooMany.bp (by decide) (by rfl) T.x_TooMany.gC (pa_cons (pv 0) pa_nil)) (pa_cons (pe_xmake T.x_NoBack.xc T.x_NoBack.iC T.x_NoBack.tI T.x_NoBack.F (hr.mono (by decide)) T.x_NoBack.bp (by decide) (by rfl) T.x_NoBack.gC (pa_cons (pv 0) pa_nil)) (pa_cons (pe_xmake0 T.x_NotMet.eF T.x_NotMet.eq T.x_NotMet.gC T.x_NotMet.kC (by rfl)) pa_nil))))))))))))), ?_⟩
    refine ⟨.bl bn, rfl, bn, rfl, ite2 (fun _ => ?_) (fun _ => ?_)⟩
    · have A : AllEx H [] [] := .nil
      have u := Same.refl H
      refine ⟨a, rfl, rfl, rfl, fun e ne => ⟨e, c.NoText.C, a, rfl, ⟨_, _, _, _, _, T.x_NoText.xc⟩, T.x_NoText.off, upd_same, fun H1 kp x => ⟨rfl, ?_⟩⟩⟩
      have s := kp.born ne
      replace A := (A.mono s).app (.cons x .nil)
      replace u := u.trans s
      refine ⟨a, rfl, rfl, rfl, fun e ne => ⟨e, c.NoDeed.C, a, rfl, ⟨_, _, _, _, _, T.x_NoDeed.xc⟩, T.x_NoDeed.off, upd_same, fun H1 kp x => ⟨rfl, ?_⟩⟩⟩
      have s := kp.born ne
      replace A := (A.mono s).app (.cons x .nil)
      replace u := u.trans s
      refine ⟨b, rfl, a, rfl, rfl, rfl, fun e ne => ⟨e, c.NoWay.C, a, b, rfl, ⟨_, _, _, _, _, T.x_NoWay.xc⟩, T.x_NoWay.off, T.x_NoWay.off2, upd_same, fun H1 kp x => ⟨rfl, ?_⟩⟩⟩
      have s := kp.born ne
      replace A := (A.mono s).app (.cons x .nil)
      replace u := u.trans s
      refine ⟨a, rfl, rfl, rfl, fun e ne => ⟨e, c.NoGoal.C, a, rfl, ⟨_, _, _, _, _, T.x_NoGoal.xc⟩, T.x_NoGoal.off, upd_same, fun H1 kp x => ⟨rfl, ?_⟩⟩⟩
      have s := kp.born ne
      replace A := (A.mono s).app (.cons x .nil)
      replace u := u.trans s
      refine ⟨a, rfl, rfl, rfl, fun e ne => ⟨e, c.NoTurning.C, a, rfl, ⟨_, _, _, _, _, T.x_NoTurning.xc⟩, T.x_NoTurning.off, upd_same, fun H1 kp x => ⟨rfl, ?_⟩⟩⟩
      have s := kp.born ne
      replace A := (A.mono s).app (.cons x .nil)
      replace u := u.trans s
      refine ⟨a, rfl, rfl, rfl, fun e ne => ⟨e, c.NoName.C, a, rfl, ⟨_, _, _, _, _, T.x_NoName.xc⟩, T.x_NoName.off, upd_same, fun H1 kp x => ⟨rfl, ?_⟩⟩⟩
      have s := kp.born ne
      replace A := (A.mono s).app (.cons x .nil)
      replace u := u.trans s
      refine ⟨by show 6 ≤ sizeLine; decide, fun d nd0 => ?_⟩
      refine ⟨_, rfl, ?_⟩
      have A0 := A
      clear A
      refine ⟨a, rfl, rfl, rfl, fun e ne => ⟨e, c.NoReply.C, a, rfl, ⟨_, _, _, _, _, T.x_NoReply.xc⟩, T.x_NoReply.off, upd_same, fun H1 kp x => ⟨rfl, ?_⟩⟩⟩
      have s := kp.born ne
      replace A0 := A0.mono ((same_new nd0).trans s)
      replace u := u.trans ((same_new nd0).trans s)
      have A : AllEx _ _ _ := .cons x .nil
      have w := s
      refine ⟨a, rfl, rfl, rfl, fun e ne => ⟨e, c.NoNumber.C, a, rfl, ⟨_, _, _, _, _, T.x_NoNumber.xc⟩, T.x_NoNumber.off, upd_same, fun H1 kp x => ⟨rfl, ?_⟩⟩⟩
      have s := kp.born ne
      replace A0 := A0.mono s
      replace u := u.trans s
      replace A := (A.mono s).app (.cons x .nil)
      replace w := w.trans s
      refine ⟨a, rfl, rfl, rfl, fun e ne => ⟨e, c.NoMoment.C, a, rfl, ⟨_, _, _, _, _, T.x_NoMoment.xc⟩, T.x_NoMoment.off, upd_same, fun H1 kp x => ⟨rfl, ?_⟩⟩⟩
      have s := kp.born ne
      replace A0 := A0.mono s
      replace u := u.trans s
      replace A := (A.mono s).app (.cons x .nil)
      replace w := w.trans s
      refine fun e n => ?_
      have s := same_new (o := ExO (.ref c.NoPlan.C) e) n
      have x := x0_new (C := c.NoPlan.C) n
      replace A0 := A0.mono s
      replace u := u.trans s
      replace A := (A.mono s).app (.cons x .nil)
      replace w := w.trans s
      refine ⟨a, rfl, rfl, rfl, fun e ne => ⟨e, c.NoMore.C, a, rfl, ⟨_, _, _, _, _, T.x_NoMore.xc⟩, T.x_NoMore.off, upd_same, fun H1 kp x => ⟨rfl, ?_⟩⟩⟩
      have s := kp.born ne
      replace A0 := A0.mono s
      replace u := u.trans s
      replace A := (A.mono s).app (.cons x .nil)
      replace w := w.trans s
      refine ⟨by show 5 ≤ sizeLine; decide, fun d nd1 => ?_⟩
      refine .inl ⟨_, _, _, _, rfl, rfl, (w.trans (same_new nd1)) _ _ upd_same, upd_same, by show 6 + 5 ≤ sizeLine; decide, fun l nl1 => ?_⟩
      have AA := A0.app A
      clear A A0 w
      have A := AA
      clear AA
      refine ⟨_, rfl, ?_⟩
      have A0 := A
      clear A
      refine ⟨a, rfl, rfl, rfl, fun e ne => ⟨e, c.NotRising.C, a, rfl, ⟨_, _, _, _, _, T.x_NotRising.xc⟩, T.x_NotRising.off, upd_same, fun H1 kp x => ⟨rfl, ?_⟩⟩⟩
      have s := kp.born ne
      replace A0 := A0.mono ((same_new nd1).trans ((same_new nl1).trans s))
      replace u := u.trans ((same_new nd1).trans ((same_new nl1).trans s))
      have A : AllEx _ _ _ := .cons x .nil
      have w := s
      refine fun e n => ?_
      have s := same_new (o := ExO (.ref c.Unlike.C) e) n
      have x := x0_new (C := c.Unlike.C) n
      replace A0 := A0.mono s
      replace u := u.trans s
      replace A := (A.mono s).app (.cons x .nil)
      replace w := w.trans s
      refine ⟨a, rfl, rfl, rfl, fun e ne => ⟨e, c.TooMany.C, a, rfl, ⟨_, _, _, _, _, T.x_TooMany.xc⟩, T.x_TooMany.off, upd_same, fun H1 kp x => ⟨rfl, ?_⟩⟩⟩
      have s := kp.born ne
      replace A0 := A0.mono s
      replace u := u.trans s
      replace A := (A.mono s).app (.cons x .nil)
      replace w := w.trans s
      refine ⟨a, rfl, rfl, rfl, fun e ne => ⟨e, c.NoBack.C, a, rfl, ⟨_, _, _, _, _, T.x_NoBack.xc⟩, T.x_NoBack.off, upd_same, fun H1 kp x => ⟨rfl, ?_⟩⟩⟩
      have s := kp.born ne
      replace A0 := A0.mono s
      replace u := u.trans s
      replace A := (A.mono s).app (.cons x .nil)
      replace w := w.trans s
      refine fun e n => ?_
      have s := same_new (o := ExO (.ref c.NotMet.C) e) n
      have x := x0_new (C := c.NotMet.C) n
      replace A0 := A0.mono s
      replace u := u.trans s
      replace A := (A.mono s).app (.cons x .nil)
      replace w := w.trans s
      refine ⟨by show 5 ≤ sizeLine; decide, fun d nd2 => ?_⟩
      refine .inl ⟨_, _, _, _, rfl, rfl, (w.trans (same_new nd2)) _ _ upd_same, upd_same, by show 11 + 5 ≤ sizeLine; decide, fun l nl2 => ?_⟩
      have AA := A0.app A
      clear A A0 w
      have A := AA
      clear AA
      exact q _ _ _ (u.trans ((same_new nd2).trans (same_new nl2))) upd_same (A.mono ((same_new nd2).trans (same_new nl2)))
    · have A : AllEx H [] [] := .nil
      have u := Same.refl H
      refine ⟨a, rfl, rfl, rfl, fun e ne => ⟨e, c.NoText.C, a, rfl, ⟨_, _, _, _, _, T.x_NoText.xc⟩, T.x_NoText.off, upd_same, fun H1 kp x => ⟨rfl, ?_⟩⟩⟩
      have s := kp.born ne
      replace A := (A.mono s).app (.cons x .nil)
      replace u := u.trans s
      refine ⟨a, rfl, rfl, rfl, fun e ne => ⟨e, c.NoDeed.C, a, rfl, ⟨_, _, _, _, _, T.x_NoDeed.xc⟩, T.x_NoDeed.off, upd_same, fun H1 kp x => ⟨rfl, ?_⟩⟩⟩
      have s := kp.born ne
      replace A := (A.mono s).app (.cons x .nil)
      replace u := u.trans s
      refine ⟨a, rfl, b, rfl, rfl, rfl, fun e ne => ⟨e, c.NoWay.C, a, b, rfl, ⟨_, _, _, _, _, T.x_NoWay.xc⟩, T.x_NoWay.off, T.x_NoWay.off2, upd_same, fun H1 kp x => ⟨rfl, ?_⟩⟩⟩
      have s := kp.born ne
      replace A := (A.mono s).app (.cons x .nil)
      replace u := u.trans s
      refine ⟨a, rfl, rfl, rfl, fun e ne => ⟨e, c.NoGoal.C, a, rfl, ⟨_, _, _, _, _, T.x_NoGoal.xc⟩, T.x_NoGoal.off, upd_same, fun H1 kp x => ⟨rfl, ?_⟩⟩⟩
      have s := kp.born ne
      replace A := (A.mono s).app (.cons x .nil)
      replace u := u.trans s
      refine ⟨a, rfl, rfl, rfl, fun e ne => ⟨e, c.NoTurning.C, a, rfl, ⟨_, _, _, _, _, T.x_NoTurning.xc⟩, T.x_NoTurning.off, upd_same, fun H1 kp x => ⟨rfl, ?_⟩⟩⟩
      have s := kp.born ne
      replace A := (A.mono s).app (.cons x .nil)
      replace u := u.trans s
      refine ⟨a, rfl, rfl, rfl, fun e ne => ⟨e, c.NoName.C, a, rfl, ⟨_, _, _, _, _, T.x_NoName.xc⟩, T.x_NoName.off, upd_same, fun H1 kp x => ⟨rfl, ?_⟩⟩⟩
      have s := kp.born ne
      replace A := (A.mono s).app (.cons x .nil)
      replace u := u.trans s
      refine ⟨a, rfl, rfl, rfl, fun e ne => ⟨e, c.NoReply.C, a, rfl, ⟨_, _, _, _, _, T.x_NoReply.xc⟩, T.x_NoReply.off, upd_same, fun H1 kp x => ⟨rfl, ?_⟩⟩⟩
      have s := kp.born ne
      replace A := (A.mono s).app (.cons x .nil)
      replace u := u.trans s
      refine ⟨a, rfl, rfl, rfl, fun e ne => ⟨e, c.NoNumber.C, a, rfl, ⟨_, _, _, _, _, T.x_NoNumber.xc⟩, T.x_NoNumber.off, upd_same, fun H1 kp x => ⟨rfl, ?_⟩⟩⟩
      have s := kp.born ne
      replace A := (A.mono s).app (.cons x .nil)
      replace u := u.trans s
      refine ⟨a, rfl, rfl, rfl, fun e ne => ⟨e, c.NoMoment.C, a, rfl, ⟨_, _, _, _, _, T.x_NoMoment.xc⟩, T.x_NoMoment.off, upd_same, fun H1 kp x => ⟨rfl, ?_⟩⟩⟩
      have s := kp.born ne
      replace A := (A.mono s).app (.cons x .nil)
      replace u := u.trans s
      refine ⟨by show 9 ≤ sizeLine; decide, fun d nd0 => ?_⟩
      refine ⟨_, rfl, ?_⟩
      have A0 := A
      clear A
      refine fun e n => ?_
      have s := same_new (o := ExO (.ref c.NoPlan.C) e) n
      have x := x0_new (C := c.NoPlan.C) n
      replace A0 := A0.mono ((same_new nd0).trans s)
      replace u := u.trans ((same_new nd0).trans s)
      have A : AllEx _ _ _ := .cons x .nil
      have w := s
      refine ⟨a, rfl, rfl, rfl, fun e ne => ⟨e, c.NoMore.C, a, rfl, ⟨_, _, _, _, _, T.x_NoMore.xc⟩, T.x_NoMore.off, upd_same, fun H1 kp x => ⟨rfl, ?_⟩⟩⟩
      have s := kp.born ne
      replace A0 := A0.mono s
      replace u := u.trans s
      replace A := (A.mono s).app (.cons x .nil)
      replace w := w.trans s
      refine ⟨a, rfl, rfl, rfl, fun e ne => ⟨e, c.NotRising.C, a, rfl, ⟨_, _, _, _, _, T.x_NotRising.xc⟩, T.x_NotRising.off, upd_same, fun H1 kp x => ⟨rfl, ?_⟩⟩⟩
      have s := kp.born ne
      replace A0 := A0.mono s
      replace u := u.trans s
      replace A := (A.mono s).app (.cons x .nil)
      replace w := w.trans s
      refine fun e n => ?_
      have s := same_new (o := ExO (.ref c.Unlike.C) e) n
      have x := x0_new (C := c.Unlike.C) n
      replace A0 := A0.mono s
      replace u := u.trans s
      replace A := (A.mono s).app (.cons x .nil)
      replace w := w.trans s
      refine ⟨a, rfl, rfl, rfl, fun e ne => ⟨e, c.TooMany.C, a, rfl, ⟨_, _, _, _, _, T.x_TooMany.xc⟩, T.x_TooMany.off, upd_same, fun H1 kp x => ⟨rfl, ?_⟩⟩⟩
      have s := kp.born ne
      replace A0 := A0.mono s
      replace u := u.trans s
      replace A := (A.mono s).app (.cons x .nil)
      replace w := w.trans s
      refine ⟨a, rfl, rfl, rfl, fun e ne => ⟨e, c.NoBack.C, a, rfl, ⟨_, _, _, _, _, T.x_NoBack.xc⟩, T.x_NoBack.off, upd_same, fun H1 kp x => ⟨rfl, ?_⟩⟩⟩
      have s := kp.born ne
      replace A0 := A0.mono s
      replace u := u.trans s
      replace A := (A.mono s).app (.cons x .nil)
      replace w := w.trans s
      refine fun e n => ?_
      have s := same_new (o := ExO (.ref c.NotMet.C) e) n
      have x := x0_new (C := c.NotMet.C) n
      replace A0 := A0.mono s
      replace u := u.trans s
      replace A := (A.mono s).app (.cons x .nil)
      replace w := w.trans s
      refine ⟨by show 7 ≤ sizeLine; decide, fun d nd1 => ?_⟩
      refine .inl ⟨_, _, _, _, rfl, rfl, (w.trans (same_new nd1)) _ _ upd_same, upd_same, by show 9 + 7 ≤ sizeLine; decide, fun l nl1 => ?_⟩
      have AA := A0.app A
      clear A A0 w
      have A := AA
      clear AA
      exact q _ _ _ (u.trans ((same_new nd1).trans (same_new nl1))) upd_same (A.mono ((same_new nd1).trans (same_new nl1)))
end
end Wd

set_option Elab.async false
set_option linter.all false
set_option maxRecDepth 100000
set_option maxHeartbeats 4000000
namespace Wd
open PySem PySem.Spec PyProof.Rows L2
def CK (K : PySem.W.Frag) (C : Addr) (T : List Value) : Prop := (∃ (B n i : String) (bm : List Value), Xc K C B n i bm T) ∧ PySem.W.XIs K C ∧ noRefs T = true
def cs16 (c : CA) : List Addr := [c.NoText.C, c.NoDeed.C, c.NoWay.C, c.NoGoal.C, c.NoTurning.C, c.NoName.C, c.NoReply.C, c.NoNumber.C, c.NoMoment.C, c.NoPlan.C, c.NoMore.C, c.NotRising.C, c.Unlike.C, c.TooMany.C, c.NoBack.C, c.NotMet.C]
def ts16 : List (List Value) := [PySem.WX.tlV, PySem.WX.tlV, PySem.WX.tlV, PySem.WX.tlV, PySem.WX.tlV, PySem.WX.tlK, PySem.WX.tlK, PySem.WX.tlI, PySem.WX.tlI, PySem.WX.tlL, PySem.WX.tlL, PySem.WX.tlA, PySem.WX.tlA, PySem.WX.tlO, PySem.WX.tlR, PySem.WX.tlR]
def bs10 : List String := ["ValueError", "LookupError", "KeyError", "IndexError", "ArithmeticError", "OverflowError", "ZeroDivisionError", "RuntimeError", "NotImplementedError", "TypeError"]
theorem ef_mono {H H' : Hp} {d : Option Addr} (s : Same H H') (x : ExF H d) : ExF H' d := by
  rcases x with x | ⟨dx, fs, e, x⟩
  · exact .inl x
  · exact .inr ⟨dx, fs, e, x.mono s⟩
section
variable {P : Program} {w : World} {K : PySem.W.Frag} {mg : Str → Option Value} {base : Heap}
def spKinds (K : PySem.W.Frag) (c : CA) : Sp := fun vs H Q _ => ∃ (e C : Addr) (fs : List (Str × V)) (T : List Value), vs = [.ref e] ∧ CK K C T ∧ ExOne H e C fs ∧ ∀ (l : Addr) (H' : Hp), H l = none → Same H H' → H' l = some (.lst ((cs16 c).map fun D => V.bl (decide (C = D)))) → Q (.ref l) H'
theorem c_kinds {c : CA} (T : Txt P w K mg base c) {f : Addr} {fd : FuncData} (F : C8.Def K mg "_law_kinds" s__law_kinds f fd) (b : Binds K fd ["e"] []) : C8.Cal P w K mg base 1 "_law_kinds" (spKinds K c) [] := by
  refine C8.cal0 F b .nil sc__law_kinds (fun vs H Q E h => ?_) (fun cdv A outer s H vs Q E hr h => ?_)
  · obtain ⟨e, C, fs, U, rfl, _⟩ := h
    rfl
  · obtain ⟨e, C, fs, U, rfl, ⟨⟨B, n1, n2, bm, xc⟩, xi, nr⟩, ⟨d, ea, ed⟩, q⟩ := h
    have hu := hu_of hr
    have ef := ExOne.f ed
    have u := Same.refl H
    refine ⟨_, (pss_cons (ps_set (i := 1) sc__law_kinds.nd rfl (.inl rfl) (pe_lst (pa_cons (pe_callB (call_isAny) (by rfl) T.b_isinstance bt_isinstance (pa_cons (pv 0) (pa_cons (pe_glob (v := .ref c.NoText.C) (by rfl) T.x_NoText.gC rfl) pa_nil))) (pa_cons (pe_callB (call_isAny) (by rfl) T.b_isinstance bt_isinstance (pa_cons (pv 0) (pa_cons (pe_glob (v := .ref c.NoDeed.C) (by rfl) T.x_NoDeed.gC rfl) pa_nil))) (pa_cons (pe_callB (call_isAny) (by rfl) T.b_isinstance bt_isinstance (pa_cons (pv 0) (pa_cons (pe_glob (v := .ref c.NoWay.C) (by rfl) T.x_NoWay.gC rfl) pa_nil))) (pa_cons (pe_callB (call_isAny) (by rfl) T.b_isinstance bt_isinstance (pa_cons (pv 0) (pa_cons (pe_glob (v := .ref c.NoGoal.C) (by rfl) T.x_NoGoal.gC rfl) pa_nil))) pa_nil))))))
  (pss_cons (ps_set (i := 1) sc__law_kinds.nd rfl (.inl rfl) (pe_op (op_addG (K := K)) (pv 1) (pe_lst (pa_cons (pe_callB (call_isAny) (by rfl) T.b_isinstance bt_isinstance (pa_cons (pv 0) (pa_cons (pe_glob (v := .ref c.NoTurning.C) (by rfl) T.x_NoTurning.gC rfl) pa_nil))) (pa_cons (pe_callB (call_isAny) (by rfl) T.b_isinstance bt_isinstance (pa_cons (pv 0) (pa_cons (pe_glob (v := .ref c.NoName.C) (by rfl) T.x_NoName.gC rfl) pa_nil))) (pa_cons (pe_callB (call_isAny) (by rfl) T.b_isinstance bt_isinstance (pa_cons (pv 0) (pa_cons (pe_glob (v := .ref c.NoReply.C) (by rfl) T.x_NoReply.gC rfl) pa_nil))) (pa_cons (pe_callB (call_isAny) (by rfl) T.b_isinstance bt_isinstance (pa_cons (pv 0) (pa_cons (pe_glob (v := .ref c.NoNumber.C) (by rfl) T.x_NoNumber.gC rfl) pa_nil))) pa_nil)))))))
  (pss_cons (ps_set (i := 1) sc__law_kinds.nd rfl (.inl rfl) (pe_op (op_addG (K := K)) (pv 1) (pe_lst (pa_cons (pe_callB (call_isAny) (by rfl) T.b_isinstance bt_isinstance (pa_cons (pv 0) (pa_cons (pe_glob (v := .ref c.NoMoment.C) (by rfl) T.x_NoMoment.gC rfl) pa_nil))) (pa_cons (pe_callB (call_isAny) (by rfl) T.b_isinstance bt_isinstance (pa_cons (pv 0) (pa_cons (pe_glob (v := .ref c.NoPlan.C) (by rfl) T.x_NoPlan.gC rfl) pa_nil))) (pa_cons (pe_callB (call_isAny) (by rfl) T.b_isinstance bt_isinstance (pa_cons (pv 0) (pa_cons (pe_glob (v := .ref c.NoMore.C) (by rfl) T.x_NoMore.gC rfl) pa_nil))) (pa_cons (pe_callB (call_isAny) (by rfl) T.b_isinstance bt_isinstance (pa_cons (pv 0) (pa_cons (pe_glob (v := .ref c.NotRising.C) (by rfl) T.x_NotRising.gC rfl) pa_nil))) pa_nil)))))))
  (pss_one (ps_ret (pe_op (op_addG (K := K)) (pv 1) (pe_lst (pa_cons (pe_callB (call_isAny) (by rfl) T.b_isinstance bt_isinstance (pa_cons (pv 0) (pa_cons (pe_glob (v := .ref c.Unlike.C) (by rfl) T.x_Unlike.gC rfl) pa_nil))) (pa_cons (pe_callB (call_isAny) (by rfl) T.b_isinstance bt_isinstance (pa_cons (pv 0) (pa_cons (pe_glob (v := .ref c.TooMany.C) (by rfl) T.x_TooMany.gC rfl) pa_nil))) (pa_cons (pe_callB (call_isAny) (by rfl) T.b_isinstance bt_isinstance (pa_cons (pv 0) (pa_cons (pe_glob (v := .ref c.NoBack.C) (by rfl) T.x_NoBack.gC rfl) pa_nil))) (pa_cons (pe_callB (call_isAny) (by rfl) T.b_isinstance bt_isinstance (pa_cons (pv 0) (pa_cons (pe_glob (v := .ref c.NotMet.C) (by rfl) T.x_NotMet.gC rfl) pa_nil))) pa_nil))))))))))), ?_⟩
    refine ⟨.ref e, rfl, .inl (.inl ⟨e, C, d, .ref c.NoText.C, .ref c.NoText.C, _, rfl, xi, (ea.mono (Same.refl H)), (ef_mono (Same.refl H) ef), .own _, kit_two xc T.x_NoText.xc nr, ?_⟩)⟩
    refine ⟨.ref e, rfl, .inl (.inl ⟨e, C, d, .ref c.NoDeed.C, .ref c.NoDeed.C, _, rfl, xi, (ea.mono (Same.refl H)), (ef_mono (Same.refl H) ef), .own _, kit_two xc T.x_NoDeed.xc nr, ?_⟩)⟩
    refine ⟨.ref e, rfl, .inl (.inl ⟨e, C, d, .ref c.NoWay.C, .ref c.NoWay.C, _, rfl, xi, (ea.mono (Same.refl H)), (ef_mono (Same.refl H) ef), .own _, kit_two xc T.x_NoWay.xc nr, ?_⟩)⟩
    refine ⟨.ref e, rfl, .inl (.inl ⟨e, C, d, .ref c.NoGoal.C, .ref c.NoGoal.C, _, rfl, xi, (ea.mono (Same.refl H)), (ef_mono (Same.refl H) ef), .own _, kit_two xc T.x_NoGoal.xc nr, ?_⟩)⟩
    refine ⟨by show 4 ≤ sizeLine; decide, fun d0 nd0 => ?_⟩
    refine ⟨_, rfl, ?_⟩
    refine ⟨.ref e, rfl, .inl (.inl ⟨e, C, d, .ref c.NoTurning.C, .ref c.NoTurning.C, _, rfl, xi, (ea.mono (same_new nd0)), (ef_mono (same_new nd0) ef), .own _, kit_two xc T.x_NoTurning.xc nr, ?_⟩)⟩
    refine ⟨.ref e, rfl, .inl (.inl ⟨e, C, d, .ref c.NoName.C, .ref c.NoName.C, _, rfl, xi, (ea.mono (same_new nd0)), (ef_mono (same_new nd0) ef), .own _, kit_two xc T.x_NoName.xc nr, ?_⟩)⟩
    refine ⟨.ref e, rfl, .inl (.inl ⟨e, C, d, .ref c.NoReply.C, .ref c.NoReply.C, _, rfl, xi, (ea.mono (same_new nd0)), (ef_mono (same_new nd0) ef), .own _, kit_two xc T.x_NoReply.xc nr, ?_⟩)⟩
    refine ⟨.ref e, rfl, .inl (.inl ⟨e, C, d, .ref c.NoNumber.C, .ref c.NoNumber.C, _, rfl, xi, (ea.mono (same_new nd0)), (ef_mono (same_new nd0) ef), .own _, kit_two xc T.x_NoNumber.xc nr, ?_⟩)⟩
    refine ⟨by show 4 ≤ sizeLine; decide, fun d1 nd1 => ?_⟩
    refine .inl ⟨_, _, _, _, rfl, rfl, same_new nd1 _ _ upd_same, upd_same, by show 4 + 4 ≤ sizeLine; decide, fun l1 nl1 => ?_⟩
    refine ⟨_, rfl, ?_⟩
    refine ⟨.ref e, rfl, .inl (.inl ⟨e, C, d, .ref c.NoMoment.C, .ref c.NoMoment.C, _, rfl, xi, (ea.mono ((same_new nd0).trans ((same_new nd1).trans (same_new nl1)))), (ef_mono ((same_new nd0).trans ((same_new nd1).trans (same_new nl1))) ef), .own _, kit_two xc T.x_NoMoment.xc nr, ?_⟩)⟩
    refine ⟨.ref e, rfl, .inl (.inl ⟨e, C, d, .ref c.NoPlan.C, .ref c.NoPlan.C, _, rfl, xi, (ea.mono ((same_new nd0).trans ((same_new nd1).trans (same_new nl1)))), (ef_mono ((same_new nd0).trans ((same_new nd1).trans (same_new nl1))) ef), .own _, kit_two xc T.x_NoPlan.xc nr, ?_⟩)⟩
    refine ⟨.ref e, rfl, .inl (.inl ⟨e, C, d, .ref c.NoMore.C, .ref c.NoMore.C, _, rfl, xi, (ea.mono ((same_new nd0).trans ((same_new nd1).trans (same_new nl1)))), (ef_mono ((same_new nd0).trans ((same_new nd1).trans (same_new nl1))) ef), .own _, kit_two xc T.x_NoMore.xc nr, ?_⟩)⟩
    refine ⟨.ref e, rfl, .inl (.inl ⟨e, C, d, .ref c.NotRising.C, .ref c.NotRising.C, _, rfl, xi, (ea.mono ((same_new nd0).trans ((same_new nd1).trans (same_new nl1)))), (ef_mono ((same_new nd0).trans ((same_new nd1).trans (same_new nl1))) ef), .own _, kit_two xc T.x_NotRising.xc nr, ?_⟩)⟩
    refine ⟨by show 4 ≤ sizeLine; decide, fun d2 nd2 => ?_⟩
    refine .inl ⟨_, _, _, _, rfl, rfl, same_new nd2 _ _ upd_same, upd_same, by show 8 + 4 ≤ sizeLine; decide, fun l2 nl2 => ?_⟩
    refine ⟨_, rfl, ?_⟩
    refine ⟨.ref e, rfl, .inl (.inl ⟨e, C, d, .ref c.Unlike.C, .ref c.Unlike.C, _, rfl, xi, (ea.mono ((same_new nd0).trans ((same_new nd1).trans ((same_new nl1).trans ((same_new nd2).trans (same_new nl2)))))), (ef_mono ((same_new nd0).trans ((same_new nd1).trans ((same_new nl1).trans ((same_new nd2).trans (same_new nl2))))) ef), .own _, kit_two xc T.x_Unlike.xc nr, ?_⟩)⟩
    refine ⟨.ref e, rfl, .inl (.inl ⟨e, C, d, .ref c.TooMany.C, .ref c.TooMany.C, _, rfl, xi, (ea.mono ((same_new nd0).trans ((same_new nd1).trans ((same_new nl1).trans ((same_new nd2).trans (same_new nl2)))))), (ef_mono ((same_new nd0).trans ((same_new nd1).trans ((same_new nl1).trans ((same_new nd2).trans (same_new nl2))))) ef), .own _, kit_two xc T.x_TooMany.xc nr, ?_⟩)⟩
    refine ⟨.ref e, rfl, .inl (.inl ⟨e, C, d, .ref c.NoBack.C, .ref c.NoBack.C, _, rfl, xi, (ea.mono ((same_new nd0).trans ((same_new nd1).trans ((same_new nl1).trans ((same_new nd2).trans (same_new nl2)))))), (ef_mono ((same_new nd0).trans ((same_new nd1).trans ((same_new nl1).trans ((same_new nd2).trans (same_new nl2))))) ef), .own _, kit_two xc T.x_NoBack.xc nr, ?_⟩)⟩
    refine ⟨.ref e, rfl, .inl (.inl ⟨e, C, d, .ref c.NotMet.C, .ref c.NotMet.C, _, rfl, xi, (ea.mono ((same_new nd0).trans ((same_new nd1).trans ((same_new nl1).trans ((same_new nd2).trans (same_new nl2)))))), (ef_mono ((same_new nd0).trans ((same_new nd1).trans ((same_new nl1).trans ((same_new nd2).trans (same_new nl2))))) ef), .own _, kit_two xc T.x_NotMet.xc nr, ?_⟩)⟩
    refine ⟨by show 4 ≤ sizeLine; decide, fun d3 nd3 => ?_⟩
    refine .inl ⟨_, _, _, _, rfl, rfl, same_new nd3 _ _ upd_same, upd_same, by show 12 + 4 ≤ sizeLine; decide, fun l3 nl3 => ?_⟩
    exact q _ _ (((same_new nd0).trans ((same_new nd1).trans ((same_new nl1).trans ((same_new nd2).trans ((same_new nl2).trans (same_new nd3)))))).free nl3) ((same_new nd0).trans ((same_new nd1).trans ((same_new nl1).trans ((same_new nd2).trans ((same_new nl2).trans ((same_new nd3).trans (same_new nl3))))))) upd_same
def spBases (K : PySem.W.Frag) : Sp := fun vs H Q _ => ∃ (e C : Addr) (fs : List (Str × V)) (T : List Value), vs = [.ref e] ∧ CK K C T ∧ ExOne H e C fs ∧ ∀ (l : Addr) (H' : Hp), H l = none → Same H H' → H' l = some (.lst (bs10.map fun S => V.bl (T.contains (.type S)))) → Q (.ref l) H'
theorem c_bases {c : CA} (T : Txt P w K mg base c) {f : Addr} {fd : FuncData} (F : C8.Def K mg "_law_bases" s__law_bases f fd) (b : Binds K fd ["e"] []) : C8.Cal P w K mg base 1 "_law_bases" (spBases K) [] := by
  refine C8.cal0 F b .nil sc__law_bases (fun vs H Q E h => ?_) (fun cdv A outer s H vs Q E hr h => ?_)
  · obtain ⟨e, C, fs, U, rfl, _⟩ := h
    rfl
  · obtain ⟨e, C, fs, U, rfl, ⟨⟨B, n1, n2, bm, xc⟩, xi, nr⟩, ⟨d, ea, ed⟩, q⟩ := h
    have hu := hu_of hr
    have ef := ExOne.f ed
    have u := Same.refl H
    refine ⟨_, (pss_cons (ps_set (i := 1) sc__law_bases.nd rfl (.inl rfl) (pe_lst (pa_cons (pe_callB (call_isAny) (by rfl) T.b_isinstance bt_isinstance (pa_cons (pv 0) (pa_cons (pe_bltn (v := .ty "ValueError") (by rfl) T.b_ValueError (by decide +kernel) rfl) pa_nil))) (pa_cons (pe_callB (call_isAny) (by rfl) T.b_isinstance bt_isinstance (pa_cons (pv 0) (pa_cons (pe_bltn (v := .ty "LookupError") (by rfl) T.b_LookupError (by decide +kernel) rfl) pa_nil))) (pa_cons (pe_callB (call_isAny) (by rfl) T.b_isinstance bt_isinstance (pa_cons (pv 0) (pa_cons (pe_bltn (v := .ty "KeyError") (by rfl) T.b_KeyError (by decide +kernel) rfl) pa_nil))) (pa_cons (pe_callB (call_isAny) (by rfl) T.b_isinstance bt_isinstance (pa_cons (pv 0) (pa_cons (pe_bltn (v := .ty "IndexError") (by rfl) T.b_IndexError (by decide +kernel) rfl) pa_nil))) pa_nil))))))
  (pss_cons (ps_set (i := 1) sc__law_bases.nd rfl (.inl rfl) (pe_op (op_addG (K := K)) (pv 1) (pe_lst (pa_cons (pe_callB (call_isAny) (by rfl) T.b_isinstance bt_isinstance (pa_cons (pv 0) (pa_cons (pe_bltn (v := .ty "ArithmeticError") (by rfl) T.b_ArithmeticError (by decide +kernel) rfl) pa_nil))) (pa_cons (pe_callB (call_isAny) (by rfl) T.b_isinstance bt_isinstance (pa_cons (pv 0) (pa_cons (pe_bltn (v := .ty "OverflowError") (by rfl) T.b_OverflowError (by decide +kernel) rfl) pa_nil))) (pa_cons (pe_callB (call_isAny) (by rfl) T.b_isinstance bt_isinstance (pa_cons (pv 0) (pa_cons (pe_bltn (v := .ty "ZeroDivisionError") (by rfl) T.b_ZeroDivisionError (by decide +kernel) rfl) pa_nil))) pa_nil))))))
  (pss_one (ps_ret (pe_op (op_addG (K := K)) (pv 1) (pe_lst (pa_cons (pe_callB (call_isAny) (by rfl) T.b_isinstance bt_isinstance (pa_cons (pv 0) (pa_cons (pe_bltn (v := .ty "RuntimeError") (by rfl) T.b_RuntimeError (by decide +kernel) rfl) pa_nil))) (pa_cons (pe_callB (call_isAny) (by rfl) T.b_isinstance bt_isinstance (pa_cons (pv 0) (pa_cons (pe_bltn (v := .ty "NotImplementedError") (by rfl) T.b_NotImplementedError (by decide +kernel) rfl) pa_nil))) (pa_cons (pe_callB (call_isAny) (by rfl) T.b_isinstance bt_isinstance (pa_cons (pv 0) (pa_cons (pe_bltn (v := .ty "TypeError") (by rfl) T.b_TypeError (by decide +kernel) rfl) pa_nil))) pa_nil))))))))), ?_⟩
    refine ⟨.ref e, rfl, .inl (.inl ⟨e, C, d, .ty "ValueError", .type "ValueError", _, rfl, xi, (ea.mono (Same.refl H)), (ef_mono (Same.refl H) ef), .ty _, kit_base xc (by decide +kernel), ?_⟩)⟩
    refine ⟨.ref e, rfl, .inl (.inl ⟨e, C, d, .ty "LookupError", .type "LookupError", _, rfl, xi, (ea.mono (Same.refl H)), (ef_mono (Same.refl H) ef), .ty _, kit_base xc (by decide +kernel), ?_⟩)⟩
    refine ⟨.ref e, rfl, .inl (.inl ⟨e, C, d, .ty "KeyError", .type "KeyError", _, rfl, xi, (ea.mono (Same.refl H)), (ef_mono (Same.refl H) ef), .ty _, kit_base xc (by decide +kernel), ?_⟩)⟩
    refine ⟨.ref e, rfl, .inl (.inl ⟨e, C, d, .ty "IndexError", .type "IndexError", _, rfl, xi, (ea.mono (Same.refl H)), (ef_mono (Same.refl H) ef), .ty _, kit_base xc (by decide +kernel), ?_⟩)⟩
    refine ⟨by show 4 ≤ sizeLine; decide, fun d0 nd0 => ?_⟩
    refine ⟨_, rfl, ?_⟩
    refine ⟨.ref e, rfl, .inl (.inl ⟨e, C, d, .ty "ArithmeticError", .type "ArithmeticError", _, rfl, xi, (ea.mono (same_new nd0)), (ef_mono (same_new nd0) ef), .ty _, kit_base xc (by decide +kernel), ?_⟩)⟩
    refine ⟨.ref e, rfl, .inl (.inl ⟨e, C, d, .ty "OverflowError", .type "OverflowError", _, rfl, xi, (ea.mono (same_new nd0)), (ef_mono (same_new nd0) ef), .ty _, kit_base xc (by decide +kernel), ?_⟩)⟩
    refine ⟨.ref e, rfl, .inl (.inl ⟨e, C, d, .ty "ZeroDivisionError", .type "ZeroDivisionError", _, rfl, xi, (ea.mono (same_new nd0)), (ef_mono (same_new nd0) ef), .ty _, kit_base xc (by decide +kernel), ?_⟩)⟩
    refine ⟨by show 3 ≤ sizeLine; decide, fun d1 nd1 => ?_⟩
    refine .inl ⟨_, _, _, _, rfl, rfl, same_new nd1 _ _ upd_same, upd_same, by show 4 + 3 ≤ sizeLine; decide, fun l1 nl1 => ?_⟩
    refine ⟨_, rfl, ?_⟩
    refine ⟨.ref e, rfl, .inl (.inl ⟨e, C, d, .ty "RuntimeError", .type "RuntimeError", _, rfl, xi, (ea.mono ((same_new nd0).trans ((same_new nd1).trans (same_new nl1)))), (ef_mono ((same_new nd0).trans ((same_new nd1).trans (same_new nl1))) ef), .ty _, kit_base xc (by decide +kernel), ?_⟩)⟩
    refine ⟨.ref e, rfl, .inl (.inl ⟨e, C, d, .ty "NotImplementedError", .type "NotImplementedError", _, rfl, xi, (ea.mono ((same_new nd0).trans ((same_new nd1).trans (same_new nl1)))), (ef_mono ((same_new nd0).trans ((same_new nd1).trans (same_new nl1))) ef), .ty _, kit_base xc (by decide +kernel), ?_⟩)⟩
    refine ⟨.ref e, rfl, .inl (.inl ⟨e, C, d, .ty "TypeError", .type "TypeError", _, rfl, xi, (ea.mono ((same_new nd0).trans ((same_new nd1).trans (same_new nl1)))), (ef_mono ((same_new nd0).trans ((same_new nd1).trans (same_new nl1))) ef), .ty _, kit_base xc (by decide +kernel), ?_⟩)⟩
    refine ⟨by show 3 ≤ sizeLine; decide, fun d2 nd2 => ?_⟩
    refine .inl ⟨_, _, _, _, rfl, rfl, same_new nd2 _ _ upd_same, upd_same, by show 7 + 3 ≤ sizeLine; decide, fun l2 nl2 => ?_⟩
    exact q _ _ (((same_new nd0).trans ((same_new nd1).trans ((same_new nl1).trans (same_new nd2)))).free nl2) ((same_new nd0).trans ((same_new nd1).trans ((same_new nl1).trans ((same_new nd2).trans (same_new nl2))))) upd_same
/-- the fields of all, in their order -/
def fields16 (a b : V) : List V := [a, a, a, b, a, a, a, a, a, a, a, a, a, a]
end
end Wd

set_option Elab.async false
set_option linter.all false
set_option maxRecDepth 100000
set_option maxHeartbeats 4000000
namespace Wd
open PySem PySem.Spec PyProof.Rows L2
abbrev s__law_due_bases : Stmt := topS 24
theorem sc__law_due_bases : FnScope ["under", "one", "letter"] [] (C8.fnScope s__law_due_bases) := ⟨rfl, rfl, rfl, by decide +kernel, rfl, by decide +kernel, by decide +kernel⟩
def under16 : List Str := ["V", "V", "V", "V", "V", "LK", "LK", "LI", "LI", "L", "L", "A", "A", "AO", "R", "R"]
def letZ : Str := "VLKIAOZRNT"
def bitsOf (s : Str) : List Bool := letZ.cps.toList.map fun c => decide (c ∈ s.cps.toList)
def rowD (bs : List Bool) : PyData := .list (bs.map PyData.bool)
theorem same_mut {H H' : Hp} {p : Addr} {o : HO} (s : Same H H') (n : H p = none) : Same H (upd H' p o) := fun a u e => by
  rw [upd_ne (ne_of_none e n)]
  exact s a u e
theorem take_snoc {α : Type} {l : List α} {i : Nat} {x : α} (h : l[i]? = some x) : l.take (i + 1) = l.take i ++ [x] := by
  rw [List.take_add_one, h]
  rfl
theorem yes_if {σ : L2.St} {H : Hp} {A B : Bool → Hp → Prop} (h : A true H) : tYes σ H fun b H3 => if b = true then A b H3 else B b H3 := by
  show (if true = true then A true H else B true H)
  rw [if_pos rfl]
  exact h
theorem same_at {H Hx : Hp} {D : Addr} (_ : Hx D = none) (s : Same H Hx) : Same H Hx := s
theorem lst_at {K : PySem.W.Frag} {Hx : Hp} {D p : Addr} {xs : List V} (_ : Hx D = none) (e : Hx p = some (.lst xs)) : SqL K Hx p xs := .inl (.inl e)
section
variable {P : Program} {w : World} {K : PySem.W.Frag} {mg : Str → Option Value} {base : Heap}
def spDue (K : PySem.W.Frag) : Sp := fun vs H Q _ => vs = [] ∧ ∀ (l : Addr) (H' : Hp), Same H H' → Dq anyA K H' (.ref l) (.list (under16.map fun s => rowD (bitsOf s))) → Q (.ref l) H'
theorem c_due {c : CA} (T : Txt P w K mg base c) {f : Addr} {fd : FuncData} (F : C8.Def K mg "_law_due_bases" s__law_due_bases f fd) (b : Binds K fd [] []) : C8.Cal P w K mg base 1 "_law_due_bases" (spDue K) [] := by
  refine C8.cal0 F b .nil sc__law_due_bases (fun vs H Q E h => ?_) (fun cdv A outer s H vs Q E hr h => ?_)
  · obtain ⟨rfl, _⟩ := h
    rfl
  · obtain ⟨rfl, q⟩ := h
    have hu := hu_of hr
    refine ⟨_, (pss_cons (ps_set (i := 0) sc__law_due_bases.nd rfl (.inl rfl) (pe_op (op_addG (K := K)) (pe_op (op_addG (K := K)) (pe_op (op_addG (K := K)) (pe_op (op_addG (K := K)) (pe_op (op_addG (K := K)) (pe_op (op_addG (K := K)) (pe_op (op_mulG (K := K)) (pe_lst (pa_cons pe_str pa_nil)) pe_int) (pe_op (op_mulG (K := K)) (pe_lst (pa_cons pe_str pa_nil)) pe_int)) (pe_op (op_mulG (K := K)) (pe_lst (pa_cons pe_str pa_nil)) pe_int)) (pe_op (op_mulG (K := K)) (pe_lst (pa_cons pe_str pa_nil)) pe_int)) (pe_op (op_mulG (K := K)) (pe_lst (pa_cons pe_str pa_nil)) pe_int)) (pe_lst (pa_cons pe_str pa_nil))) (pe_op (op_mulG (K := K)) (pe_lst (pa_cons pe_str pa_nil)) pe_int)))
  (pss_one (ps_ret (pe_lc (own := [("one", 1)]) rfl sc__law_due_bases.nd (pi_listK (K := K) (pv 0)) (blkOk_by (by kernel_rfl)) (fun _ _ _ _ _ => (pg_name (i := 1) sc__law_due_bases.nd rfl (.inr rfl))) (fun _ _ _ _ _ => pts_nil)
      (fun _ _ _ _ _ => (pe_lc (own := [("letter", 2)]) rfl sc__law_due_bases.nd (pi_str pe_str) (blkOk_by (by kernel_rfl)) (fun _ _ _ _ _ => (pg_name (i := 2) sc__law_due_bases.nd rfl (.inl rfl))) (fun _ _ _ _ _ => pts_nil)
      (fun _ _ _ _ _ => (pe_cmpR (op_in_sign) (pv 2) (pv 1) (by rfl))))))))), ?_⟩
    refine ⟨by show 1 ≤ sizeLine; decide, fun a0 na0 => ⟨a0, 5, _, rfl, rfl, upd_same, by decide, by decide, by show 1 * 5 ≤ sizeLine; decide, fun b0 nb0 => ?_⟩⟩
    refine ⟨by show 1 ≤ sizeLine; decide, fun a1 na1 => ⟨a1, 2, _, rfl, rfl, upd_same, by decide, by decide, by show 1 * 2 ≤ sizeLine; decide, fun b1 nb1 => ?_⟩⟩
    refine .inl ⟨b0, b1, _, _, rfl, rfl, ((same_new na1).trans (same_new nb1)) _ _ upd_same, upd_same, by show 5 + 2 ≤ sizeLine; decide, fun p1 np1 => ?_⟩
    refine ⟨by show 1 ≤ sizeLine; decide, fun a2 na2 => ⟨a2, 2, _, rfl, rfl, upd_same, by decide, by decide, by show 1 * 2 ≤ sizeLine; decide, fun b2 nb2 => ?_⟩⟩
    refine .inl ⟨p1, b2, _, _, rfl, rfl, ((same_new na2).trans (same_new nb2)) _ _ upd_same, upd_same, by show 7 + 2 ≤ sizeLine; decide, fun p2 np2 => ?_⟩
    refine ⟨by show 1 ≤ sizeLine; decide, fun a3 na3 => ⟨a3, 2, _, rfl, rfl, upd_same, by decide, by decide, by show 1 * 2 ≤ sizeLine; decide, fun b3 nb3 => ?_⟩⟩
    refine .inl ⟨p2, b3, _, _, rfl, rfl, ((same_new na3).trans (same_new nb3)) _ _ upd_same, upd_same, by show 9 + 2 ≤ sizeLine; decide, fun p3 np3 => ?_⟩
    refine ⟨by show 1 ≤ sizeLine; decide, fun a4 na4 => ⟨a4, 2, _, rfl, rfl, upd_same, by decide, by decide, by show 1 * 2 ≤ sizeLine; decide, fun b4 nb4 => ?_⟩⟩
    refine .inl ⟨p3, b4, _, _, rfl, rfl, ((same_new na4).trans (same_new nb4)) _ _ upd_same, upd_same, by show 11 + 2 ≤ sizeLine; decide, fun p4 np4 => ?_⟩
    refine ⟨by show 1 ≤ sizeLine; decide, fun b5 nb5 => ?_⟩
    refine .inl ⟨p4, b5, _, _, rfl, rfl, (same_new nb5) _ _ upd_same, upd_same, by show 13 + 1 ≤ sizeLine; decide, fun p5 np5 => ?_⟩
    refine ⟨by show 1 ≤ sizeLine; decide, fun a6 na6 => ⟨a6, 2, _, rfl, rfl, upd_same, by decide, by decide, by show 1 * 2 ≤ sizeLine; decide, fun b6 nb6 => ?_⟩⟩
    refine .inl ⟨p5, b6, _, _, rfl, rfl, ((same_new na6).trans (same_new nb6)) _ _ upd_same, upd_same, by show 14 + 2 ≤ sizeLine; decide, fun p6 np6 => ?_⟩
    refine ⟨.ref p6, rfl, p6, rfl, ⟨_, .inl (.inl upd_same)⟩, fun D nD => ?_⟩
    have u0 := same_at nD ((same_new na0).trans ((same_new nb0).trans ((same_new na1).trans ((same_new nb1).trans ((same_new np1).trans ((same_new na2).trans ((same_new nb2).trans ((same_new np2).trans ((same_new na3).trans ((same_new nb3).trans ((same_new np3).trans ((same_new na4).trans ((same_new nb4).trans ((same_new np4).trans ((same_new nb5).trans ((same_new np5).trans ((same_new na6).trans ((same_new nb6).trans (same_new np6)))))))))))))))))))
    have hU := lst_at (K := K) (xs := under16.map V.str) (p := p6) nD upd_same
    refine lc_list (a := p6) (xs := under16.map V.str) (fun i H2 => Same _ H2 ∧ ∃ vs, H2 D = some (.lst vs) ∧ DqAll (fun a => a ≠ D) K H2 vs ((under16.take i).map fun s => rowD (bitsOf s))) ⟨same_new nD, [], upd_same, .nil⟩ (fun i H2 _ p => sqL_at (fun o => p.1 _ o) hU) (fun i x H2 hx p => ?_) (fun H2 p => ?_)
    · obtain ⟨sm, vs, hD, dq⟩ := p
      rw [List.getElem?_map] at hx
      obtain ⟨z, hz, rfl⟩ := Option.map_eq_some_iff.mp hx
      refine ⟨rfl, ?_⟩
      refine yes_if ?_
      refine ⟨_, rfl, fun D2 nD2 => ?_⟩
      have ne : D2 ≠ D := (ne_of_none hD nD2).symm
      refine lc_it walk_str (fun j H3 => Same H2 H3 ∧ H3 D2 = some (.lst (((bitsOf z).take j).map V.bl))) ⟨same_new nD2, upd_same⟩ (fun _ _ _ _ => trivial) (fun j y H3 H3' hj p hy => ?_) (fun H3 p => ?_)
      · obtain ⟨sm3, h3⟩ := p
        obtain ⟨rfl, cc, hc, rfl⟩ := hy
        refine ⟨rfl, ?_⟩
        refine yes_if ?_
        refine ⟨_, rfl, _, rfl, cc, z, rfl, rfl, _, h3, ?_, same_mut sm3 nD2, ?_⟩
        · rw [List.length_map, List.length_take]
          exact Nat.lt_of_le_of_lt (Nat.min_le_left _ _) (small1000 (Nat.le_trans (Nat.le_of_lt hj) (by decide)))
        · rw [upd_same]
          have hb : (bitsOf z)[j]? = some (decide (cc ∈ z.cps.toList)) := by
            unfold bitsOf
            rw [List.getElem?_map, Array.getElem?_toList, show letZ.cps[j]? = some cc from hc]
            rfl
          rw [take_snoc hb, List.map_append]
          rfl
      · obtain ⟨sm3, h3⟩ := p
        have full : (bitsOf z).take letZ.cps.size = bitsOf z := List.take_of_length_le (by simp [bitsOf])
        have h3' : H3 D2 = some (.lst ((bitsOf z).map V.bl)) := by
          rw [← full]
          exact h3
        refine ⟨vs, sm3 _ _ hD, ?_, same_mut (sm.trans sm3) nD, _, upd_same, ?_⟩
        · have l := dq.length
          rw [l, List.length_map, List.length_take]
          exact Nat.lt_of_le_of_lt (Nat.min_le_right _ _) (small1000 (by decide))
        · rw [take_snoc hz, List.map_append]
          refine DqAll.move (fun _ n => n) (fun a o na e => by rw [upd_ne na]; exact e) _ _ (DqAll.snoc (dq.mono sm3) ?_)
          exact .lst ne (.inl (.inl h3')) (DqAll.bools _)
    · obtain ⟨sm, vs, hD, dq⟩ := p
      exact q D H2 (u0.trans sm) (.lst trivial (.inl (.inl hD)) dq.any)
end
end Wd

set_option Elab.async false
set_option linter.all false
set_option maxRecDepth 100000
set_option maxHeartbeats 4000000
namespace Wd
open PySem PySem.Spec PyProof.Rows L2
theorem ex_f {H : Hp} {e C : Addr} {p : Str × V} {fs : List (Str × V)} (x : ExOne H e C (p :: fs)) : ∃ dx, ExAt H e C (some dx) ∧ ExD H dx (p :: fs) := by
  obtain ⟨d, ea, y⟩ := x
  rcases y with ⟨z, _⟩ | ⟨dx, rfl, y⟩
  · cases z
  · exact ⟨dx, ea, y⟩
theorem at_ref {es : List Addr} {i : Nat} {e : Addr} (h : es[i]? = some e) : atI (es.map V.ref) (i : Int) = some (.ref e) := atI_nat (j := i) (by rw [List.getElem?_map, h]; rfl)
section
variable {P : Program} {w : World} {K : PySem.W.Frag} {mg : Str → Option Value} {base : Heap}
def spFields (K : PySem.W.Frag) (c : CA) : Sp := fun vs H Q _ => ∃ (l : Addr) (es : List Addr) (a b : V), vs = [.ref l] ∧ H l = some (.lst (es.map V.ref)) ∧ AllEx H es (sixteen c a b) ∧ ∀ (r : Addr) (H' : Hp), Same H H' → H' r = some (.lst (fields16 a b)) → Q (.ref r) H'
theorem c_fields {c : CA} (T : Txt P w K mg base c) {f : Addr} {fd : FuncData} (F : C8.Def K mg "_law_fields" s__law_fields f fd) (b : Binds K fd ["made"] []) : C8.Cal P w K mg base 1 "_law_fields" (spFields K c) [] := by
  refine C8.cal0 F b .nil sc__law_fields (fun vs H Q E h => ?_) (fun cdv A outer s H vs Q E hr h => ?_)
  · obtain ⟨l, es, a, b, rfl, _⟩ := h
    rfl
  · obtain ⟨l, es, a, b, rfl, hl, A, q⟩ := h
    have hu := hu_of hr
    refine ⟨_, (pss_cons (ps_set (i := 1) sc__law_fields.nd rfl (.inl rfl) (pe_lst (pa_cons (pe_xattr (pe_ix (ixG (K := K)) (pv 0) pe_int (fun _ _ => rfl))) (pa_cons (pe_xattr (pe_ix (ixG (K := K)) (pv 0) pe_int (fun _ _ => rfl))) (pa_cons (pe_xattr (pe_ix (ixG (K := K)) (pv 0) pe_int (fun _ _ => rfl))) (pa_cons (pe_xattr (pe_ix (ixG (K := K)) (pv 0) pe_int (fun _ _ => rfl))) (pa_cons (pe_xattr (pe_ix (ixG (K := K)) (pv 0) pe_int (fun _ _ => rfl))) (pa_cons (pe_xattr (pe_ix (ixG (K := K)) (pv 0) pe_int (fun _ _ => rfl))) (pa_cons (pe_xattr (pe_ix (ixG (K := K)) (pv 0) pe_int (fun _ _ => rfl))) (pa_cons (pe_xattr (pe_ix (ixG (K := K)) (pv 0) pe_int (fun _ _ => rfl))) pa_nil))))))))))
  (pss_cons (ps_set (i := 1) sc__law_fields.nd rfl (.inl rfl) (pe_op (op_addG (K := K)) (pv 1) (pe_lst (pa_cons (pe_xattr (pe_ix (ixG (K := K)) (pv 0) pe_int (fun _ _ => rfl))) (pa_cons (pe_xattr (pe_ix (ixG (K := K)) (pv 0) pe_int (fun _ _ => rfl))) (pa_cons (pe_xattr (pe_ix (ixG (K := K)) (pv 0) pe_int (fun _ _ => rfl))) (pa_cons (pe_xattr (pe_ix (ixG (K := K)) (pv 0) pe_int (fun _ _ => rfl))) (pa_cons (pe_xattr (pe_ix (ixG (K := K)) (pv 0) pe_int (fun _ _ => rfl))) (pa_cons (pe_xattr (pe_ix (ixG (K := K)) (pv 0) pe_int (fun _ _ => rfl))) pa_nil)))))))))
  (pss_one (ps_ret (pv 1))))), ?_⟩
    obtain ⟨e0, he0, x0⟩ := A.at (i := 0) (k := (c.NoText.C, [("row", a)])) rfl
    obtain ⟨dx0, ea0, ed0⟩ := ex_f x0
    obtain ⟨e1, he1, x1⟩ := A.at (i := 1) (k := (c.NoDeed.C, [("why", a)])) rfl
    obtain ⟨dx1, ea1, ed1⟩ := ex_f x1
    obtain ⟨e2, he2, x2⟩ := A.at (i := 2) (k := (c.NoWay.C, [("why", b), ("at", a)])) rfl
    obtain ⟨dx2, ea2, ed2⟩ := ex_f x2
    obtain ⟨e3, he3, x3⟩ := A.at (i := 3) (k := (c.NoGoal.C, [("at", a)])) rfl
    obtain ⟨dx3, ea3, ed3⟩ := ex_f x3
    obtain ⟨e4, he4, x4⟩ := A.at (i := 4) (k := (c.NoTurning.C, [("at", a)])) rfl
    obtain ⟨dx4, ea4, ed4⟩ := ex_f x4
    obtain ⟨e5, he5, x5⟩ := A.at (i := 5) (k := (c.NoName.C, [("asked", a)])) rfl
    obtain ⟨dx5, ea5, ed5⟩ := ex_f x5
    obtain ⟨e6, he6, x6⟩ := A.at (i := 6) (k := (c.NoReply.C, [("asked", a)])) rfl
    obtain ⟨dx6, ea6, ed6⟩ := ex_f x6
    obtain ⟨e7, he7, x7⟩ := A.at (i := 7) (k := (c.NoNumber.C, [("asked", a)])) rfl
    obtain ⟨dx7, ea7, ed7⟩ := ex_f x7
    obtain ⟨e8, he8, x8⟩ := A.at (i := 8) (k := (c.NoMoment.C, [("asked", a)])) rfl
    obtain ⟨dx8, ea8, ed8⟩ := ex_f x8
    obtain ⟨e10, he10, x10⟩ := A.at (i := 10) (k := (c.NoMore.C, [("word", a)])) rfl
    obtain ⟨dx10, ea10, ed10⟩ := ex_f x10
    obtain ⟨e11, he11, x11⟩ := A.at (i := 11) (k := (c.NotRising.C, [("name", a)])) rfl
    obtain ⟨dx11, ea11, ed11⟩ := ex_f x11
    obtain ⟨e13, he13, x13⟩ := A.at (i := 13) (k := (c.TooMany.C, [("most", a)])) rfl
    obtain ⟨dx13, ea13, ed13⟩ := ex_f x13
    obtain ⟨e14, he14, x14⟩ := A.at (i := 14) (k := (c.NoBack.C, [("at", a)])) rfl
    obtain ⟨dx14, ea14, ed14⟩ := ex_f x14
    refine ⟨.ref l, rfl, .inl ⟨l, _, 0, .ref e0, rfl, rfl, .inl (.inl hl), at_ref he0, e0, c.NoText.C, dx0, _, _, rfl, T.x_NoText.xi, ea0, ed0, T.x_NoText.off, rfl, ?_⟩⟩
    refine ⟨.ref l, rfl, .inl ⟨l, _, 1, .ref e1, rfl, rfl, .inl (.inl hl), at_ref he1, e1, c.NoDeed.C, dx1, _, _, rfl, T.x_NoDeed.xi, ea1, ed1, T.x_NoDeed.off, rfl, ?_⟩⟩
    refine ⟨.ref l, rfl, .inl ⟨l, _, 2, .ref e2, rfl, rfl, .inl (.inl hl), at_ref he2, e2, c.NoWay.C, dx2, _, _, rfl, T.x_NoWay.xi, ea2, ed2, T.x_NoWay.off, rfl, ?_⟩⟩
    refine ⟨.ref l, rfl, .inl ⟨l, _, 2, .ref e2, rfl, rfl, .inl (.inl hl), at_ref he2, e2, c.NoWay.C, dx2, _, _, rfl, T.x_NoWay.xi, ea2, ed2, T.x_NoWay.off2, rfl, ?_⟩⟩
    refine ⟨.ref l, rfl, .inl ⟨l, _, 3, .ref e3, rfl, rfl, .inl (.inl hl), at_ref he3, e3, c.NoGoal.C, dx3, _, _, rfl, T.x_NoGoal.xi, ea3, ed3, T.x_NoGoal.off, rfl, ?_⟩⟩
    refine ⟨.ref l, rfl, .inl ⟨l, _, 4, .ref e4, rfl, rfl, .inl (.inl hl), at_ref he4, e4, c.NoTurning.C, dx4, _, _, rfl, T.x_NoTurning.xi, ea4, ed4, T.x_NoTurning.off, rfl, ?_⟩⟩
    refine ⟨.ref l, rfl, .inl ⟨l, _, 5, .ref e5, rfl, rfl, .inl (.inl hl), at_ref he5, e5, c.NoName.C, dx5, _, _, rfl, T.x_NoName.xi, ea5, ed5, T.x_NoName.off, rfl, ?_⟩⟩
    refine ⟨.ref l, rfl, .inl ⟨l, _, 6, .ref e6, rfl, rfl, .inl (.inl hl), at_ref he6, e6, c.NoReply.C, dx6, _, _, rfl, T.x_NoReply.xi, ea6, ed6, T.x_NoReply.off, rfl, ?_⟩⟩
    refine ⟨by show 8 ≤ sizeLine; decide, fun d0 nd0 => ?_⟩
    refine ⟨_, rfl, ?_⟩
    refine ⟨.ref l, rfl, .inl ⟨l, _, 7, .ref e7, rfl, rfl, .inl (.inl (same_new nd0 _ _ hl)), at_ref he7, e7, c.NoNumber.C, dx7, _, _, rfl, T.x_NoNumber.xi, ea7.mono (same_new nd0), ed7.mono (same_new nd0), T.x_NoNumber.off, rfl, ?_⟩⟩
    refine ⟨.ref l, rfl, .inl ⟨l, _, 8, .ref e8, rfl, rfl, .inl (.inl (same_new nd0 _ _ hl)), at_ref he8, e8, c.NoMoment.C, dx8, _, _, rfl, T.x_NoMoment.xi, ea8.mono (same_new nd0), ed8.mono (same_new nd0), T.x_NoMoment.off, rfl, ?_⟩⟩
    refine ⟨.ref l, rfl, .inl ⟨l, _, 10, .ref e10, rfl, rfl, .inl (.inl (same_new nd0 _ _ hl)), at_ref he10, e10, c.NoMore.C, dx10, _, _, rfl, T.x_NoMore.xi, ea10.mono (same_new nd0), ed10.mono (same_new nd0), T.x_NoMore.off, rfl, ?_⟩⟩
    refine ⟨.ref l, rfl, .inl ⟨l, _, 11, .ref e11, rfl, rfl, .inl (.inl (same_new nd0 _ _ hl)), at_ref he11, e11, c.NotRising.C, dx11, _, _, rfl, T.x_NotRising.xi, ea11.mono (same_new nd0), ed11.mono (same_new nd0), T.x_NotRising.off, rfl, ?_⟩⟩
    refine ⟨.ref l, rfl, .inl ⟨l, _, 13, .ref e13, rfl, rfl, .inl (.inl (same_new nd0 _ _ hl)), at_ref he13, e13, c.TooMany.C, dx13, _, _, rfl, T.x_TooMany.xi, ea13.mono (same_new nd0), ed13.mono (same_new nd0), T.x_TooMany.off, rfl, ?_⟩⟩
    refine ⟨.ref l, rfl, .inl ⟨l, _, 14, .ref e14, rfl, rfl, .inl (.inl (same_new nd0 _ _ hl)), at_ref he14, e14, c.NoBack.C, dx14, _, _, rfl, T.x_NoBack.xi, ea14.mono (same_new nd0), ed14.mono (same_new nd0), T.x_NoBack.off, rfl, ?_⟩⟩
    refine ⟨by show 6 ≤ sizeLine; decide, fun d1 nd1 => ?_⟩
    refine .inl ⟨_, _, _, _, rfl, rfl, same_new nd1 _ _ upd_same, upd_same, by show 8 + 6 ≤ sizeLine; decide, fun d2 nd2 => ?_⟩
    exact ⟨_, rfl, q _ _ ((same_new nd0).trans ((same_new nd1).trans (same_new nd2))) upd_same⟩
end
end Wd

set_option Elab.async false
set_option linter.all false
set_option maxRecDepth 100000
set_option maxHeartbeats 8000000
namespace Wd
open PySem PySem.Spec PyProof.Rows L2
abbrev s_law : Stmt := topS 26
theorem sc_law : FnScope ["script", "pen", "bout", "some", "a", "b", "made", "k", "e", "j"] ["script"] (C8.fnScope s_law) := ⟨rfl, rfl, rfl, by decide +kernel, rfl, by decide +kernel, by decide +kernel⟩
/-- data that shows short -/
structure Neat (d : PyData) : Prop where
  short : d.leavesShort 13 = true
  show_ : d.showable = true
  wt : d.weight ≤ 100
  dp : d.depth ≤ 3
theorem neat_int {i : Int} (h : i.natAbs < 10 ^ 10) : Neat (.int i) := by
  have l : i.natAbs.log2 < 1920 := by
    by_cases z : i.natAbs = 0
    · rw [z]; decide
    · exact Nat.lt_trans ((Nat.log2_lt z).mpr (show i.natAbs < 2 ^ 34 by omega)) (by decide)
  have l2 : i.natAbs.log2 ≤ 50 := by
    by_cases z : i.natAbs = 0
    · rw [z]; decide
    · exact Nat.le_of_lt ((Nat.log2_lt z).mpr (show i.natAbs < 2 ^ 50 by omega))
  refine ⟨?_, ?_, ?_, by simp [PyData.depth]⟩
  · show decide _ = true
    exact decide_eq_true (PyData.shown_int_le (by omega))
  · show decide _ = true
    exact decide_eq_true l
  · show (if i == 0 then 0 else i.natAbs.log2 + 1) ≤ 100
    split <;> omega
theorem neat_by {d : PyData} (h : (d.leavesShort 13 && d.showable && decide (d.weight ≤ 100) && decide (d.depth ≤ 3)) = true) : Neat d := by
  simp only [Bool.and_eq_true, decide_eq_true_eq] at h
  exact ⟨h.1.1.1, h.1.1.2, h.1.2, h.2⟩
theorem neat_list : ∀ {ds : List PyData}, (∀ d ∈ ds, Neat d) → PyData.leavesShortAll 13 ds = true ∧ PyData.showableAll ds = true ∧ PyData.weightAll ds ≤ 101 * ds.length ∧ PyData.depthAll ds ≤ 3
  | [], _ => ⟨rfl, rfl, by simp [PyData.weightAll], by simp [PyData.depthAll]⟩
  | d :: ds, h => by
    have n := h d (List.mem_cons_self ..)
    obtain ⟨a, b, c, e⟩ := neat_list fun x hx => h x (List.mem_cons_of_mem _ hx)
    refine ⟨?_, ?_, ?_, ?_⟩
    · simp [PyData.leavesShortAll, n.short, a]
    · simp [PyData.showableAll, n.show_, b]
    · simp only [PyData.weightAll, List.length_cons]
      have := n.wt
      omega
    · simp only [PyData.depthAll]
      have := n.dp
      omega
theorem DqAll.mem {N : Addr → Prop} {K : PySem.W.Frag} {H : Hp} : ∀ {vs : List V} {ds : List PyData} {v : V}, DqAll N K H vs ds → v ∈ vs → ∃ d, d ∈ ds ∧ Dq N K H v d
  | _, _, v, .nil, h => by cases h
  | _, _, v, .cons (v := x) y r, h => by
    rcases List.mem_cons.mp h with e | h
    · subst e
      exact ⟨_, List.mem_cons_self .., y⟩
    · obtain ⟨d, m, q⟩ := r.mem h
      exact ⟨d, List.mem_cons_of_mem _ m, q⟩
theorem sqL_pen {K : PySem.W.Frag} {H H' : Hp} {p a : Addr} {n : Nat} {xs : List V} (hp : Pen K H p n) (hs : SqL K H a xs) (k : Kp p H H') : SqL K H' a xs := by
  obtain ⟨c, L, t, r, e, _⟩ := hp
  rcases hs with (h | ⟨u, h⟩) | h
  · exact .inl (.inl (k _ _ (ne_of h e (by intro z; cases z)) h))
  · exact .inl (.inr ⟨u, k _ _ (ne_of h e (by intro z; cases z)) h⟩)
  · exact .inr h
theorem Pen.same {K : PySem.W.Frag} {H H' : Hp} {p : Addr} {n : Nat} (hp : Pen K H p n) (s : Same H H') : Pen K H' p n := by
  obtain ⟨c, L, t, r, e, q, m⟩ := hp
  exact ⟨c, L, t, r, s _ _ e, s.seq q, m⟩
theorem Pen.off {K : PySem.W.Frag} {H : Hp} {p l : Addr} {n : Nat} (hp : Pen K H p n) (n' : H l = none) : l ≠ p := by
  obtain ⟨c, L, t, r, e, _⟩ := hp
  exact (ne_of_none e n').symm
theorem Dq.kp {K : PySem.W.Frag} {H H' : Hp} {p : Addr} {v : V} {d : PyData} (h : Dq (· ≠ p) K H v d) (k : Kp p H H') : Dq (· ≠ p) K H' v d := Dq.move (fun _ n => n) (fun a o n e => k a o n e) d v h
theorem DqAll.kp {K : PySem.W.Frag} {H H' : Hp} {p : Addr} {v : List V} {d : List PyData} (h : DqAll (· ≠ p) K H v d) (k : Kp p H H') : DqAll (· ≠ p) K H' v d := DqAll.move (fun _ n => n) (fun a o n e => k a o n e) d v h
theorem Paired.at {α β : Type} {F : α → β → Prop} : ∀ {l : List α} {r : List β} {i : Nat} {x : α}, Paired F l r → l[i]? = some x → ∃ y, r[i]? = some y ∧ F x y
  | _, _, i, _, .nil, h => by cases i <;> cases h
  | _, _, 0, _, .cons f t, h => by
    cases h
    exact ⟨_, rfl, f⟩
  | _, _, i + 1, _, .cons f t, h => Paired.at (i := i) t h
theorem AllEx.len {H : Hp} : ∀ {es : List Addr} {ks : List (Addr × List (Str × V))}, AllEx H es ks → es.length = ks.length
  | _, _, .nil => rfl
  | _, _, .cons x r => by rw [List.length_cons, List.length_cons, r.len]
theorem bools_lay : ∀ bs : List Bool, PyData.canLayAll0 (bs.map PyData.bool) = true
  | [] => by simp [PyData.canLayAll0]
  | x :: r => by simp [PyData.canLayAll0, PyData.canLay0, bools_lay r]
theorem bools_depth : ∀ bs : List Bool, PyData.depthAll (bs.map PyData.bool) = 0
  | [] => by simp [PyData.depthAll]
  | x :: r => by simp [PyData.depthAll, PyData.depth, bools_depth r]
theorem row_shaped (bs : List Bool) : SeqAt.shaped (rowD bs) = true := by
  show (PyData.canLay0 _ && decide _) = true
  rw [Bool.and_eq_true]
  exact ⟨by unfold rowD; simp only [PyData.canLay0]; exact bools_lay bs, decide_eq_true (by unfold rowD; simp only [PyData.depth, bools_depth]; omega)⟩
theorem rows_lay : ∀ rs : List (List Bool), PyData.canLayAll0 (rs.map rowD) = true ∧ PyData.depthAll (rs.map rowD) ≤ 1
  | [] => ⟨by simp [PyData.canLayAll0], by simp [PyData.depthAll]⟩
  | x :: r => by
    obtain ⟨h1, h2⟩ := rows_lay r
    refine ⟨?_, ?_⟩
    · simp only [List.map_cons, PyData.canLayAll0, h1, Bool.and_true]
      unfold rowD
      simp only [PyData.canLay0]
      exact bools_lay x
    · simp only [List.map_cons, PyData.depthAll]
      have : (rowD x).depth = 1 := by unfold rowD; simp only [PyData.depth, bools_depth]
      omega
theorem rows_shaped (rs : List (List Bool)) : SeqAt.shaped (.list (rs.map rowD)) = true := by
  obtain ⟨h1, h2⟩ := rows_lay rs
  show (PyData.canLay0 _ && decide _) = true
  rw [Bool.and_eq_true]
  exact ⟨by simp only [PyData.canLay0]; exact h1, decide_eq_true (by simp only [PyData.depth]; omega)⟩
theorem shaped_lay {d : PyData} (h : SeqAt.shaped d = true) : d.canLay0 = true := by
  have h' : (PyData.canLay0 d && decide (d.depth ≤ 64)) = true := h
  rw [Bool.and_eq_true] at h'
  exact h'.1
theorem noDict_row (bs : List Bool) : (rowD bs).hasDict = false := PyData.hasDict_of_canLay _ (shaped_lay (row_shaped bs))
theorem noDict_rows (rs : List (List Bool)) : (PyData.list (rs.map rowD)).hasDict = false := PyData.hasDict_of_canLay _ (shaped_lay (rows_shaped rs))
def tbits (T : List Value) : List Bool := bs10.map fun S => T.contains (.type S)
theorem due_eq : ts16.map tbits = under16.map bitsOf := by decide +kernel
theorem nodup_at {l : List Addr} (h : l.Nodup) {i j : Nat} {x y : Addr} (hi : l[i]? = some x) (hj : l[j]? = some y) : decide (x = y) = decide (i = j) := by
  by_cases e : i = j
  · subst e
    rw [hi] at hj
    cases hj
    simp
  · have ne : x ≠ y := by
      intro z
      subst z
      obtain ⟨h1, e1⟩ := List.getElem?_eq_some_iff.mp hi
      obtain ⟨h2, e2⟩ := List.getElem?_eq_some_iff.mp hj
      exact e ((List.getElem_inj (h₀ := h1) (h₁ := h2) h).mp (e1.trans e2.symm))
    rw [decide_eq_false e, decide_eq_false ne]
section
variable {P : Program} {w : World} {K : PySem.W.Frag} {mg : Str → Option Value} {base : Heap}
theorem ck_all {c : CA} (T : Txt P w K mg base c) (a b : V) : Paired (fun (k : Addr × List (Str × V)) U => CK K k.1 U) (sixteen c a b) ts16 := (.cons ⟨⟨_, _, _, _, T.x_NoText.xc⟩, T.x_NoText.xi, rfl⟩ (.cons ⟨⟨_, _, _, _, T.x_NoDeed.xc⟩, T.x_NoDeed.xi, rfl⟩ (.cons ⟨⟨_, _, _, _, T.x_NoWay.xc⟩, T.x_NoWay.xi, rfl⟩ (.cons ⟨⟨_, _, _, _, T.x_NoGoal.xc⟩, T.x_NoGoal.xi, rfl⟩ (.cons ⟨⟨_, _, _, _, T.x_NoTurning.xc⟩, T.x_NoTurning.xi, rfl⟩ (.cons ⟨⟨_, _, _, _, T.x_NoName.xc⟩, T.x_NoName.xi, rfl⟩ (.cons ⟨⟨_, _, _, _, T.x_NoReply.xc⟩, T.x_NoReply.xi, rfl⟩ (.cons ⟨⟨_, _, _, _, T.x_NoNumber.xc⟩, T.x_NoNumber.xi, rfl⟩ (.cons ⟨⟨_, _, _, _, T.x_NoMoment.xc⟩, T.x_NoMoment.xi, rfl⟩ (.cons ⟨⟨_, _, _, _, T.x_NoPlan.xc⟩, T.x_NoPlan.xi, rfl⟩ (.cons ⟨⟨_, _, _, _, T.x_NoMore.xc⟩, T.x_NoMore.xi, rfl⟩ (.cons ⟨⟨_, _, _, _, T.x_NotRising.xc⟩, T.x_NotRising.xi, rfl⟩ (.cons ⟨⟨_, _, _, _, T.x_Unlike.xc⟩, T.x_Unlike.xi, rfl⟩ (.cons ⟨⟨_, _, _, _, T.x_TooMany.xc⟩, T.x_TooMany.xi, rfl⟩ (.cons ⟨⟨_, _, _, _, T.x_NoBack.xc⟩, T.x_NoBack.xi, rfl⟩ (.cons ⟨⟨_, _, _, _, T.x_NotMet.xc⟩, T.x_NotMet.xi, rfl⟩ .nil))))))))))))))))
def d14 (da db : PyData) : PyData := .list [da, da, da, db, da, da, da, da, da, da, da, da, da, da]
theorem d14_ok {da db : PyData} (na : Neat da) (nb : Neat db) : (d14 da db).showable = true ∧ (d14 da db).shown.length ≤ sizeLine ∧ (d14 da db).depth ≤ 60 := by
  have all : ∀ d ∈ [da, da, da, db, da, da, da, da, da, da, da, da, da, da], Neat d := by
    intro d hd
    simp only [List.mem_cons, List.not_mem_nil, or_false] at hd
    rcases hd with rfl | rfl | rfl | rfl | rfl | rfl | rfl | rfl | rfl | rfl | rfl | rfl | rfl | rfl <;> assumption
  obtain ⟨h1, h2, h3, h4⟩ := neat_list all
  refine ⟨?_, ?_, ?_⟩
  · show PyData.showable (.list _) = true
    rw [PyData.showable]
    exact h2
  · refine PyData.shown_fits (B := 13) (by decide) (by decide) ?_ ?_
    · show PyData.leavesShort 13 (.list _) = true
      rw [PyData.leavesShort]
      exact h1
    · show PyData.weight (.list _) ≤ _
      rw [PyData.weight]
      refine Nat.le_trans h3 (by show 101 * 14 ≤ 2 ^ 20; decide)
  · show PyData.depth (.list _) ≤ _
    rw [PyData.depth]
    omega
end
section
variable {P : Program} {w : World} {K : PySem.W.Frag} {mg : Str → Option Value} {base : Heap}
def spLaw (K : PySem.W.Frag) : Sp := fun vs H Q _ => ∃ (a : Addr) (L : List Int), vs = [.ref a] ∧ SqL K H a (L.map V.int) ∧ L.length ≤ 63 ∧ ∀ H', Q (.bl true) H'
theorem c_law {c : CA} (T : Txt P w K mg base c) (c_law_pen : C8.Cal P w K mg base 1 "_law_pen" (spPen K) []) (c_law_draw : C8.Cal P w K mg base 1 "_law_draw" (spDraw K) []) (c_law_pick : C8.Cal P w K mg base 2 "_law_pick" (spPick K) [])
    (c_law_made_errors : C8.Cal P w K mg base 3 "_law_made_errors" (spMade K c) []) (c_law_kinds : C8.Cal P w K mg base 1 "_law_kinds" (spKinds K c) []) (c_law_bases : C8.Cal P w K mg base 1 "_law_bases" (spBases K) [])
    (c_law_due_bases : C8.Cal P w K mg base 1 "_law_due_bases" (spDue K) []) (c_law_fields : C8.Cal P w K mg base 1 "_law_fields" (spFields K c) [])
    {f : Addr} {fd : FuncData} (F : C8.Def K mg "law" s_law f fd) : FnG P w K mg base CX0 4 f fd ["script"] (spLaw K) := by
  refine fng F sc_law (fun vs H Q E h => ?_) (fun cdv A outer s H vs Q E hgd hr h => ?_)
  · obtain ⟨a, L, rfl, _⟩ := h
    rfl
  · obtain ⟨a, L, rfl, hS, hL, q⟩ := h
    have hu := hu_of hr
    have hu6 := hu64 hr
    refine ⟨_, (pss_cons (ps_set (i := 1) sc_law.nd rfl (.inl rfl) (C8.pe_c c_law_pen hr (by decide) (by rfl) (pa_cons (pv 0) pa_nil)))
  (pss_cons (ps_for PassesOwn.never rfl (pi_range1 rfl T.b_range (pa_cons (pe_op (op_addG (K := K)) pe_int (pe_callB (call_min2 rfl) (by rfl) T.b_min bt_min (pa_cons pe_int (pa_cons (pe_callB (call_lenG (K := K)) (by rfl) T.b_len bt_len (pa_cons (pv 0) pa_nil)) pa_nil)))) pa_nil)) (pg_name (i := 2) sc_law.nd rfl (.inl rfl))
    (pss_cons (ps_set (i := 3) sc_law.nd rfl (.inl rfl) (pe_lst (pa_cons (pe_op (op_sub) (C8.pe_c c_law_draw hr (by decide) (by rfl) (pa_cons (pv 1) (pa_cons (pe_op (op_pow) pe_int pe_int) pa_nil))) pe_int) (pa_cons (C8.pe_c c_law_pick hr (by decide) (by rfl) (pa_cons (pv 1) (pa_cons (pe_lst (pa_cons pe_str (pa_cons pe_str (pa_cons pe_str pa_nil)))) pa_nil))) (pa_cons (pe_tup pa_nil) (pa_cons (pe_tup (pa_cons pe_str (pa_cons pe_str pa_nil))) (pa_cons (pe_lst (pa_cons pe_int (pa_cons (pe_lst (pa_cons pe_int pa_nil)) pa_nil))) (pa_cons pe_non (pa_cons pe_dnewK pa_nil)))))))))
  (pss_cons (ps_par (i := 4) (j := 5) rfl sc_law.nd rfl rfl (by decide) rfl rfl (pa_cons (C8.pe_c c_law_pick hr (by decide) (by rfl) (pa_cons (pv 1) (pa_cons (pv 3) pa_nil))) (pa_cons (C8.pe_c c_law_pick hr (by decide) (by rfl) (pa_cons (pv 1) (pa_cons (pv 3) pa_nil))) pa_nil)) rfl)
  (pss_cons (ps_set (i := 6) sc_law.nd rfl (.inl rfl) (C8.pe_c c_law_made_errors hr (by decide) (by rfl) (pa_cons (pv 4) (pa_cons (pv 5) (pa_cons (pe_cmpR (op_eqX (K := K) hu6) (C8.pe_c c_law_draw hr (by decide) (by rfl) (pa_cons (pv 1) (pa_cons pe_int pa_nil))) pe_int (nomark _)) pa_nil)))))
  (pss_cons (ps_for PassesOwn.never rfl (pi_range1 rfl T.b_range (pa_cons (pe_callB (call_lenG (K := K)) (by rfl) T.b_len bt_len (pa_cons (pv 6) pa_nil)) pa_nil)) (pg_name (i := 7) sc_law.nd rfl (.inr rfl))
    (pss_one (ps_if (pt_cmpR (op_neX (K := K) hu6) (C8.pe_c c_law_kinds hr (by decide) (by rfl) (pa_cons (pe_ix (ixG (K := K)) (pv 6) (pv 7) (fun _ _ => rfl)) pa_nil)) (pe_lc (own := [("j", 9)]) rfl sc_law.nd (pi_range1 rfl T.b_range (pa_cons pe_int pa_nil)) (blkOk_by (by kernel_rfl)) (fun _ _ _ _ _ => (pg_name (i := 9) sc_law.nd rfl (.inl rfl))) (fun _ _ _ _ _ => pts_nil)
      (fun _ _ _ _ _ => (pe_cmpR (op_eqX (K := K) hu6) (pv 7) (pv 9) (nomark _)))) (nomark _)) (pss_one (ps_ret pe_bl)) pss_nil)))
  (C8.pss_cut (ps_if (pt_cmpR (op_neX (K := K) hu6) (pe_lc (own := [("e", 8)]) rfl sc_law.nd (pi_listK (K := K) (pv 6)) (blkOk_by (by kernel_rfl)) (fun _ _ _ _ _ => (pg_name (i := 8) sc_law.nd rfl (.inl rfl))) (fun _ _ _ _ _ => pts_nil)
      (fun _ _ _ _ _ => (C8.pe_c c_law_bases hr (by decide) (by rfl) (pa_cons (pv 8) pa_nil)))) (pe_c0 c_law_due_bases hr (by decide) (by rfl)) (nomark _)) (pss_one (ps_ret pe_bl)) pss_nil)
  (pss_one (ps_if (pt_cmpR (op_neX (K := K) hu6) (pe_callB (call_reprG hgd hu6) (by rfl) T.b_repr bt_repr (pa_cons (C8.pe_c c_law_fields hr (by decide) (by rfl) (pa_cons (pv 6) pa_nil)) pa_nil)) (pe_callB (call_reprG hgd hu6) (by rfl) T.b_repr bt_repr (pa_cons (pe_op (op_addG (K := K)) (pe_lst (pa_cons (pv 4) (pa_cons (pv 4) (pa_cons (pv 4) (pa_cons (pv 5) pa_nil))))) (pe_op (op_mulG (K := K)) (pe_lst (pa_cons (pv 4) pa_nil)) pe_int)) pa_nil)) (nomark _)) (pss_one (ps_ret pe_bl)) pss_nil))))))))
  (pss_one (ps_ret pe_bl)))), ?_⟩
    refine ⟨.ref a, rfl, a, L, rfl, hS, hL, fun p H1 np s1 hp => ?_⟩
    have hS1 := s1.seq hS
    refine ⟨.ref a, rfl, .inl ⟨_, .inl hS1, 4, _, rfl, _, rfl, ?_, ?_, ?_⟩⟩
    · split <;> omega
    · split <;> omega
    have hn7 : ∀ i : Nat, i < (3 + if (L.map V.int).length < (4 : Int) then ((L.map V.int).length : Int) else 4).toNat → i < 7 := fun i hi => by
      split at hi <;> omega
    refine for_range (fun i σ H2 => ∃ x2 x3 x4 x5 x6 x7 x8 x9, σ = [some (.ref a), some (.ref p), x2, x3, x4, x5, x6, x7, x8, x9] ∧ SqL K H2 a (L.map V.int) ∧ Pen K H2 p (5 * i)) ⟨none, none, none, none, none, none, none, none, rfl, hS1, hp⟩ (fun i σ H2 hi pv => ?_) (fun σ H2 pv => ?_)
    · have i7 := hn7 i hi
      clear hn7 hi
      obtain ⟨x2, x3, x4, x5, x6, x7, x8, x9, rfl, hS2, hp2⟩ := pv
      -- the things to pick from
      refine ⟨.ref p, rfl, 10, 9, rfl, rfl, ⟨by decide, by decide, by decide⟩, p, _, _, rfl, hp2, by omega, by decide, by decide, fun d H3 d0 d1 k3 hp3 => ⟨d, 5, rfl, rfl, ?_⟩⟩
      have hS3 := sqL_pen hp2 hS2 k3
      refine ⟨.ref p, rfl, by show 3 ≤ sizeLine; decide, fun l0 nl0 => ⟨p, l0, _, _, rfl, hp3.same (same_new nl0), by omega, hp3.off nl0, .inl (.inl (.inl upd_same)), by show 0 < 3; decide, by show 3 < 1000000; decide, fun v H4 hv k4 hp4 => ?_⟩⟩
      have hS4 := sqL_pen (hp3.same (same_new nl0)) ((same_new nl0).seq hS3) k4
      obtain ⟨z, rfl, nz⟩ : ∃ z : Str, v = .str z ∧ Neat (.str z) := by
        simp only [List.mem_cons, List.not_mem_nil, or_false] at hv
        rcases hv with rfl | rfl | rfl
        · exact ⟨_, rfl, neat_by (by decide +kernel)⟩
        · exact ⟨_, rfl, neat_by (by decide +kernel)⟩
        · exact ⟨_, rfl, neat_by (by decide +kernel)⟩
      refine ⟨by show 0 ≤ sizeLine; decide, fun q1 m1 => ?_⟩
      refine ⟨by show 2 ≤ sizeLine; decide, fun q2 m2 => ?_⟩
      refine ⟨by show 1 ≤ sizeLine; decide, fun q3 m3 => ⟨by show 2 ≤ sizeLine; decide, fun q4 m4 => ?_⟩⟩
      refine fun q5 m5 => ?_
      refine ⟨by show 7 ≤ sizeLine; decide, fun q6 m6 => ?_⟩
      have all : ∀ d' ∈ [PyData.int (d - 5), .str z, .tuple [], .tuple [.str "go", .str "a"], .list [.int 1, .list [.int 2]], .none, .dict []], Neat d' := by
        intro d' hd
        simp only [List.mem_cons, List.not_mem_nil, or_false] at hd
        rcases hd with rfl | rfl | rfl | rfl | rfl | rfl | rfl
        · exact neat_int (by rw [show (10 : Int) ^ (9 : Int).toNat = 1000000000 by decide] at d1; omega)
        · exact nz
        all_goals exact neat_by (by decide +kernel)
      generalize hds : [PyData.int (d - 5), .str z, .tuple [], .tuple [.str "go", .str "a"], .list [.int 1, .list [.int 2]], .none, .dict []] = ds at all
      -- a, b
      refine ⟨.ref p, rfl, .ref q6, rfl, p, q6, _, _, rfl, hp4.same ((same_new m1).trans ((same_new m2).trans ((same_new m3).trans ((same_new m4).trans ((same_new m5).trans (same_new m6)))))), by omega, ((hp4.same ((same_new m1).trans ((same_new m2).trans ((same_new m3).trans ((same_new m4).trans (same_new m5)))))).off m6), .inl (.inl (.inl upd_same)), by show 0 < 7; decide, by show 7 < 1000000; decide, fun va H5 hva k5 hp5 => ?_⟩
      have dq5 : DqAll (· ≠ p) K _ [.int (d - 5), .str z, .ref q1, .ref q2, .ref q4, .non, .ref q5] ds := DqAll.kp (by
        rw [← hds]
        exact .cons (.int _) (.cons (.str _) (.cons (.tup (hp4.off m1) (.inl (.inl (((same_new m2).trans ((same_new m3).trans ((same_new m4).trans ((same_new m5).trans (same_new m6))))) _ _ upd_same))) .nil) (.cons (.tup ((hp4.same (same_new m1)).off m2) (.inl (.inl (((same_new m3).trans ((same_new m4).trans ((same_new m5).trans (same_new m6)))) _ _ upd_same))) (.cons (.str _) (.cons (.str _) .nil))) (.cons (.lst ((hp4.same ((same_new m1).trans ((same_new m2).trans (same_new m3)))).off m4) (.inl (.inl (((same_new m5).trans (same_new m6)) _ _ upd_same))) (.cons (.int 1) (.cons (.lst ((hp4.same ((same_new m1).trans (same_new m2))).off m3) (.inl (.inl (((same_new m4).trans ((same_new m5).trans (same_new m6))) _ _ upd_same))) (.cons (.int 2) .nil)) .nil))) (.cons .non (.cons (.dct ((hp4.same ((same_new m1).trans ((same_new m2).trans ((same_new m3).trans (same_new m4))))).off m5) (.inl ((same_new m6) _ _ upd_same)) .nil) .nil)))))) ) k5
      have g5 := k5 q6 _ ((hp4.same ((same_new m1).trans ((same_new m2).trans ((same_new m3).trans ((same_new m4).trans (same_new m5)))))).off m6) upd_same
      have hS5 := sqL_pen (hp4.same ((same_new m1).trans ((same_new m2).trans ((same_new m3).trans ((same_new m4).trans ((same_new m5).trans (same_new m6))))))) (((same_new m1).trans ((same_new m2).trans ((same_new m3).trans ((same_new m4).trans ((same_new m5).trans (same_new m6)))))).seq hS4) k5
      clear k5
      have o6 := ((hp4.same ((same_new m1).trans ((same_new m2).trans ((same_new m3).trans ((same_new m4).trans (same_new m5)))))).off m6)
      clear m1 m2 m3 m4 m5 m6
      obtain ⟨da, hda, qa5⟩ := dq5.mem hva
      refine ⟨.ref p, rfl, .ref q6, rfl, p, q6, _, _, rfl, hp5, by omega, o6, .inl (.inl (.inl g5)), by show 0 < 7; decide, by show 7 < 1000000; decide, fun vb H6 hvb k6 hp6 => ⟨va, vb, rfl, ?_⟩⟩
      have hS6 := sqL_pen hp5 hS5 k6
      obtain ⟨db, hdb, qb6⟩ := (dq5.kp k6).mem hvb
      have qa6 := qa5.kp k6
      clear k6 g5 dq5 hva hvb qa5
      -- the errors
      refine ⟨va, rfl, vb, rfl, .ref p, rfl, p, 2, _, rfl, hp6, by omega, by decide, by decide, fun d2 H7 _ _ k7 hp7 => .inl ⟨rfl, va, vb, _, rfl, fun l es H8 s8 g8 A8 => ?_⟩⟩
      have hS8 := s8.seq (sqL_pen hp6 hS6 k7)
      have hp8 := hp7.same s8
      have qa8 := (qa6.kp k7).mono s8
      have qb8 := (qb6.kp k7).mono s8
      clear k7 s8 qa6 qb6 hp7 hS6
      have l16 : (es.map V.ref).length = 16 := by rw [List.length_map, A8.len]; rfl
      -- for k in range(len(made))
      refine ⟨.ref l, rfl, .inl ⟨_, .inl (.inl (.inl g8)), _, rfl, by omega, by omega, ?_⟩⟩
      refine for_range (fun j τ G => ∃ y2 y3 y7 y8 y9, τ = [some (.ref a), some (.ref p), y2, y3, some va, some vb, some (.ref l), y7, y8, y9] ∧ Same H8 G) ⟨_, _, _, _, _, rfl, Same.refl _⟩ (fun j τ G hj pv => ?_) (fun τ G pv => ?_)
      · obtain ⟨y2, y3, y7, y8, y9, rfl, sG⟩ := pv
        have hj16 : j < 16 := by omega
        have hk : (sixteen c va vb)[j]? = some ((sixteen c va vb)[j]'hj16) := List.getElem?_eq_getElem _
        obtain ⟨e, he, xe⟩ := A8.at hk
        obtain ⟨U, hU, ck⟩ := Paired.at (ck_all T va vb) hk
        have hC : (cs16 c)[j]? = some ((sixteen c va vb)[j]'hj16).1 := by
          have q1 : (cs16 c) = (sixteen c va vb).map (·.1) := rfl
          rw [q1, List.getElem?_map, hk]
          rfl
        generalize ((sixteen c va vb)[j]'hj16) = kk at hk xe ck hC
        refine ⟨.ref l, rfl, .int (0 + j), rfl, .inl ⟨l, _, (0 + j : Int), .ref e, rfl, rfl, .inl (.inl (sG _ _ g8)), ?_, e, kk.1, kk.2, U, rfl, ck, xe.mono sG, fun r G1 nr s1 g1 => ?_⟩⟩
        · rw [Int.zero_add]
          exact at_ref he
        refine ⟨16, rfl, by decide, by decide, fun D nD => ?_⟩
        refine lc_range (fun i G2 => Same G1 G2 ∧ G2 D = some (.lst ((((List.range 16).map fun i => decide (j = i)).take i).map V.bl))) ⟨same_new nD, upd_same⟩ (fun i G2 hi pv => ?_) (fun G2 pv => ?_)
        · obtain ⟨s2, g2⟩ := pv
          refine ⟨rfl, ?_⟩
          refine yes_if ?_
          refine ⟨_, rfl, _, rfl, .inl ⟨rfl, _, g2, ?_, same_mut s2 nD, ?_⟩⟩
          · rw [List.length_map, List.length_take]
            exact Nat.lt_of_le_of_lt (Nat.min_le_left _ _) (small1000 (by omega))
          · rw [upd_same]
            have hb : ((List.range 16).map fun i => decide (j = i))[i]? = some (decide (j = i)) := by
              rw [List.getElem?_map, List.getElem?_range (by omega)]
              rfl
            rw [take_snoc hb, List.map_append]
            have e0 : decide (V.int (0 + (j : Int)) = V.int (0 + (i : Int))) = decide (j = i) := by
              by_cases z : j = i
              · subst z
                simp
              · rw [decide_eq_false z]
                exact decide_eq_false fun q => z (by injection q with q; omega)
            rw [e0]
            rfl
        · obtain ⟨s2, g2⟩ := pv
          have eq1 : ((cs16 c).map fun D => decide (kk.1 = D)) = (List.range 16).map fun i => decide (j = i) := by
            refine List.ext_getElem? fun i => ?_
            rw [List.getElem?_map, List.getElem?_map]
            by_cases hi : i < 16
            · have h1 : (cs16 c)[i]? = some ((cs16 c)[i]'hi) := List.getElem?_eq_getElem _
              rw [h1, List.getElem?_range hi]
              exact congrArg some (nodup_at T.nodup hC h1)
            · rw [List.getElem?_eq_none (show (cs16 c).length ≤ i from by show 16 ≤ i; omega), List.getElem?_eq_none (by rw [List.length_range]; omega)]
              rfl
          have eq2 : ((cs16 c).map fun D => V.bl (decide (kk.1 = D))) = ((List.range 16).map fun i => decide (j = i)).map V.bl := by
            rw [← eq1, List.map_map]
            rfl
          have full : ((List.range 16).map fun i => decide (j = i)).take 16 = (List.range 16).map fun i => decide (j = i) := List.take_of_length_le (by simp)
          have g2' : G2 D = some (.lst (((List.range 16).map fun i => decide (j = i)).map V.bl)) := by
            rw [← full]
            exact g2
          have g1' := s2 _ _ g1
          rw [eq2] at g1'
          generalize ((List.range 16).map fun i => decide (j = i)) = bs at g1' g2'
          refine .inr ⟨rowD bs, rowD bs, .lst (.inl (.inl g1')) (DqAll.dp (N := anyA) _ _ (by simpa [PyData.hasDict, rowD] using noDict_row bs) (DqAll.bools bs)), .lst (.inl (.inl g2')) (DqAll.dp (N := anyA) _ _ (by simpa [PyData.hasDict, rowD] using noDict_row bs) (DqAll.bools bs)), row_shaped bs, row_shaped bs, _, rfl, ?_⟩
          rw [SeqAt.eqv_refl _ (shaped_lay (row_shaped bs))]
          refine iteF ?_
          exact ⟨_, _, _, _, _, rfl, sG.trans (s1.trans s2)⟩
      · obtain ⟨y2, y3, y7, y8, y9, rfl, sG⟩ := pv
        -- their places among Python's own
        refine ⟨fun τ' G' => ∃ y2 y3 y7 y8 y9, τ' = [some (.ref a), some (.ref p), y2, y3, some va, some vb, some (.ref l), y7, y8, y9] ∧ Same H8 G', ?_, ?_⟩
        · refine ⟨.ref l, rfl, l, rfl, ⟨_, .inl (.inl (sG _ _ g8))⟩, fun D nD => ?_⟩
          refine lc_list (a := l) (xs := es.map V.ref) (fun i G2 => Same G G2 ∧ ∃ vs, G2 D = some (.lst vs) ∧ DqAll (fun a => a ≠ D) K G2 vs ((ts16.take i).map fun U => rowD (tbits U))) ⟨same_new nD, [], upd_same, .nil⟩ (fun i G2 _ pv => .inl (.inl (pv.1 _ _ (sG _ _ g8)))) (fun i x G2 hx pv => ?_) (fun G2 pv => ?_)
          · obtain ⟨sm, vs, hD, dq⟩ := pv
            have hi : i < 16 := by
              obtain ⟨h1, _⟩ := List.getElem?_eq_some_iff.mp hx
              omega
            have hk : (sixteen c va vb)[i]? = some ((sixteen c va vb)[i]'hi) := List.getElem?_eq_getElem _
            obtain ⟨e, he, xe⟩ := A8.at hk
            obtain ⟨U, hU, ck⟩ := Paired.at (ck_all T va vb) hk
            generalize ((sixteen c va vb)[i]'hi) = kk at hk xe ck
            rw [List.getElem?_map, he] at hx
            cases hx
            refine ⟨rfl, ?_⟩
            refine yes_if ?_
            refine ⟨_, rfl, e, kk.1, kk.2, U, rfl, ck, xe.mono (sG.trans sm), fun r G3 nr s3 g3 => ?_⟩
            have ne : r ≠ D := (ne_of_none hD nr).symm
            refine ⟨vs, s3 _ _ hD, ?_, same_mut (sm.trans s3) nD, _, upd_same, ?_⟩
            · rw [dq.length, List.length_map, List.length_take]
              exact Nat.lt_of_le_of_lt (Nat.min_le_right _ _) (small1000 (by decide))
            · rw [take_snoc hU, List.map_append]
              refine DqAll.move (fun _ n => n) (fun a o na e => by rw [upd_ne na]; exact e) _ _ (DqAll.snoc (dq.mono s3) ?_)
              refine .lst ne (.inl (.inl g3)) ?_
              have e1 : (bs10.map fun S => V.bl (U.contains (.type S))) = (tbits U).map V.bl := by
                unfold tbits
                rw [List.map_map]
                rfl
              rw [e1]
              exact DqAll.bools _
          · obtain ⟨sm, vs, hD, dq⟩ := pv
            refine ⟨rfl, fun l2 G3 s3 q3 => ?_⟩
            have full : ts16.take (es.map V.ref).length = ts16 := List.take_of_length_le (by rw [l16]; decide)
            rw [full] at dq
            have m1 : (ts16.map fun U => rowD (tbits U)) = (ts16.map tbits).map rowD := by rw [List.map_map]; rfl
            have m2 : (under16.map fun s => rowD (bitsOf s)) = (under16.map bitsOf).map rowD := by rw [List.map_map]; rfl
            rw [m1] at dq
            rw [m2, ← due_eq] at q3
            have dq3 := dq.mono s3
            refine .inr ⟨.list ((ts16.map tbits).map rowD), .list ((ts16.map tbits).map rowD), Dq.dp (N := anyA) _ _ (noDict_rows _) (.lst trivial (.inl (.inl (s3 _ _ hD))) dq3.any), Dq.dp _ _ (noDict_rows _) q3, rows_shaped _, rows_shaped _, _, rfl, ?_⟩
            rw [SeqAt.eqv_refl _ (shaped_lay (rows_shaped _))]
            refine iteF ?_
            exact ⟨_, _, _, _, _, rfl, sG.trans (sm.trans s3)⟩
        · rintro τ' G' ⟨y2', y3', y7', y8', y9', rfl, s9⟩
          -- their fields
          obtain ⟨sh, sz, dep⟩ := d14_ok (all da hda) (all db hdb)
          refine ⟨.ref l, rfl, l, es, va, vb, rfl, s9 _ _ g8, A8.mono s9, fun r G2 s2 g2 => ?_⟩
          have qa := (qa8.mono (s9.trans s2)).any
          have qb := (qb8.mono (s9.trans s2)).any
          refine ⟨.ref r, d14 da db, rfl, .lst trivial (.inl (.inl g2)) (.cons qa (.cons qa (.cons qa (.cons qb (.cons qa (.cons qa (.cons qa (.cons qa (.cons qa (.cons qa (.cons qa (.cons qa (.cons qa (.cons qa .nil)))))))))))))), sh, sz, dep, ?_⟩
          refine ⟨va, rfl, va, rfl, va, rfl, vb, rfl, by show 4 ≤ sizeLine; decide, fun w1 k1 => ?_⟩
          refine ⟨va, rfl, by show 1 ≤ sizeLine; decide, fun w2 k2 => ⟨w2, 10, _, rfl, rfl, upd_same, by decide, by decide, by show 1 * 10 ≤ sizeLine; decide, fun w3 k3 => ?_⟩⟩
          refine .inl ⟨w1, w3, _, _, rfl, rfl, ((same_new k2).trans (same_new k3)) _ _ upd_same, upd_same, by show 4 + 10 ≤ sizeLine; decide, fun w4 k4 => ?_⟩
          have s4 := same_at k4 ((same_new k1).trans ((same_new k2).trans (same_new k3)))
          have qa2 := qa.mono (s4.trans (same_new (o := .lst [va, va, va, vb, va, va, va, va, va, va, va, va, va, va]) k4))
          have qb2 := qb.mono (s4.trans (same_new (o := .lst [va, va, va, vb, va, va, va, va, va, va, va, va, va, va]) k4))
          refine ⟨.ref w4, d14 da db, rfl, .lst trivial (.inl (.inl upd_same)) (.cons qa2 (.cons qa2 (.cons qa2 (.cons qb2 (.cons qa2 (.cons qa2 (.cons qa2 (.cons qa2 (.cons qa2 (.cons qa2 (.cons qa2 (.cons qa2 (.cons qa2 (.cons qa2 .nil)))))))))))))), sh, sz, dep, ?_⟩
          refine .inl ⟨rfl, _, rfl, ?_⟩
          rw [decide_eq_true rfl]
          refine iteF ?_
          have s5 := s9.trans (s2.trans (s4.trans (same_new (o := .lst [va, va, va, vb, va, va, va, va, va, va, va, va, va, va]) k4)))
          exact ⟨_, _, _, _, _, _, _, _, rfl, s5.seq hS8, (by rw [Nat.mul_succ]; exact hp8.same s5)⟩
    · obtain ⟨x2, x3, x4, x5, x6, x7, x8, x9, rfl, _⟩ := pv
      exact q H2
end
end Wd

set_option Elab.async false
set_option linter.all false
set_option maxRecDepth 100000
set_option maxHeartbeats 8000000
namespace Wd
open PySem PySem.Spec PyProof.Rows L2
theorem xis_mk {K : PySem.W.Frag} {D : Addr} (h1 : PySem.W.findIn K (.ref D) "__getattribute__" = some (some (.builtin "BaseException.__getattribute__"))) (h2 : PySem.W.findIn K (.ref D) "__getattr__" = some none) (h3 : PySem.W.subIn K (.ref D) (.type "BaseException") = some true)
    (h4 : PySem.W.hasDictIn K D = true) (h5 : PySem.W.findIn K (.ref D) "__class__" = some (some (.builtin "object.__class__"))) (h6 : PySem.W.specialIn K (.builtin "object.__class__") "__get__" = some (some (.builtin "getset_descriptor.__get__"))) (h7 : PySem.W.takesIn K (.builtin "object.__class__") = some true)
    (h8 : PySem.W.mroIn K D (.type "object") = some true) : PySem.W.XIs K D := ⟨h1, h2, h3, h4, h5, h6, h7, h8⟩
theorem kbn_p {K : PySem.W.Frag} {fd : FuncData} {ps : List Str} {n : Nat} (h : ∀ us : List Value, us.length = n → bindArgs fd ⟨us, []⟩ = pure (ps.zip us)) : KBn K fd ps n [] (fun us _ => us) (fun vs _ => vs) :=
  ⟨fun s us ws _ l1 _ => .of_eq (h us l1), fun r _ => r⟩
theorem vals_rev {vs : List V} {us : List Value} (r : Vals vs us) : Vals vs.reverse us.reverse := by
  induction r with
  | nil => exact .nil
  | cons a t ih =>
    rw [List.reverse_cons, List.reverse_cons]
    exact Vals.append ih (.cons a .nil)
theorem kbn_k {K : PySem.W.Frag} {fd : FuncData} {f : Str} (h : ∀ u w : Value, bindArgs fd ⟨[u], [(f, w)]⟩ = pure [(("self" : Str), u), (f, w)]) : KBn K fd ["self", f] 1 [f] (fun us ws => us ++ ws) (fun vs zs => vs ++ zs) :=
  ⟨fun s us ws _ l1 l2 => .of_eq (match us, ws, l1, l2 with | [u], [w], _, _ => h u w), fun r rz => Vals.append r rz⟩
theorem kbn_k2 {K : PySem.W.Frag} {fd : FuncData} {f g : Str} (h : ∀ u w z : Value, bindArgs fd ⟨[u], [(g, w), (f, z)]⟩ = pure [(("self" : Str), u), (f, z), (g, w)]) : KBn K fd ["self", f, g] 1 [g, f] (fun us ws => us ++ ws.reverse) (fun vs zs => vs ++ zs.reverse) :=
  ⟨fun s us ws _ l1 l2 => .of_eq (match us, ws, l1, l2 with | [u], [w, z], _, _ => h u w z), fun r rz => Vals.append r (vals_rev rz)⟩
theorem all_mk {l : PySem.W.OpenLaw} {w : World} {K : PySem.W.Frag} {h : Heap} {mg : Str → Option Value} {fa : Addr} (X : K.In h) (G : h.Ns mainGlobals mg) (hfa : mg "law" = some (.ref fa))
    {CNoText NNoText : Addr} {nmNoText qNoText : Str} {bsNoText subNoText : List Value} {snNoText : List Str} {abNoText : Bool} {colNoText : Option Bool} {ddNoText : Option Addr} {k0NoText k1NoText k2NoText k3NoText k5NoText : Option Value}
    {fNoText : Addr} {ocNoText kVNoText docNoText pmNoText cdNoText ctNoText : Value} {odNoText anNoText : Option Addr} {slNoText : Array (Option Value)}
    {CNoDeed NNoDeed : Addr} {nmNoDeed qNoDeed : Str} {bsNoDeed subNoDeed : List Value} {snNoDeed : List Str} {abNoDeed : Bool} {colNoDeed : Option Bool} {ddNoDeed : Option Addr} {k0NoDeed k1NoDeed k2NoDeed k3NoDeed k5NoDeed : Option Value}
    {fNoDeed : Addr} {ocNoDeed kVNoDeed docNoDeed pmNoDeed cdNoDeed ctNoDeed : Value} {odNoDeed anNoDeed : Option Addr} {slNoDeed : Array (Option Value)}
    {CNoWay NNoWay : Addr} {nmNoWay qNoWay : Str} {bsNoWay subNoWay : List Value} {snNoWay : List Str} {abNoWay : Bool} {colNoWay : Option Bool} {ddNoWay : Option Addr} {k0NoWay k1NoWay k2NoWay k3NoWay k5NoWay : Option Value}
    {fNoWay : Addr} {ocNoWay kVNoWay docNoWay pmNoWay cdNoWay ctNoWay : Value} {odNoWay anNoWay : Option Addr} {slNoWay : Array (Option Value)}
    {CNoGoal NNoGoal : Addr} {nmNoGoal qNoGoal : Str} {bsNoGoal subNoGoal : List Value} {snNoGoal : List Str} {abNoGoal : Bool} {colNoGoal : Option Bool} {ddNoGoal : Option Addr} {k0NoGoal k1NoGoal k2NoGoal k3NoGoal k5NoGoal : Option Value}
    {fNoGoal : Addr} {ocNoGoal kVNoGoal docNoGoal pmNoGoal cdNoGoal ctNoGoal : Value} {odNoGoal anNoGoal : Option Addr} {slNoGoal : Array (Option Value)}
    {CNoTurning NNoTurning : Addr} {nmNoTurning qNoTurning : Str} {bsNoTurning subNoTurning : List Value} {snNoTurning : List Str} {abNoTurning : Bool} {colNoTurning : Option Bool} {ddNoTurning : Option Addr} {k0NoTurning k1NoTurning k2NoTurning k3NoTurning k5NoTurning : Option Value}
    {fNoTurning : Addr} {ocNoTurning kVNoTurning docNoTurning pmNoTurning cdNoTurning ctNoTurning : Value} {odNoTurning anNoTurning : Option Addr} {slNoTurning : Array (Option Value)}
    {CNoName NNoName : Addr} {nmNoName qNoName : Str} {bsNoName subNoName : List Value} {snNoName : List Str} {abNoName : Bool} {colNoName : Option Bool} {ddNoName : Option Addr} {k0NoName k1NoName k2NoName k3NoName k5NoName : Option Value}
    {fNoName : Addr} {ocNoName kVNoName docNoName pmNoName cdNoName ctNoName : Value} {odNoName anNoName : Option Addr} {slNoName : Array (Option Value)}
    {CNoReply NNoReply : Addr} {nmNoReply qNoReply : Str} {bsNoReply subNoReply : List Value} {snNoReply : List Str} {abNoReply : Bool} {colNoReply : Option Bool} {ddNoReply : Option Addr} {k0NoReply k1NoReply k2NoReply k3NoReply k5NoReply : Option Value}
    {fNoReply : Addr} {ocNoReply kVNoReply docNoReply pmNoReply cdNoReply ctNoReply : Value} {odNoReply anNoReply : Option Addr} {slNoReply : Array (Option Value)}
    {CNoNumber NNoNumber : Addr} {nmNoNumber qNoNumber : Str} {bsNoNumber subNoNumber : List Value} {snNoNumber : List Str} {abNoNumber : Bool} {colNoNumber : Option Bool} {ddNoNumber : Option Addr} {k0NoNumber k1NoNumber k2NoNumber k3NoNumber k5NoNumber : Option Value}
    {fNoNumber : Addr} {ocNoNumber kVNoNumber docNoNumber pmNoNumber cdNoNumber ctNoNumber : Value} {odNoNumber anNoNumber : Option Addr} {slNoNumber : Array (Option Value)}
    {CNoMoment NNoMoment : Addr} {nmNoMoment qNoMoment : Str} {bsNoMoment subNoMoment : List Value} {snNoMoment : List Str} {abNoMoment : Bool} {colNoMoment : Option Bool} {ddNoMoment : Option Addr} {k0NoMoment k1NoMoment k2NoMoment k3NoMoment k5NoMoment : Option Value}
    {fNoMoment : Addr} {ocNoMoment kVNoMoment docNoMoment pmNoMoment cdNoMoment ctNoMoment : Value} {odNoMoment anNoMoment : Option Addr} {slNoMoment : Array (Option Value)}
    {CNoPlan NNoPlan : Addr} {nmNoPlan qNoPlan : Str} {bsNoPlan subNoPlan : List Value} {snNoPlan : List Str} {abNoPlan : Bool} {colNoPlan : Option Bool} {ddNoPlan : Option Addr} {k0NoPlan k1NoPlan k2NoPlan k3NoPlan k5NoPlan : Option Value}
    {CNoMore NNoMore : Addr} {nmNoMore qNoMore : Str} {bsNoMore subNoMore : List Value} {snNoMore : List Str} {abNoMore : Bool} {colNoMore : Option Bool} {ddNoMore : Option Addr} {k0NoMore k1NoMore k2NoMore k3NoMore k5NoMore : Option Value}
    {fNoMore : Addr} {ocNoMore kVNoMore docNoMore pmNoMore cdNoMore ctNoMore : Value} {odNoMore anNoMore : Option Addr} {slNoMore : Array (Option Value)}
    {CNotRising NNotRising : Addr} {nmNotRising qNotRising : Str} {bsNotRising subNotRising : List Value} {snNotRising : List Str} {abNotRising : Bool} {colNotRising : Option Bool} {ddNotRising : Option Addr} {k0NotRising k1NotRising k2NotRising k3NotRising k5NotRising : Option Value}
    {fNotRising : Addr} {ocNotRising kVNotRising docNotRising pmNotRising cdNotRising ctNotRising : Value} {odNotRising anNotRising : Option Addr} {slNotRising : Array (Option Value)}
    {CUnlike NUnlike : Addr} {nmUnlike qUnlike : Str} {bsUnlike subUnlike : List Value} {snUnlike : List Str} {abUnlike : Bool} {colUnlike : Option Bool} {ddUnlike : Option Addr} {k0Unlike k1Unlike k2Unlike k3Unlike k5Unlike : Option Value}
    {CTooMany NTooMany : Addr} {nmTooMany qTooMany : Str} {bsTooMany subTooMany : List Value} {snTooMany : List Str} {abTooMany : Bool} {colTooMany : Option Bool} {ddTooMany : Option Addr} {k0TooMany k1TooMany k2TooMany k3TooMany k5TooMany : Option Value}
    {fTooMany : Addr} {ocTooMany kVTooMany docTooMany pmTooMany cdTooMany ctTooMany : Value} {odTooMany anTooMany : Option Addr} {slTooMany : Array (Option Value)}
    {CNoBack NNoBack : Addr} {nmNoBack qNoBack : Str} {bsNoBack subNoBack : List Value} {snNoBack : List Str} {abNoBack : Bool} {colNoBack : Option Bool} {ddNoBack : Option Addr} {k0NoBack k1NoBack k2NoBack k3NoBack k5NoBack : Option Value}
    {fNoBack : Addr} {ocNoBack kVNoBack docNoBack pmNoBack cdNoBack ctNoBack : Value} {odNoBack anNoBack : Option Addr} {slNoBack : Array (Option Value)}
    {CNotMet NNotMet : Addr} {nmNotMet qNotMet : Str} {bsNotMet subNotMet : List Value} {snNotMet : List Str} {abNotMet : Bool} {colNotMet : Option Bool} {ddNotMet : Option Addr} {k0NotMet k1NotMet k2NotMet k3NotMet k5NotMet : Option Value}
    {df0 : Addr} {doc0x dkV0 ddoc0 dpm0 dcd0 dct0 : Value} {dod0 dan0 : Option Addr} {dsl0 : Array (Option Value)}
    {df1 : Addr} {doc1x dkV1 ddoc1 dpm1 dcd1 dct1 : Value} {dod1 dan1 : Option Addr} {dsl1 : Array (Option Value)}
    {df2 : Addr} {doc2x dkV2 ddoc2 dpm2 dcd2 dct2 : Value} {dod2 dan2 : Option Addr} {dsl2 : Array (Option Value)}
    {df3 : Addr} {doc3x dkV3 ddoc3 dpm3 dcd3 dct3 : Value} {dod3 dan3 : Option Addr} {dsl3 : Array (Option Value)}
    {df4 : Addr} {doc4x dkV4 ddoc4 dpm4 dcd4 dct4 : Value} {dod4 dan4 : Option Addr} {dsl4 : Array (Option Value)}
    {df5 : Addr} {doc5x dkV5 ddoc5 dpm5 dcd5 dct5 : Value} {dod5 dan5 : Option Addr} {dsl5 : Array (Option Value)}
    {df6 : Addr} {doc6x dkV6 ddoc6 dpm6 dcd6 dct6 : Value} {dod6 dan6 : Option Addr} {dsl6 : Array (Option Value)}
    {df7 : Addr} {doc7x dkV7 ddoc7 dpm7 dcd7 dct7 : Value} {dod7 dan7 : Option Addr} {dsl7 : Array (Option Value)}
    {df8 : Addr} {doc8x dkV8 ddoc8 dpm8 dcd8 dct8 : Value} {dod8 dan8 : Option Addr} {dsl8 : Array (Option Value)}
    (aNoText : PySem.W.nsIn K mainGlobals "NoText" = some (some (.ref CNoText)))
    (xNoText : K.lookup CNoText = some (excClassObj nmNoText qNoText CNoText NNoText bsNoText PySem.WX.tlV true snNoText subNoText abNoText colNoText ddNoText k0NoText k1NoText k2NoText k3NoText k5NoText "ValueError.__new__"))
    (sNoText : PySem.W.findIn K (.ref CNoText) "__setattr__" = some (some (.builtin "object.__setattr__")))
    (gNoText : PySem.W.findIn K (.ref CNoText) "__getattribute__" = some (some (.builtin "BaseException.__getattribute__")))
    (hNoText : PySem.W.findIn K (.ref CNoText) "__getattr__" = some none)
    (eNoText : PySem.W.subIn K (.ref CNoText) (.type "BaseException") = some true)
    (tNoText : PySem.W.typeIn K (.ref CNoText) = some (.type "type"))
    (kNoText : PySem.W.keepIn K (.ref CNoText) = true)
    (dNoText : PySem.W.hasDictIn K CNoText = true)
    (cNoText : PySem.W.findIn K (.ref CNoText) "__class__" = some (some (.builtin "object.__class__")))
    (mNoText : PySem.W.mroIn K CNoText (.type "object") = some true)
    (oNoTextrow : PySem.W.findIn K (.ref CNoText) "row" = some none)
    (iNoText : PySem.W.findIn K (.ref CNoText) "__init__" = some (some (.ref fNoText)))
    (yNoText : PySem.W.typeIn K (.ref fNoText) = some (.type "function"))
    (lNoText : K.lookup fNoText = some ⟨ocNoText, odNoText, .func (PySem.W.fnOf "__init__" "NoText.__init__" (C8.fnArgs s_NoText___init__) (C8.fnBody s_NoText___init__) (C8.fnScope s_NoText___init__) .none kVNoText docNoText pmNoText anNoText cdNoText ctNoText), slNoText⟩)
    (vNoText : PySem.W.codeIn K cdNoText "NoText.__init__" = true)
    (aNoDeed : PySem.W.nsIn K mainGlobals "NoDeed" = some (some (.ref CNoDeed)))
    (xNoDeed : K.lookup CNoDeed = some (excClassObj nmNoDeed qNoDeed CNoDeed NNoDeed bsNoDeed PySem.WX.tlV true snNoDeed subNoDeed abNoDeed colNoDeed ddNoDeed k0NoDeed k1NoDeed k2NoDeed k3NoDeed k5NoDeed "ValueError.__new__"))
    (sNoDeed : PySem.W.findIn K (.ref CNoDeed) "__setattr__" = some (some (.builtin "object.__setattr__")))
    (gNoDeed : PySem.W.findIn K (.ref CNoDeed) "__getattribute__" = some (some (.builtin "BaseException.__getattribute__")))
    (hNoDeed : PySem.W.findIn K (.ref CNoDeed) "__getattr__" = some none)
    (eNoDeed : PySem.W.subIn K (.ref CNoDeed) (.type "BaseException") = some true)
    (tNoDeed : PySem.W.typeIn K (.ref CNoDeed) = some (.type "type"))
    (kNoDeed : PySem.W.keepIn K (.ref CNoDeed) = true)
    (dNoDeed : PySem.W.hasDictIn K CNoDeed = true)
    (cNoDeed : PySem.W.findIn K (.ref CNoDeed) "__class__" = some (some (.builtin "object.__class__")))
    (mNoDeed : PySem.W.mroIn K CNoDeed (.type "object") = some true)
    (oNoDeedwhy : PySem.W.findIn K (.ref CNoDeed) "why" = some none)
    (iNoDeed : PySem.W.findIn K (.ref CNoDeed) "__init__" = some (some (.ref fNoDeed)))
    (yNoDeed : PySem.W.typeIn K (.ref fNoDeed) = some (.type "function"))
    (lNoDeed : K.lookup fNoDeed = some ⟨ocNoDeed, odNoDeed, .func (PySem.W.fnOf "__init__" "NoDeed.__init__" (C8.fnArgs s_NoDeed___init__) (C8.fnBody s_NoDeed___init__) (C8.fnScope s_NoDeed___init__) .none kVNoDeed docNoDeed pmNoDeed anNoDeed cdNoDeed ctNoDeed), slNoDeed⟩)
    (vNoDeed : PySem.W.codeIn K cdNoDeed "NoDeed.__init__" = true)
    (aNoWay : PySem.W.nsIn K mainGlobals "NoWay" = some (some (.ref CNoWay)))
    (xNoWay : K.lookup CNoWay = some (excClassObj nmNoWay qNoWay CNoWay NNoWay bsNoWay PySem.WX.tlV true snNoWay subNoWay abNoWay colNoWay ddNoWay k0NoWay k1NoWay k2NoWay k3NoWay k5NoWay "ValueError.__new__"))
    (sNoWay : PySem.W.findIn K (.ref CNoWay) "__setattr__" = some (some (.builtin "object.__setattr__")))
    (gNoWay : PySem.W.findIn K (.ref CNoWay) "__getattribute__" = some (some (.builtin "BaseException.__getattribute__")))
    (hNoWay : PySem.W.findIn K (.ref CNoWay) "__getattr__" = some none)
    (eNoWay : PySem.W.subIn K (.ref CNoWay) (.type "BaseException") = some true)
    (tNoWay : PySem.W.typeIn K (.ref CNoWay) = some (.type "type"))
    (kNoWay : PySem.W.keepIn K (.ref CNoWay) = true)
    (dNoWay : PySem.W.hasDictIn K CNoWay = true)
    (cNoWay : PySem.W.findIn K (.ref CNoWay) "__class__" = some (some (.builtin "object.__class__")))
    (mNoWay : PySem.W.mroIn K CNoWay (.type "object") = some true)
    (oNoWayat : PySem.W.findIn K (.ref CNoWay) "at" = some none)
    (oNoWaywhy : PySem.W.findIn K (.ref CNoWay) "why" = some none)
    (iNoWay : PySem.W.findIn K (.ref CNoWay) "__init__" = some (some (.ref fNoWay)))
    (yNoWay : PySem.W.typeIn K (.ref fNoWay) = some (.type "function"))
    (lNoWay : K.lookup fNoWay = some ⟨ocNoWay, odNoWay, .func (PySem.W.fnOf "__init__" "NoWay.__init__" (C8.fnArgs s_NoWay___init__) (C8.fnBody s_NoWay___init__) (C8.fnScope s_NoWay___init__) .none kVNoWay docNoWay pmNoWay anNoWay cdNoWay ctNoWay), slNoWay⟩)
    (vNoWay : PySem.W.codeIn K cdNoWay "NoWay.__init__" = true)
    (aNoGoal : PySem.W.nsIn K mainGlobals "NoGoal" = some (some (.ref CNoGoal)))
    (xNoGoal : K.lookup CNoGoal = some (excClassObj nmNoGoal qNoGoal CNoGoal NNoGoal bsNoGoal PySem.WX.tlV true snNoGoal subNoGoal abNoGoal colNoGoal ddNoGoal k0NoGoal k1NoGoal k2NoGoal k3NoGoal k5NoGoal "ValueError.__new__"))
    (sNoGoal : PySem.W.findIn K (.ref CNoGoal) "__setattr__" = some (some (.builtin "object.__setattr__")))
    (gNoGoal : PySem.W.findIn K (.ref CNoGoal) "__getattribute__" = some (some (.builtin "BaseException.__getattribute__")))
    (hNoGoal : PySem.W.findIn K (.ref CNoGoal) "__getattr__" = some none)
    (eNoGoal : PySem.W.subIn K (.ref CNoGoal) (.type "BaseException") = some true)
    (tNoGoal : PySem.W.typeIn K (.ref CNoGoal) = some (.type "type"))
    (kNoGoal : PySem.W.keepIn K (.ref CNoGoal) = true)
    (dNoGoal : PySem.W.hasDictIn K CNoGoal = true)
    (cNoGoal : PySem.W.findIn K (.ref CNoGoal) "__class__" = some (some (.builtin "object.__class__")))
    (mNoGoal : PySem.W.mroIn K CNoGoal (.type "object") = some true)
    (oNoGoalat : PySem.W.findIn K (.ref CNoGoal) "at" = some none)
    (iNoGoal : PySem.W.findIn K (.ref CNoGoal) "__init__" = some (some (.ref fNoGoal)))
    (yNoGoal : PySem.W.typeIn K (.ref fNoGoal) = some (.type "function"))
    (lNoGoal : K.lookup fNoGoal = some ⟨ocNoGoal, odNoGoal, .func (PySem.W.fnOf "__init__" "NoGoal.__init__" (C8.fnArgs s_NoGoal___init__) (C8.fnBody s_NoGoal___init__) (C8.fnScope s_NoGoal___init__) .none kVNoGoal docNoGoal pmNoGoal anNoGoal cdNoGoal ctNoGoal), slNoGoal⟩)
    (vNoGoal : PySem.W.codeIn K cdNoGoal "NoGoal.__init__" = true)
    (aNoTurning : PySem.W.nsIn K mainGlobals "NoTurning" = some (some (.ref CNoTurning)))
    (xNoTurning : K.lookup CNoTurning = some (excClassObj nmNoTurning qNoTurning CNoTurning NNoTurning bsNoTurning PySem.WX.tlV true snNoTurning subNoTurning abNoTurning colNoTurning ddNoTurning k0NoTurning k1NoTurning k2NoTurning k3NoTurning k5NoTurning "ValueError.__new__"))
    (sNoTurning : PySem.W.findIn K (.ref CNoTurning) "__setattr__" = some (some (.builtin "object.__setattr__")))
    (gNoTurning : PySem.W.findIn K (.ref CNoTurning) "__getattribute__" = some (some (.builtin "BaseException.__getattribute__")))
    (hNoTurning : PySem.W.findIn K (.ref CNoTurning) "__getattr__" = some none)
    (eNoTurning : PySem.W.subIn K (.ref CNoTurning) (.type "BaseException") = some true)
    (tNoTurning : PySem.W.typeIn K (.ref CNoTurning) = some (.type "type"))
    (kNoTurning : PySem.W.keepIn K (.ref CNoTurning) = true)
    (dNoTurning : PySem.W.hasDictIn K CNoTurning = true)
    (cNoTurning : PySem.W.findIn K (.ref CNoTurning) "__class__" = some (some (.builtin "object.__class__")))
    (mNoTurning : PySem.W.mroIn K CNoTurning (.type "object") = some true)
    (oNoTurningat : PySem.W.findIn K (.ref CNoTurning) "at" = some none)
    (iNoTurning : PySem.W.findIn K (.ref CNoTurning) "__init__" = some (some (.ref fNoTurning)))
    (yNoTurning : PySem.W.typeIn K (.ref fNoTurning) = some (.type "function"))
    (lNoTurning : K.lookup fNoTurning = some ⟨ocNoTurning, odNoTurning, .func (PySem.W.fnOf "__init__" "NoTurning.__init__" (C8.fnArgs s_NoTurning___init__) (C8.fnBody s_NoTurning___init__) (C8.fnScope s_NoTurning___init__) .none kVNoTurning docNoTurning pmNoTurning anNoTurning cdNoTurning ctNoTurning), slNoTurning⟩)
    (vNoTurning : PySem.W.codeIn K cdNoTurning "NoTurning.__init__" = true)
    (aNoName : PySem.W.nsIn K mainGlobals "NoName" = some (some (.ref CNoName)))
    (xNoName : K.lookup CNoName = some (excClassObj nmNoName qNoName CNoName NNoName bsNoName PySem.WX.tlK true snNoName subNoName abNoName colNoName ddNoName k0NoName k1NoName k2NoName k3NoName k5NoName "LookupError.__new__"))
    (sNoName : PySem.W.findIn K (.ref CNoName) "__setattr__" = some (some (.builtin "object.__setattr__")))
    (gNoName : PySem.W.findIn K (.ref CNoName) "__getattribute__" = some (some (.builtin "BaseException.__getattribute__")))
    (hNoName : PySem.W.findIn K (.ref CNoName) "__getattr__" = some none)
    (eNoName : PySem.W.subIn K (.ref CNoName) (.type "BaseException") = some true)
    (tNoName : PySem.W.typeIn K (.ref CNoName) = some (.type "type"))
    (kNoName : PySem.W.keepIn K (.ref CNoName) = true)
    (dNoName : PySem.W.hasDictIn K CNoName = true)
    (cNoName : PySem.W.findIn K (.ref CNoName) "__class__" = some (some (.builtin "object.__class__")))
    (mNoName : PySem.W.mroIn K CNoName (.type "object") = some true)
    (oNoNameasked : PySem.W.findIn K (.ref CNoName) "asked" = some none)
    (iNoName : PySem.W.findIn K (.ref CNoName) "__init__" = some (some (.ref fNoName)))
    (yNoName : PySem.W.typeIn K (.ref fNoName) = some (.type "function"))
    (lNoName : K.lookup fNoName = some ⟨ocNoName, odNoName, .func (PySem.W.fnOf "__init__" "NoName.__init__" (C8.fnArgs s_NoName___init__) (C8.fnBody s_NoName___init__) (C8.fnScope s_NoName___init__) .none kVNoName docNoName pmNoName anNoName cdNoName ctNoName), slNoName⟩)
    (vNoName : PySem.W.codeIn K cdNoName "NoName.__init__" = true)
    (aNoReply : PySem.W.nsIn K mainGlobals "NoReply" = some (some (.ref CNoReply)))
    (xNoReply : K.lookup CNoReply = some (excClassObj nmNoReply qNoReply CNoReply NNoReply bsNoReply PySem.WX.tlK true snNoReply subNoReply abNoReply colNoReply ddNoReply k0NoReply k1NoReply k2NoReply k3NoReply k5NoReply "LookupError.__new__"))
    (sNoReply : PySem.W.findIn K (.ref CNoReply) "__setattr__" = some (some (.builtin "object.__setattr__")))
    (gNoReply : PySem.W.findIn K (.ref CNoReply) "__getattribute__" = some (some (.builtin "BaseException.__getattribute__")))
    (hNoReply : PySem.W.findIn K (.ref CNoReply) "__getattr__" = some none)
    (eNoReply : PySem.W.subIn K (.ref CNoReply) (.type "BaseException") = some true)
    (tNoReply : PySem.W.typeIn K (.ref CNoReply) = some (.type "type"))
    (kNoReply : PySem.W.keepIn K (.ref CNoReply) = true)
    (dNoReply : PySem.W.hasDictIn K CNoReply = true)
    (cNoReply : PySem.W.findIn K (.ref CNoReply) "__class__" = some (some (.builtin "object.__class__")))
    (mNoReply : PySem.W.mroIn K CNoReply (.type "object") = some true)
    (oNoReplyasked : PySem.W.findIn K (.ref CNoReply) "asked" = some none)
    (iNoReply : PySem.W.findIn K (.ref CNoReply) "__init__" = some (some (.ref fNoReply)))
    (yNoReply : PySem.W.typeIn K (.ref fNoReply) = some (.type "function"))
    (lNoReply : K.lookup fNoReply = some ⟨ocNoReply, odNoReply, .func (PySem.W.fnOf "__init__" "NoReply.__init__" (C8.fnArgs s_NoReply___init__) (C8.fnBody s_NoReply___init__) (C8.fnScope s_NoReply___init__) .none kVNoReply docNoReply pmNoReply anNoReply cdNoReply ctNoReply), slNoReply⟩)
    (vNoReply : PySem.W.codeIn K cdNoReply "NoReply.__init__" = true)
    (aNoNumber : PySem.W.nsIn K mainGlobals "NoNumber" = some (some (.ref CNoNumber)))
    (xNoNumber : K.lookup CNoNumber = some (excClassObj nmNoNumber qNoNumber CNoNumber NNoNumber bsNoNumber PySem.WX.tlI true snNoNumber subNoNumber abNoNumber colNoNumber ddNoNumber k0NoNumber k1NoNumber k2NoNumber k3NoNumber k5NoNumber "IndexError.__new__"))
    (sNoNumber : PySem.W.findIn K (.ref CNoNumber) "__setattr__" = some (some (.builtin "object.__setattr__")))
    (gNoNumber : PySem.W.findIn K (.ref CNoNumber) "__getattribute__" = some (some (.builtin "BaseException.__getattribute__")))
    (hNoNumber : PySem.W.findIn K (.ref CNoNumber) "__getattr__" = some none)
    (eNoNumber : PySem.W.subIn K (.ref CNoNumber) (.type "BaseException") = some true)
    (tNoNumber : PySem.W.typeIn K (.ref CNoNumber) = some (.type "type"))
    (kNoNumber : PySem.W.keepIn K (.ref CNoNumber) = true)
    (dNoNumber : PySem.W.hasDictIn K CNoNumber = true)
    (cNoNumber : PySem.W.findIn K (.ref CNoNumber) "__class__" = some (some (.builtin "object.__class__")))
    (mNoNumber : PySem.W.mroIn K CNoNumber (.type "object") = some true)
    (oNoNumberasked : PySem.W.findIn K (.ref CNoNumber) "asked" = some none)
    (iNoNumber : PySem.W.findIn K (.ref CNoNumber) "__init__" = some (some (.ref fNoNumber)))
    (yNoNumber : PySem.W.typeIn K (.ref fNoNumber) = some (.type "function"))
    (lNoNumber : K.lookup fNoNumber = some ⟨ocNoNumber, odNoNumber, .func (PySem.W.fnOf "__init__" "NoNumber.__init__" (C8.fnArgs s_NoNumber___init__) (C8.fnBody s_NoNumber___init__) (C8.fnScope s_NoNumber___init__) .none kVNoNumber docNoNumber pmNoNumber anNoNumber cdNoNumber ctNoNumber), slNoNumber⟩)
    (vNoNumber : PySem.W.codeIn K cdNoNumber "NoNumber.__init__" = true)
    (aNoMoment : PySem.W.nsIn K mainGlobals "NoMoment" = some (some (.ref CNoMoment)))
    (xNoMoment : K.lookup CNoMoment = some (excClassObj nmNoMoment qNoMoment CNoMoment NNoMoment bsNoMoment PySem.WX.tlI true snNoMoment subNoMoment abNoMoment colNoMoment ddNoMoment k0NoMoment k1NoMoment k2NoMoment k3NoMoment k5NoMoment "IndexError.__new__"))
    (sNoMoment : PySem.W.findIn K (.ref CNoMoment) "__setattr__" = some (some (.builtin "object.__setattr__")))
    (gNoMoment : PySem.W.findIn K (.ref CNoMoment) "__getattribute__" = some (some (.builtin "BaseException.__getattribute__")))
    (hNoMoment : PySem.W.findIn K (.ref CNoMoment) "__getattr__" = some none)
    (eNoMoment : PySem.W.subIn K (.ref CNoMoment) (.type "BaseException") = some true)
    (tNoMoment : PySem.W.typeIn K (.ref CNoMoment) = some (.type "type"))
    (kNoMoment : PySem.W.keepIn K (.ref CNoMoment) = true)
    (dNoMoment : PySem.W.hasDictIn K CNoMoment = true)
    (cNoMoment : PySem.W.findIn K (.ref CNoMoment) "__class__" = some (some (.builtin "object.__class__")))
    (mNoMoment : PySem.W.mroIn K CNoMoment (.type "object") = some true)
    (oNoMomentasked : PySem.W.findIn K (.ref CNoMoment) "asked" = some none)
    (iNoMoment : PySem.W.findIn K (.ref CNoMoment) "__init__" = some (some (.ref fNoMoment)))
    (yNoMoment : PySem.W.typeIn K (.ref fNoMoment) = some (.type "function"))
    (lNoMoment : K.lookup fNoMoment = some ⟨ocNoMoment, odNoMoment, .func (PySem.W.fnOf "__init__" "NoMoment.__init__" (C8.fnArgs s_NoMoment___init__) (C8.fnBody s_NoMoment___init__) (C8.fnScope s_NoMoment___init__) .none kVNoMoment docNoMoment pmNoMoment anNoMoment cdNoMoment ctNoMoment), slNoMoment⟩)
    (vNoMoment : PySem.W.codeIn K cdNoMoment "NoMoment.__init__" = true)
    (aNoPlan : PySem.W.nsIn K mainGlobals "NoPlan" = some (some (.ref CNoPlan)))
    (xNoPlan : K.lookup CNoPlan = some (excClassObj nmNoPlan qNoPlan CNoPlan NNoPlan bsNoPlan PySem.WX.tlL true snNoPlan subNoPlan abNoPlan colNoPlan ddNoPlan k0NoPlan k1NoPlan k2NoPlan k3NoPlan k5NoPlan "LookupError.__new__"))
    (sNoPlan : PySem.W.findIn K (.ref CNoPlan) "__setattr__" = some (some (.builtin "object.__setattr__")))
    (gNoPlan : PySem.W.findIn K (.ref CNoPlan) "__getattribute__" = some (some (.builtin "BaseException.__getattribute__")))
    (hNoPlan : PySem.W.findIn K (.ref CNoPlan) "__getattr__" = some none)
    (eNoPlan : PySem.W.subIn K (.ref CNoPlan) (.type "BaseException") = some true)
    (tNoPlan : PySem.W.typeIn K (.ref CNoPlan) = some (.type "type"))
    (kNoPlan : PySem.W.keepIn K (.ref CNoPlan) = true)
    (dNoPlan : PySem.W.hasDictIn K CNoPlan = true)
    (cNoPlan : PySem.W.findIn K (.ref CNoPlan) "__class__" = some (some (.builtin "object.__class__")))
    (mNoPlan : PySem.W.mroIn K CNoPlan (.type "object") = some true)
    (qNoPlanx : PySem.W.excIn K CNoPlan PySem.WX.tlL "LookupError.__new__" = true)
    (aNoMore : PySem.W.nsIn K mainGlobals "NoMore" = some (some (.ref CNoMore)))
    (xNoMore : K.lookup CNoMore = some (excClassObj nmNoMore qNoMore CNoMore NNoMore bsNoMore PySem.WX.tlL true snNoMore subNoMore abNoMore colNoMore ddNoMore k0NoMore k1NoMore k2NoMore k3NoMore k5NoMore "LookupError.__new__"))
    (sNoMore : PySem.W.findIn K (.ref CNoMore) "__setattr__" = some (some (.builtin "object.__setattr__")))
    (gNoMore : PySem.W.findIn K (.ref CNoMore) "__getattribute__" = some (some (.builtin "BaseException.__getattribute__")))
    (hNoMore : PySem.W.findIn K (.ref CNoMore) "__getattr__" = some none)
    (eNoMore : PySem.W.subIn K (.ref CNoMore) (.type "BaseException") = some true)
    (tNoMore : PySem.W.typeIn K (.ref CNoMore) = some (.type "type"))
    (kNoMore : PySem.W.keepIn K (.ref CNoMore) = true)
    (dNoMore : PySem.W.hasDictIn K CNoMore = true)
    (cNoMore : PySem.W.findIn K (.ref CNoMore) "__class__" = some (some (.builtin "object.__class__")))
    (mNoMore : PySem.W.mroIn K CNoMore (.type "object") = some true)
    (oNoMoreword : PySem.W.findIn K (.ref CNoMore) "word" = some none)
    (iNoMore : PySem.W.findIn K (.ref CNoMore) "__init__" = some (some (.ref fNoMore)))
    (yNoMore : PySem.W.typeIn K (.ref fNoMore) = some (.type "function"))
    (lNoMore : K.lookup fNoMore = some ⟨ocNoMore, odNoMore, .func (PySem.W.fnOf "__init__" "NoMore.__init__" (C8.fnArgs s_NoMore___init__) (C8.fnBody s_NoMore___init__) (C8.fnScope s_NoMore___init__) .none kVNoMore docNoMore pmNoMore anNoMore cdNoMore ctNoMore), slNoMore⟩)
    (vNoMore : PySem.W.codeIn K cdNoMore "NoMore.__init__" = true)
    (aNotRising : PySem.W.nsIn K mainGlobals "NotRising" = some (some (.ref CNotRising)))
    (xNotRising : K.lookup CNotRising = some (excClassObj nmNotRising qNotRising CNotRising NNotRising bsNotRising PySem.WX.tlA true snNotRising subNotRising abNotRising colNotRising ddNotRising k0NotRising k1NotRising k2NotRising k3NotRising k5NotRising "ArithmeticError.__new__"))
    (sNotRising : PySem.W.findIn K (.ref CNotRising) "__setattr__" = some (some (.builtin "object.__setattr__")))
    (gNotRising : PySem.W.findIn K (.ref CNotRising) "__getattribute__" = some (some (.builtin "BaseException.__getattribute__")))
    (hNotRising : PySem.W.findIn K (.ref CNotRising) "__getattr__" = some none)
    (eNotRising : PySem.W.subIn K (.ref CNotRising) (.type "BaseException") = some true)
    (tNotRising : PySem.W.typeIn K (.ref CNotRising) = some (.type "type"))
    (kNotRising : PySem.W.keepIn K (.ref CNotRising) = true)
    (dNotRising : PySem.W.hasDictIn K CNotRising = true)
    (cNotRising : PySem.W.findIn K (.ref CNotRising) "__class__" = some (some (.builtin "object.__class__")))
    (mNotRising : PySem.W.mroIn K CNotRising (.type "object") = some true)
    (oNotRisingname : PySem.W.findIn K (.ref CNotRising) "name" = some none)
    (iNotRising : PySem.W.findIn K (.ref CNotRising) "__init__" = some (some (.ref fNotRising)))
    (yNotRising : PySem.W.typeIn K (.ref fNotRising) = some (.type "function"))
    (lNotRising : K.lookup fNotRising = some ⟨ocNotRising, odNotRising, .func (PySem.W.fnOf "__init__" "NotRising.__init__" (C8.fnArgs s_NotRising___init__) (C8.fnBody s_NotRising___init__) (C8.fnScope s_NotRising___init__) .none kVNotRising docNotRising pmNotRising anNotRising cdNotRising ctNotRising), slNotRising⟩)
    (vNotRising : PySem.W.codeIn K cdNotRising "NotRising.__init__" = true)
    (aUnlike : PySem.W.nsIn K mainGlobals "Unlike" = some (some (.ref CUnlike)))
    (xUnlike : K.lookup CUnlike = some (excClassObj nmUnlike qUnlike CUnlike NUnlike bsUnlike PySem.WX.tlA true snUnlike subUnlike abUnlike colUnlike ddUnlike k0Unlike k1Unlike k2Unlike k3Unlike k5Unlike "ArithmeticError.__new__"))
    (sUnlike : PySem.W.findIn K (.ref CUnlike) "__setattr__" = some (some (.builtin "object.__setattr__")))
    (gUnlike : PySem.W.findIn K (.ref CUnlike) "__getattribute__" = some (some (.builtin "BaseException.__getattribute__")))
    (hUnlike : PySem.W.findIn K (.ref CUnlike) "__getattr__" = some none)
    (eUnlike : PySem.W.subIn K (.ref CUnlike) (.type "BaseException") = some true)
    (tUnlike : PySem.W.typeIn K (.ref CUnlike) = some (.type "type"))
    (kUnlike : PySem.W.keepIn K (.ref CUnlike) = true)
    (dUnlike : PySem.W.hasDictIn K CUnlike = true)
    (cUnlike : PySem.W.findIn K (.ref CUnlike) "__class__" = some (some (.builtin "object.__class__")))
    (mUnlike : PySem.W.mroIn K CUnlike (.type "object") = some true)
    (qUnlikex : PySem.W.excIn K CUnlike PySem.WX.tlA "ArithmeticError.__new__" = true)
    (aTooMany : PySem.W.nsIn K mainGlobals "TooMany" = some (some (.ref CTooMany)))
    (xTooMany : K.lookup CTooMany = some (excClassObj nmTooMany qTooMany CTooMany NTooMany bsTooMany PySem.WX.tlO true snTooMany subTooMany abTooMany colTooMany ddTooMany k0TooMany k1TooMany k2TooMany k3TooMany k5TooMany "OverflowError.__new__"))
    (sTooMany : PySem.W.findIn K (.ref CTooMany) "__setattr__" = some (some (.builtin "object.__setattr__")))
    (gTooMany : PySem.W.findIn K (.ref CTooMany) "__getattribute__" = some (some (.builtin "BaseException.__getattribute__")))
    (hTooMany : PySem.W.findIn K (.ref CTooMany) "__getattr__" = some none)
    (eTooMany : PySem.W.subIn K (.ref CTooMany) (.type "BaseException") = some true)
    (tTooMany : PySem.W.typeIn K (.ref CTooMany) = some (.type "type"))
    (kTooMany : PySem.W.keepIn K (.ref CTooMany) = true)
    (dTooMany : PySem.W.hasDictIn K CTooMany = true)
    (cTooMany : PySem.W.findIn K (.ref CTooMany) "__class__" = some (some (.builtin "object.__class__")))
    (mTooMany : PySem.W.mroIn K CTooMany (.type "object") = some true)
    (oTooManymost : PySem.W.findIn K (.ref CTooMany) "most" = some none)
    (iTooMany : PySem.W.findIn K (.ref CTooMany) "__init__" = some (some (.ref fTooMany)))
    (yTooMany : PySem.W.typeIn K (.ref fTooMany) = some (.type "function"))
    (lTooMany : K.lookup fTooMany = some ⟨ocTooMany, odTooMany, .func (PySem.W.fnOf "__init__" "TooMany.__init__" (C8.fnArgs s_TooMany___init__) (C8.fnBody s_TooMany___init__) (C8.fnScope s_TooMany___init__) .none kVTooMany docTooMany pmTooMany anTooMany cdTooMany ctTooMany), slTooMany⟩)
    (vTooMany : PySem.W.codeIn K cdTooMany "TooMany.__init__" = true)
    (aNoBack : PySem.W.nsIn K mainGlobals "NoBack" = some (some (.ref CNoBack)))
    (xNoBack : K.lookup CNoBack = some (excClassObj nmNoBack qNoBack CNoBack NNoBack bsNoBack PySem.WX.tlR true snNoBack subNoBack abNoBack colNoBack ddNoBack k0NoBack k1NoBack k2NoBack k3NoBack k5NoBack "RuntimeError.__new__"))
    (sNoBack : PySem.W.findIn K (.ref CNoBack) "__setattr__" = some (some (.builtin "object.__setattr__")))
    (gNoBack : PySem.W.findIn K (.ref CNoBack) "__getattribute__" = some (some (.builtin "BaseException.__getattribute__")))
    (hNoBack : PySem.W.findIn K (.ref CNoBack) "__getattr__" = some none)
    (eNoBack : PySem.W.subIn K (.ref CNoBack) (.type "BaseException") = some true)
    (tNoBack : PySem.W.typeIn K (.ref CNoBack) = some (.type "type"))
    (kNoBack : PySem.W.keepIn K (.ref CNoBack) = true)
    (dNoBack : PySem.W.hasDictIn K CNoBack = true)
    (cNoBack : PySem.W.findIn K (.ref CNoBack) "__class__" = some (some (.builtin "object.__class__")))
    (mNoBack : PySem.W.mroIn K CNoBack (.type "object") = some true)
    (oNoBackat : PySem.W.findIn K (.ref CNoBack) "at" = some none)
    (iNoBack : PySem.W.findIn K (.ref CNoBack) "__init__" = some (some (.ref fNoBack)))
    (yNoBack : PySem.W.typeIn K (.ref fNoBack) = some (.type "function"))
    (lNoBack : K.lookup fNoBack = some ⟨ocNoBack, odNoBack, .func (PySem.W.fnOf "__init__" "NoBack.__init__" (C8.fnArgs s_NoBack___init__) (C8.fnBody s_NoBack___init__) (C8.fnScope s_NoBack___init__) .none kVNoBack docNoBack pmNoBack anNoBack cdNoBack ctNoBack), slNoBack⟩)
    (vNoBack : PySem.W.codeIn K cdNoBack "NoBack.__init__" = true)
    (aNotMet : PySem.W.nsIn K mainGlobals "NotMet" = some (some (.ref CNotMet)))
    (xNotMet : K.lookup CNotMet = some (excClassObj nmNotMet qNotMet CNotMet NNotMet bsNotMet PySem.WX.tlR true snNotMet subNotMet abNotMet colNotMet ddNotMet k0NotMet k1NotMet k2NotMet k3NotMet k5NotMet "RuntimeError.__new__"))
    (sNotMet : PySem.W.findIn K (.ref CNotMet) "__setattr__" = some (some (.builtin "object.__setattr__")))
    (gNotMet : PySem.W.findIn K (.ref CNotMet) "__getattribute__" = some (some (.builtin "BaseException.__getattribute__")))
    (hNotMet : PySem.W.findIn K (.ref CNotMet) "__getattr__" = some none)
    (eNotMet : PySem.W.subIn K (.ref CNotMet) (.type "BaseException") = some true)
    (tNotMet : PySem.W.typeIn K (.ref CNotMet) = some (.type "type"))
    (kNotMet : PySem.W.keepIn K (.ref CNotMet) = true)
    (dNotMet : PySem.W.hasDictIn K CNotMet = true)
    (cNotMet : PySem.W.findIn K (.ref CNotMet) "__class__" = some (some (.builtin "object.__class__")))
    (mNotMet : PySem.W.mroIn K CNotMet (.type "object") = some true)
    (qNotMetx : PySem.W.excIn K CNotMet PySem.WX.tlR "RuntimeError.__new__" = true)
    (sp : PySem.W.specialIn K (.builtin "object.__class__") "__get__" = some (some (.builtin "getset_descriptor.__get__")))
    (tk : PySem.W.takesIn K (.builtin "object.__class__") = some true)
    (da0 : PySem.W.nsIn K mainGlobals "_law_pen" = some (some (.ref df0)))
    (dl0 : K.lookup df0 = some ⟨doc0x, dod0, .func (PySem.W.fnOf "_law_pen" "_law_pen" (C8.fnArgs s__law_pen) (C8.fnBody s__law_pen) (C8.fnScope s__law_pen) .none dkV0 ddoc0 dpm0 dan0 dcd0 dct0), dsl0⟩)
    (dc0 : PySem.W.codeIn K dcd0 "_law_pen" = true)
    (dk0 : PySem.W.keepIn K (.ref df0) = true)
    (da1 : PySem.W.nsIn K mainGlobals "_law_draw" = some (some (.ref df1)))
    (dl1 : K.lookup df1 = some ⟨doc1x, dod1, .func (PySem.W.fnOf "_law_draw" "_law_draw" (C8.fnArgs s__law_draw) (C8.fnBody s__law_draw) (C8.fnScope s__law_draw) .none dkV1 ddoc1 dpm1 dan1 dcd1 dct1), dsl1⟩)
    (dc1 : PySem.W.codeIn K dcd1 "_law_draw" = true)
    (dk1 : PySem.W.keepIn K (.ref df1) = true)
    (da2 : PySem.W.nsIn K mainGlobals "_law_pick" = some (some (.ref df2)))
    (dl2 : K.lookup df2 = some ⟨doc2x, dod2, .func (PySem.W.fnOf "_law_pick" "_law_pick" (C8.fnArgs s__law_pick) (C8.fnBody s__law_pick) (C8.fnScope s__law_pick) .none dkV2 ddoc2 dpm2 dan2 dcd2 dct2), dsl2⟩)
    (dc2 : PySem.W.codeIn K dcd2 "_law_pick" = true)
    (dk2 : PySem.W.keepIn K (.ref df2) = true)
    (da3 : PySem.W.nsIn K mainGlobals "_law_made_errors" = some (some (.ref df3)))
    (dl3 : K.lookup df3 = some ⟨doc3x, dod3, .func (PySem.W.fnOf "_law_made_errors" "_law_made_errors" (C8.fnArgs s__law_made_errors) (C8.fnBody s__law_made_errors) (C8.fnScope s__law_made_errors) .none dkV3 ddoc3 dpm3 dan3 dcd3 dct3), dsl3⟩)
    (dc3 : PySem.W.codeIn K dcd3 "_law_made_errors" = true)
    (dk3 : PySem.W.keepIn K (.ref df3) = true)
    (da4 : PySem.W.nsIn K mainGlobals "_law_kinds" = some (some (.ref df4)))
    (dl4 : K.lookup df4 = some ⟨doc4x, dod4, .func (PySem.W.fnOf "_law_kinds" "_law_kinds" (C8.fnArgs s__law_kinds) (C8.fnBody s__law_kinds) (C8.fnScope s__law_kinds) .none dkV4 ddoc4 dpm4 dan4 dcd4 dct4), dsl4⟩)
    (dc4 : PySem.W.codeIn K dcd4 "_law_kinds" = true)
    (dk4 : PySem.W.keepIn K (.ref df4) = true)
    (da5 : PySem.W.nsIn K mainGlobals "_law_bases" = some (some (.ref df5)))
    (dl5 : K.lookup df5 = some ⟨doc5x, dod5, .func (PySem.W.fnOf "_law_bases" "_law_bases" (C8.fnArgs s__law_bases) (C8.fnBody s__law_bases) (C8.fnScope s__law_bases) .none dkV5 ddoc5 dpm5 dan5 dcd5 dct5), dsl5⟩)
    (dc5 : PySem.W.codeIn K dcd5 "_law_bases" = true)
    (dk5 : PySem.W.keepIn K (.ref df5) = true)
    (da6 : PySem.W.nsIn K mainGlobals "_law_due_bases" = some (some (.ref df6)))
    (dl6 : K.lookup df6 = some ⟨doc6x, dod6, .func (PySem.W.fnOf "_law_due_bases" "_law_due_bases" (C8.fnArgs s__law_due_bases) (C8.fnBody s__law_due_bases) (C8.fnScope s__law_due_bases) .none dkV6 ddoc6 dpm6 dan6 dcd6 dct6), dsl6⟩)
    (dc6 : PySem.W.codeIn K dcd6 "_law_due_bases" = true)
    (dk6 : PySem.W.keepIn K (.ref df6) = true)
    (da7 : PySem.W.nsIn K mainGlobals "_law_fields" = some (some (.ref df7)))
    (dl7 : K.lookup df7 = some ⟨doc7x, dod7, .func (PySem.W.fnOf "_law_fields" "_law_fields" (C8.fnArgs s__law_fields) (C8.fnBody s__law_fields) (C8.fnScope s__law_fields) .none dkV7 ddoc7 dpm7 dan7 dcd7 dct7), dsl7⟩)
    (dc7 : PySem.W.codeIn K dcd7 "_law_fields" = true)
    (dk7 : PySem.W.keepIn K (.ref df7) = true)
    (da8 : PySem.W.nsIn K mainGlobals "law" = some (some (.ref df8)))
    (dl8 : K.lookup df8 = some ⟨doc8x, dod8, .func (PySem.W.fnOf "law" "law" (C8.fnArgs s_law) (C8.fnBody s_law) (C8.fnScope s_law) .none dkV8 ddoc8 dpm8 dan8 dcd8 dct8), dsl8⟩)
    (dc8 : PySem.W.codeIn K dcd8 "law" = true)
    (dk8 : PySem.W.keepIn K (.ref df8) = true)
    (zlen : PySem.W.nsIn K mainGlobals "len" = some none)
    (zabs : PySem.W.nsIn K mainGlobals "abs" = some none)
    (zlist : PySem.W.nsIn K mainGlobals "list" = some none)
    (zrange : PySem.W.nsIn K mainGlobals "range" = some none)
    (zmin : PySem.W.nsIn K mainGlobals "min" = some none)
    (zisinstance : PySem.W.nsIn K mainGlobals "isinstance" = some none)
    (zrepr : PySem.W.nsIn K mainGlobals "repr" = some none)
    (zValueError : PySem.W.nsIn K mainGlobals "ValueError" = some none)
    (zLookupError : PySem.W.nsIn K mainGlobals "LookupError" = some none)
    (zKeyError : PySem.W.nsIn K mainGlobals "KeyError" = some none)
    (zIndexError : PySem.W.nsIn K mainGlobals "IndexError" = some none)
    (zArithmeticError : PySem.W.nsIn K mainGlobals "ArithmeticError" = some none)
    (zOverflowError : PySem.W.nsIn K mainGlobals "OverflowError" = some none)
    (zZeroDivisionError : PySem.W.nsIn K mainGlobals "ZeroDivisionError" = some none)
    (zRuntimeError : PySem.W.nsIn K mainGlobals "RuntimeError" = some none)
    (zNotImplementedError : PySem.W.nsIn K mainGlobals "NotImplementedError" = some none)
    (zTypeError : PySem.W.nsIn K mainGlobals "TypeError" = some none)
    (nd : [CNoText, CNoDeed, CNoWay, CNoGoal, CNoTurning, CNoName, CNoReply, CNoNumber, CNoMoment, CNoPlan, CNoMore, CNotRising, CUnlike, CTooMany, CNoBack, CNotMet].Nodup) :
    ∃ fd : FuncData, (∀ (s : Shared) (v : Value), BindsTo s fd ⟨[v], []⟩ [("script", v)]) ∧ ∀ base : Heap, K.In base → base.Ns mainGlobals mg → FnG l.prog w K mg base CX0 4 fa fd ["script"] (spLaw K) := by
  have e := hfa.symm.trans (PySem.W.mg_of X G da8)
  cases e
  have xiNoText := xis_mk gNoText hNoText eNoText dNoText cNoText sp tk mNoText
  have xcNoText : Xc K CNoText "ValueError" "ValueError.__new__" "ValueError.__init__" PySem.WX.tlV PySem.WX.tlV := ⟨PySem.WX.tail_V, ⟨_, _, _, _, _, _, _, _, _, _, _, _, _, _, xNoText⟩, sNoText, gNoText, hNoText, eNoText, tNoText, kNoText⟩
  have FNoText : C8.Fun K "__init__" "NoText.__init__" s_NoText___init__ fNoText (PySem.W.fnOf "__init__" "NoText.__init__" (C8.fnArgs s_NoText___init__) (C8.fnBody s_NoText___init__) (C8.fnScope s_NoText___init__) .none kVNoText docNoText pmNoText anNoText cdNoText ctNoText) := ⟨⟨_, _, _, _, _, _, _, _, _, _, rfl, lNoText, vNoText⟩⟩
  have xiNoDeed := xis_mk gNoDeed hNoDeed eNoDeed dNoDeed cNoDeed sp tk mNoDeed
  have xcNoDeed : Xc K CNoDeed "ValueError" "ValueError.__new__" "ValueError.__init__" PySem.WX.tlV PySem.WX.tlV := ⟨PySem.WX.tail_V, ⟨_, _, _, _, _, _, _, _, _, _, _, _, _, _, xNoDeed⟩, sNoDeed, gNoDeed, hNoDeed, eNoDeed, tNoDeed, kNoDeed⟩
  have FNoDeed : C8.Fun K "__init__" "NoDeed.__init__" s_NoDeed___init__ fNoDeed (PySem.W.fnOf "__init__" "NoDeed.__init__" (C8.fnArgs s_NoDeed___init__) (C8.fnBody s_NoDeed___init__) (C8.fnScope s_NoDeed___init__) .none kVNoDeed docNoDeed pmNoDeed anNoDeed cdNoDeed ctNoDeed) := ⟨⟨_, _, _, _, _, _, _, _, _, _, rfl, lNoDeed, vNoDeed⟩⟩
  have xiNoWay := xis_mk gNoWay hNoWay eNoWay dNoWay cNoWay sp tk mNoWay
  have xcNoWay : Xc K CNoWay "ValueError" "ValueError.__new__" "ValueError.__init__" PySem.WX.tlV PySem.WX.tlV := ⟨PySem.WX.tail_V, ⟨_, _, _, _, _, _, _, _, _, _, _, _, _, _, xNoWay⟩, sNoWay, gNoWay, hNoWay, eNoWay, tNoWay, kNoWay⟩
  have FNoWay : C8.Fun K "__init__" "NoWay.__init__" s_NoWay___init__ fNoWay (PySem.W.fnOf "__init__" "NoWay.__init__" (C8.fnArgs s_NoWay___init__) (C8.fnBody s_NoWay___init__) (C8.fnScope s_NoWay___init__) .none kVNoWay docNoWay pmNoWay anNoWay cdNoWay ctNoWay) := ⟨⟨_, _, _, _, _, _, _, _, _, _, rfl, lNoWay, vNoWay⟩⟩
  have xiNoGoal := xis_mk gNoGoal hNoGoal eNoGoal dNoGoal cNoGoal sp tk mNoGoal
  have xcNoGoal : Xc K CNoGoal "ValueError" "ValueError.__new__" "ValueError.__init__" PySem.WX.tlV PySem.WX.tlV := ⟨PySem.WX.tail_V, ⟨_, _, _, _, _, _, _, _, _, _, _, _, _, _, xNoGoal⟩, sNoGoal, gNoGoal, hNoGoal, eNoGoal, tNoGoal, kNoGoal⟩
  have FNoGoal : C8.Fun K "__init__" "NoGoal.__init__" s_NoGoal___init__ fNoGoal (PySem.W.fnOf "__init__" "NoGoal.__init__" (C8.fnArgs s_NoGoal___init__) (C8.fnBody s_NoGoal___init__) (C8.fnScope s_NoGoal___init__) .none kVNoGoal docNoGoal pmNoGoal anNoGoal cdNoGoal ctNoGoal) := ⟨⟨_, _, _, _, _, _, _, _, _, _, rfl, lNoGoal, vNoGoal⟩⟩
  have xiNoTurning := xis_mk gNoTurning hNoTurning eNoTurning dNoTurning cNoTurning sp tk mNoTurning
  have xcNoTurning : Xc K CNoTurning "ValueError" "ValueError.__new__" "ValueError.__init__" PySem.WX.tlV PySem.WX.tlV := ⟨PySem.WX.tail_V, ⟨_, _, _, _, _, _, _, _, _, _, _, _, _, _, xNoTurning⟩, sNoTurning, gNoTurning, hNoTurning, eNoTurning, tNoTurning, kNoTurning⟩
  have FNoTurning : C8.Fun K "__init__" "NoTurning.__init__" s_NoTurning___init__ fNoTurning (PySem.W.fnOf "__init__" "NoTurning.__init__" (C8.fnArgs s_NoTurning___init__) (C8.fnBody s_NoTurning___init__) (C8.fnScope s_NoTurning___init__) .none kVNoTurning docNoTurning pmNoTurning anNoTurning cdNoTurning ctNoTurning) := ⟨⟨_, _, _, _, _, _, _, _, _, _, rfl, lNoTurning, vNoTurning⟩⟩
  have xiNoName := xis_mk gNoName hNoName eNoName dNoName cNoName sp tk mNoName
  have xcNoName : Xc K CNoName "LookupError" "LookupError.__new__" "LookupError.__init__" PySem.WX.tlL PySem.WX.tlK := ⟨PySem.WX.tail_K, ⟨_, _, _, _, _, _, _, _, _, _, _, _, _, _, xNoName⟩, sNoName, gNoName, hNoName, eNoName, tNoName, kNoName⟩
  have FNoName : C8.Fun K "__init__" "NoName.__init__" s_NoName___init__ fNoName (PySem.W.fnOf "__init__" "NoName.__init__" (C8.fnArgs s_NoName___init__) (C8.fnBody s_NoName___init__) (C8.fnScope s_NoName___init__) .none kVNoName docNoName pmNoName anNoName cdNoName ctNoName) := ⟨⟨_, _, _, _, _, _, _, _, _, _, rfl, lNoName, vNoName⟩⟩
  have xiNoReply := xis_mk gNoReply hNoReply eNoReply dNoReply cNoReply sp tk mNoReply
  have xcNoReply : Xc K CNoReply "LookupError" "LookupError.__new__" "LookupError.__init__" PySem.WX.tlL PySem.WX.tlK := ⟨PySem.WX.tail_K, ⟨_, _, _, _, _, _, _, _, _, _, _, _, _, _, xNoReply⟩, sNoReply, gNoReply, hNoReply, eNoReply, tNoReply, kNoReply⟩
  have FNoReply : C8.Fun K "__init__" "NoReply.__init__" s_NoReply___init__ fNoReply (PySem.W.fnOf "__init__" "NoReply.__init__" (C8.fnArgs s_NoReply___init__) (C8.fnBody s_NoReply___init__) (C8.fnScope s_NoReply___init__) .none kVNoReply docNoReply pmNoReply anNoReply cdNoReply ctNoReply) := ⟨⟨_, _, _, _, _, _, _, _, _, _, rfl, lNoReply, vNoReply⟩⟩
  have xiNoNumber := xis_mk gNoNumber hNoNumber eNoNumber dNoNumber cNoNumber sp tk mNoNumber
  have xcNoNumber : Xc K CNoNumber "IndexError" "IndexError.__new__" "IndexError.__init__" PySem.WX.tlI PySem.WX.tlI := ⟨PySem.WX.tail_I, ⟨_, _, _, _, _, _, _, _, _, _, _, _, _, _, xNoNumber⟩, sNoNumber, gNoNumber, hNoNumber, eNoNumber, tNoNumber, kNoNumber⟩
  have FNoNumber : C8.Fun K "__init__" "NoNumber.__init__" s_NoNumber___init__ fNoNumber (PySem.W.fnOf "__init__" "NoNumber.__init__" (C8.fnArgs s_NoNumber___init__) (C8.fnBody s_NoNumber___init__) (C8.fnScope s_NoNumber___init__) .none kVNoNumber docNoNumber pmNoNumber anNoNumber cdNoNumber ctNoNumber) := ⟨⟨_, _, _, _, _, _, _, _, _, _, rfl, lNoNumber, vNoNumber⟩⟩
  have xiNoMoment := xis_mk gNoMoment hNoMoment eNoMoment dNoMoment cNoMoment sp tk mNoMoment
  have xcNoMoment : Xc K CNoMoment "IndexError" "IndexError.__new__" "IndexError.__init__" PySem.WX.tlI PySem.WX.tlI := ⟨PySem.WX.tail_I, ⟨_, _, _, _, _, _, _, _, _, _, _, _, _, _, xNoMoment⟩, sNoMoment, gNoMoment, hNoMoment, eNoMoment, tNoMoment, kNoMoment⟩
  have FNoMoment : C8.Fun K "__init__" "NoMoment.__init__" s_NoMoment___init__ fNoMoment (PySem.W.fnOf "__init__" "NoMoment.__init__" (C8.fnArgs s_NoMoment___init__) (C8.fnBody s_NoMoment___init__) (C8.fnScope s_NoMoment___init__) .none kVNoMoment docNoMoment pmNoMoment anNoMoment cdNoMoment ctNoMoment) := ⟨⟨_, _, _, _, _, _, _, _, _, _, rfl, lNoMoment, vNoMoment⟩⟩
  have xiNoPlan := xis_mk gNoPlan hNoPlan eNoPlan dNoPlan cNoPlan sp tk mNoPlan
  have xcNoPlan : Xc K CNoPlan "LookupError" "LookupError.__new__" "LookupError.__init__" PySem.WX.tlL PySem.WX.tlL := ⟨PySem.WX.tail_L, ⟨_, _, _, _, _, _, _, _, _, _, _, _, _, _, xNoPlan⟩, sNoPlan, gNoPlan, hNoPlan, eNoPlan, tNoPlan, kNoPlan⟩
  have xiNoMore := xis_mk gNoMore hNoMore eNoMore dNoMore cNoMore sp tk mNoMore
  have xcNoMore : Xc K CNoMore "LookupError" "LookupError.__new__" "LookupError.__init__" PySem.WX.tlL PySem.WX.tlL := ⟨PySem.WX.tail_L, ⟨_, _, _, _, _, _, _, _, _, _, _, _, _, _, xNoMore⟩, sNoMore, gNoMore, hNoMore, eNoMore, tNoMore, kNoMore⟩
  have FNoMore : C8.Fun K "__init__" "NoMore.__init__" s_NoMore___init__ fNoMore (PySem.W.fnOf "__init__" "NoMore.__init__" (C8.fnArgs s_NoMore___init__) (C8.fnBody s_NoMore___init__) (C8.fnScope s_NoMore___init__) .none kVNoMore docNoMore pmNoMore anNoMore cdNoMore ctNoMore) := ⟨⟨_, _, _, _, _, _, _, _, _, _, rfl, lNoMore, vNoMore⟩⟩
  have xiNotRising := xis_mk gNotRising hNotRising eNotRising dNotRising cNotRising sp tk mNotRising
  have xcNotRising : Xc K CNotRising "ArithmeticError" "ArithmeticError.__new__" "ArithmeticError.__init__" PySem.WX.tlA PySem.WX.tlA := ⟨PySem.WX.tail_A, ⟨_, _, _, _, _, _, _, _, _, _, _, _, _, _, xNotRising⟩, sNotRising, gNotRising, hNotRising, eNotRising, tNotRising, kNotRising⟩
  have FNotRising : C8.Fun K "__init__" "NotRising.__init__" s_NotRising___init__ fNotRising (PySem.W.fnOf "__init__" "NotRising.__init__" (C8.fnArgs s_NotRising___init__) (C8.fnBody s_NotRising___init__) (C8.fnScope s_NotRising___init__) .none kVNotRising docNotRising pmNotRising anNotRising cdNotRising ctNotRising) := ⟨⟨_, _, _, _, _, _, _, _, _, _, rfl, lNotRising, vNotRising⟩⟩
  have xiUnlike := xis_mk gUnlike hUnlike eUnlike dUnlike cUnlike sp tk mUnlike
  have xcUnlike : Xc K CUnlike "ArithmeticError" "ArithmeticError.__new__" "ArithmeticError.__init__" PySem.WX.tlA PySem.WX.tlA := ⟨PySem.WX.tail_A, ⟨_, _, _, _, _, _, _, _, _, _, _, _, _, _, xUnlike⟩, sUnlike, gUnlike, hUnlike, eUnlike, tUnlike, kUnlike⟩
  have xiTooMany := xis_mk gTooMany hTooMany eTooMany dTooMany cTooMany sp tk mTooMany
  have xcTooMany : Xc K CTooMany "OverflowError" "OverflowError.__new__" "OverflowError.__init__" PySem.WX.tlO PySem.WX.tlO := ⟨PySem.WX.tail_O, ⟨_, _, _, _, _, _, _, _, _, _, _, _, _, _, xTooMany⟩, sTooMany, gTooMany, hTooMany, eTooMany, tTooMany, kTooMany⟩
  have FTooMany : C8.Fun K "__init__" "TooMany.__init__" s_TooMany___init__ fTooMany (PySem.W.fnOf "__init__" "TooMany.__init__" (C8.fnArgs s_TooMany___init__) (C8.fnBody s_TooMany___init__) (C8.fnScope s_TooMany___init__) .none kVTooMany docTooMany pmTooMany anTooMany cdTooMany ctTooMany) := ⟨⟨_, _, _, _, _, _, _, _, _, _, rfl, lTooMany, vTooMany⟩⟩
  have xiNoBack := xis_mk gNoBack hNoBack eNoBack dNoBack cNoBack sp tk mNoBack
  have xcNoBack : Xc K CNoBack "RuntimeError" "RuntimeError.__new__" "RuntimeError.__init__" PySem.WX.tlR PySem.WX.tlR := ⟨PySem.WX.tail_R, ⟨_, _, _, _, _, _, _, _, _, _, _, _, _, _, xNoBack⟩, sNoBack, gNoBack, hNoBack, eNoBack, tNoBack, kNoBack⟩
  have FNoBack : C8.Fun K "__init__" "NoBack.__init__" s_NoBack___init__ fNoBack (PySem.W.fnOf "__init__" "NoBack.__init__" (C8.fnArgs s_NoBack___init__) (C8.fnBody s_NoBack___init__) (C8.fnScope s_NoBack___init__) .none kVNoBack docNoBack pmNoBack anNoBack cdNoBack ctNoBack) := ⟨⟨_, _, _, _, _, _, _, _, _, _, rfl, lNoBack, vNoBack⟩⟩
  have xiNotMet := xis_mk gNotMet hNotMet eNotMet dNotMet cNotMet sp tk mNotMet
  have xcNotMet : Xc K CNotMet "RuntimeError" "RuntimeError.__new__" "RuntimeError.__init__" PySem.WX.tlR PySem.WX.tlR := ⟨PySem.WX.tail_R, ⟨_, _, _, _, _, _, _, _, _, _, _, _, _, _, xNotMet⟩, sNotMet, gNotMet, hNotMet, eNotMet, tNotMet, kNotMet⟩
  have D0 : C8.Def K mg "_law_pen" s__law_pen df0 (PySem.W.fnOf "_law_pen" "_law_pen" (C8.fnArgs s__law_pen) (C8.fnBody s__law_pen) (C8.fnScope s__law_pen) .none dkV0 ddoc0 dpm0 dan0 dcd0 dct0) := ⟨⟨⟨_, _, _, _, _, _, _, _, _, _, rfl, dl0, dc0⟩⟩, PySem.W.mg_of X G da0, dk0⟩
  have b0 : Binds K (PySem.W.fnOf "_law_pen" "_law_pen" (C8.fnArgs s__law_pen) (C8.fnBody s__law_pen) (C8.fnScope s__law_pen) .none dkV0 ddoc0 dpm0 dan0 dcd0 dct0) ["script"] [] := .all fun us hl => match us, hl with | [_], _ => rfl
  have D1 : C8.Def K mg "_law_draw" s__law_draw df1 (PySem.W.fnOf "_law_draw" "_law_draw" (C8.fnArgs s__law_draw) (C8.fnBody s__law_draw) (C8.fnScope s__law_draw) .none dkV1 ddoc1 dpm1 dan1 dcd1 dct1) := ⟨⟨⟨_, _, _, _, _, _, _, _, _, _, rfl, dl1, dc1⟩⟩, PySem.W.mg_of X G da1, dk1⟩
  have b1 : Binds K (PySem.W.fnOf "_law_draw" "_law_draw" (C8.fnArgs s__law_draw) (C8.fnBody s__law_draw) (C8.fnScope s__law_draw) .none dkV1 ddoc1 dpm1 dan1 dcd1 dct1) ["pen", "many"] [] := .all fun us hl => match us, hl with | [_, _], _ => rfl
  have D2 : C8.Def K mg "_law_pick" s__law_pick df2 (PySem.W.fnOf "_law_pick" "_law_pick" (C8.fnArgs s__law_pick) (C8.fnBody s__law_pick) (C8.fnScope s__law_pick) .none dkV2 ddoc2 dpm2 dan2 dcd2 dct2) := ⟨⟨⟨_, _, _, _, _, _, _, _, _, _, rfl, dl2, dc2⟩⟩, PySem.W.mg_of X G da2, dk2⟩
  have b2 : Binds K (PySem.W.fnOf "_law_pick" "_law_pick" (C8.fnArgs s__law_pick) (C8.fnBody s__law_pick) (C8.fnScope s__law_pick) .none dkV2 ddoc2 dpm2 dan2 dcd2 dct2) ["pen", "some"] [] := .all fun us hl => match us, hl with | [_, _], _ => rfl
  have D3 : C8.Def K mg "_law_made_errors" s__law_made_errors df3 (PySem.W.fnOf "_law_made_errors" "_law_made_errors" (C8.fnArgs s__law_made_errors) (C8.fnBody s__law_made_errors) (C8.fnScope s__law_made_errors) .none dkV3 ddoc3 dpm3 dan3 dcd3 dct3) := ⟨⟨⟨_, _, _, _, _, _, _, _, _, _, rfl, dl3, dc3⟩⟩, PySem.W.mg_of X G da3, dk3⟩
  have b3 : Binds K (PySem.W.fnOf "_law_made_errors" "_law_made_errors" (C8.fnArgs s__law_made_errors) (C8.fnBody s__law_made_errors) (C8.fnScope s__law_made_errors) .none dkV3 ddoc3 dpm3 dan3 dcd3 dct3) ["a", "b", "by_names"] [] := .all fun us hl => match us, hl with | [_, _, _], _ => rfl
  have D4 : C8.Def K mg "_law_kinds" s__law_kinds df4 (PySem.W.fnOf "_law_kinds" "_law_kinds" (C8.fnArgs s__law_kinds) (C8.fnBody s__law_kinds) (C8.fnScope s__law_kinds) .none dkV4 ddoc4 dpm4 dan4 dcd4 dct4) := ⟨⟨⟨_, _, _, _, _, _, _, _, _, _, rfl, dl4, dc4⟩⟩, PySem.W.mg_of X G da4, dk4⟩
  have b4 : Binds K (PySem.W.fnOf "_law_kinds" "_law_kinds" (C8.fnArgs s__law_kinds) (C8.fnBody s__law_kinds) (C8.fnScope s__law_kinds) .none dkV4 ddoc4 dpm4 dan4 dcd4 dct4) ["e"] [] := .all fun us hl => match us, hl with | [_], _ => rfl
  have D5 : C8.Def K mg "_law_bases" s__law_bases df5 (PySem.W.fnOf "_law_bases" "_law_bases" (C8.fnArgs s__law_bases) (C8.fnBody s__law_bases) (C8.fnScope s__law_bases) .none dkV5 ddoc5 dpm5 dan5 dcd5 dct5) := ⟨⟨⟨_, _, _, _, _, _, _, _, _, _, rfl, dl5, dc5⟩⟩, PySem.W.mg_of X G da5, dk5⟩
  have b5 : Binds K (PySem.W.fnOf "_law_bases" "_law_bases" (C8.fnArgs s__law_bases) (C8.fnBody s__law_bases) (C8.fnScope s__law_bases) .none dkV5 ddoc5 dpm5 dan5 dcd5 dct5) ["e"] [] := .all fun us hl => match us, hl with | [_], _ => rfl
  have D6 : C8.Def K mg "_law_due_bases" s__law_due_bases df6 (PySem.W.fnOf "_law_due_bases" "_law_due_bases" (C8.fnArgs s__law_due_bases) (C8.fnBody s__law_due_bases) (C8.fnScope s__law_due_bases) .none dkV6 ddoc6 dpm6 dan6 dcd6 dct6) := ⟨⟨⟨_, _, _, _, _, _, _, _, _, _, rfl, dl6, dc6⟩⟩, PySem.W.mg_of X G da6, dk6⟩
  have b6 : Binds K (PySem.W.fnOf "_law_due_bases" "_law_due_bases" (C8.fnArgs s__law_due_bases) (C8.fnBody s__law_due_bases) (C8.fnScope s__law_due_bases) .none dkV6 ddoc6 dpm6 dan6 dcd6 dct6) [] [] := .all fun us hl => match us, hl with | [], _ => rfl
  have D7 : C8.Def K mg "_law_fields" s__law_fields df7 (PySem.W.fnOf "_law_fields" "_law_fields" (C8.fnArgs s__law_fields) (C8.fnBody s__law_fields) (C8.fnScope s__law_fields) .none dkV7 ddoc7 dpm7 dan7 dcd7 dct7) := ⟨⟨⟨_, _, _, _, _, _, _, _, _, _, rfl, dl7, dc7⟩⟩, PySem.W.mg_of X G da7, dk7⟩
  have b7 : Binds K (PySem.W.fnOf "_law_fields" "_law_fields" (C8.fnArgs s__law_fields) (C8.fnBody s__law_fields) (C8.fnScope s__law_fields) .none dkV7 ddoc7 dpm7 dan7 dcd7 dct7) ["made"] [] := .all fun us hl => match us, hl with | [_], _ => rfl
  have D8 : C8.Def K mg "law" s_law fa (PySem.W.fnOf "law" "law" (C8.fnArgs s_law) (C8.fnBody s_law) (C8.fnScope s_law) .none dkV8 ddoc8 dpm8 dan8 dcd8 dct8) := ⟨⟨⟨_, _, _, _, _, _, _, _, _, _, rfl, dl8, dc8⟩⟩, PySem.W.mg_of X G da8, dk8⟩
  have b8 : Binds K (PySem.W.fnOf "law" "law" (C8.fnArgs s_law) (C8.fnBody s_law) (C8.fnScope s_law) .none dkV8 ddoc8 dpm8 dan8 dcd8 dct8) ["script"] [] := .all fun us hl => match us, hl with | [_], _ => rfl
  refine ⟨PySem.W.fnOf "law" "law" (C8.fnArgs s_law) (C8.fnBody s_law) (C8.fnScope s_law) .none dkV8 ddoc8 dpm8 dan8 dcd8 dct8, fun s v => .of_eq rfl, fun base _ _ => ?_⟩
  have T : Txt l.prog w K mg base ⟨⟨CNoText, fNoText, _⟩, ⟨CNoDeed, fNoDeed, _⟩, ⟨CNoWay, fNoWay, _⟩, ⟨CNoGoal, fNoGoal, _⟩, ⟨CNoTurning, fNoTurning, _⟩, ⟨CNoName, fNoName, _⟩, ⟨CNoReply, fNoReply, _⟩, ⟨CNoNumber, fNoNumber, _⟩, ⟨CNoMoment, fNoMoment, _⟩, ⟨CNoPlan, CNoPlan, PySem.W.fnOf "" "" (C8.fnArgs s_law) [] (C8.fnScope s_law) .none .none .none .none none .none .none⟩, ⟨CNoMore, fNoMore, _⟩, ⟨CNotRising, fNotRising, _⟩, ⟨CUnlike, CUnlike, PySem.W.fnOf "" "" (C8.fnArgs s_law) [] (C8.fnScope s_law) .none .none .none .none none .none .none⟩, ⟨CTooMany, fTooMany, _⟩, ⟨CNoBack, fNoBack, _⟩, ⟨CNotMet, CNotMet, PySem.W.fnOf "" "" (C8.fnArgs s_law) [] (C8.fnScope s_law) .none .none .none .none none .none .none⟩⟩ := {
    b_len := PySem.W.mg_none_of X G zlen
    b_abs := PySem.W.mg_none_of X G zabs
    b_list := PySem.W.mg_none_of X G zlist
    b_range := PySem.W.mg_none_of X G zrange
    b_min := PySem.W.mg_none_of X G zmin
    b_isinstance := PySem.W.mg_none_of X G zisinstance
    b_repr := PySem.W.mg_none_of X G zrepr
    b_ValueError := PySem.W.mg_none_of X G zValueError
    b_LookupError := PySem.W.mg_none_of X G zLookupError
    b_KeyError := PySem.W.mg_none_of X G zKeyError
    b_IndexError := PySem.W.mg_none_of X G zIndexError
    b_ArithmeticError := PySem.W.mg_none_of X G zArithmeticError
    b_OverflowError := PySem.W.mg_none_of X G zOverflowError
    b_ZeroDivisionError := PySem.W.mg_none_of X G zZeroDivisionError
    b_RuntimeError := PySem.W.mg_none_of X G zRuntimeError
    b_NotImplementedError := PySem.W.mg_none_of X G zNotImplementedError
    b_TypeError := PySem.W.mg_none_of X G zTypeError
    x_NoText := ⟨PySem.W.mg_of X G aNoText, xcNoText, xiNoText, oNoTextrow, iNoText, yNoText, i_NoText FNoText, kbn_p fun us hl => match us, hl with | [_, _], _ => rfl, kbn_k fun _ _ => rfl⟩
    x_NoDeed := ⟨PySem.W.mg_of X G aNoDeed, xcNoDeed, xiNoDeed, oNoDeedwhy, iNoDeed, yNoDeed, i_NoDeed FNoDeed, kbn_p fun us hl => match us, hl with | [_, _], _ => rfl, kbn_k fun _ _ => rfl⟩
    x_NoWay := ⟨PySem.W.mg_of X G aNoWay, xcNoWay, xiNoWay, oNoWayat, oNoWaywhy, iNoWay, yNoWay, i_NoWay FNoWay, kbn_p fun us hl => match us, hl with | [_, _, _], _ => rfl, kbn_k2 fun _ _ _ => rfl⟩
    x_NoGoal := ⟨PySem.W.mg_of X G aNoGoal, xcNoGoal, xiNoGoal, oNoGoalat, iNoGoal, yNoGoal, i_NoGoal FNoGoal, kbn_p fun us hl => match us, hl with | [_, _], _ => rfl, kbn_k fun _ _ => rfl⟩
    x_NoTurning := ⟨PySem.W.mg_of X G aNoTurning, xcNoTurning, xiNoTurning, oNoTurningat, iNoTurning, yNoTurning, i_NoTurning FNoTurning, kbn_p fun us hl => match us, hl with | [_, _], _ => rfl, kbn_k fun _ _ => rfl⟩
    x_NoName := ⟨PySem.W.mg_of X G aNoName, xcNoName, xiNoName, oNoNameasked, iNoName, yNoName, i_NoName FNoName, kbn_p fun us hl => match us, hl with | [_, _], _ => rfl, kbn_k fun _ _ => rfl⟩
    x_NoReply := ⟨PySem.W.mg_of X G aNoReply, xcNoReply, xiNoReply, oNoReplyasked, iNoReply, yNoReply, i_NoReply FNoReply, kbn_p fun us hl => match us, hl with | [_, _], _ => rfl, kbn_k fun _ _ => rfl⟩
    x_NoNumber := ⟨PySem.W.mg_of X G aNoNumber, xcNoNumber, xiNoNumber, oNoNumberasked, iNoNumber, yNoNumber, i_NoNumber FNoNumber, kbn_p fun us hl => match us, hl with | [_, _], _ => rfl, kbn_k fun _ _ => rfl⟩
    x_NoMoment := ⟨PySem.W.mg_of X G aNoMoment, xcNoMoment, xiNoMoment, oNoMomentasked, iNoMoment, yNoMoment, i_NoMoment FNoMoment, kbn_p fun us hl => match us, hl with | [_, _], _ => rfl, kbn_k fun _ _ => rfl⟩
    x_NoPlan := ⟨PySem.W.mg_of X G aNoPlan, xcNoPlan, xiNoPlan, kNoPlan, PySem.F.excBase_LookupError, qNoPlanx⟩
    x_NoMore := ⟨PySem.W.mg_of X G aNoMore, xcNoMore, xiNoMore, oNoMoreword, iNoMore, yNoMore, i_NoMore FNoMore, kbn_p fun us hl => match us, hl with | [_, _], _ => rfl, kbn_k fun _ _ => rfl⟩
    x_NotRising := ⟨PySem.W.mg_of X G aNotRising, xcNotRising, xiNotRising, oNotRisingname, iNotRising, yNotRising, i_NotRising FNotRising, kbn_p fun us hl => match us, hl with | [_, _], _ => rfl, kbn_k fun _ _ => rfl⟩
    x_Unlike := ⟨PySem.W.mg_of X G aUnlike, xcUnlike, xiUnlike, kUnlike, PySem.F.excBase_ArithmeticError, qUnlikex⟩
    x_TooMany := ⟨PySem.W.mg_of X G aTooMany, xcTooMany, xiTooMany, oTooManymost, iTooMany, yTooMany, i_TooMany FTooMany, kbn_p fun us hl => match us, hl with | [_, _], _ => rfl, kbn_k fun _ _ => rfl⟩
    x_NoBack := ⟨PySem.W.mg_of X G aNoBack, xcNoBack, xiNoBack, oNoBackat, iNoBack, yNoBack, i_NoBack FNoBack, kbn_p fun us hl => match us, hl with | [_, _], _ => rfl, kbn_k fun _ _ => rfl⟩
    x_NotMet := ⟨PySem.W.mg_of X G aNotMet, xcNotMet, xiNotMet, kNotMet, PySem.F.excBase_RuntimeError, qNotMetx⟩
    nodup := nd }
  have cd := c_draw T D1 b1
  have L := c_law T (c_pen T D0 b0) cd (c_pick T cd D2 b2) (c_made T D3 b3) (c_kinds T D4 b4) (c_bases T D5 b5) (c_due T D6 b6) (c_fields T D7 b7) D8
  exact L
end Wd

set_option Elab.async false
set_option linter.all false
set_option maxRecDepth 100000
open PySem PySem.W PyProof.Rows
set_option maxHeartbeats 0 in
theorem PySem.Challenge.cw_weighdoors_k04_refusals_by_their_kinds_holds : PySem.Challenge.rw_weighdoors_k04_refusals_by_their_kinds.Holds := by
  w_on; o_law; k_head; (case hw => w_witness2)
  k_fill
  refine Wd.walk_g (l := PySem.Challenge.rw_weighdoors_k04_refusals_by_their_kinds) (n := 63) (k := 4) (x := "script") (sp := fun w => Wd.spLaw _) rfl (by decide) rfl ⟨rfl, by decide, by decide⟩ (fun w h Y => PySem.W.kIn_of Y) ?F (fun _ _ a ks hl _ hS => ⟨a, ks, rfl, hS, hl, fun _ => rfl⟩)
  case F =>
    intro w mg fa h KX G hmg
    refine' Wd.all_mk KX G hmg ?aNoText ?xNoText ?sNoText ?gNoText ?hNoText ?eNoText ?tNoText ?kNoText ?dNoText ?cNoText ?mNoText ?oNoTextrow ?iNoText ?yNoText ?lNoText ?vNoText ?aNoDeed ?xNoDeed ?sNoDeed ?gNoDeed ?hNoDeed ?eNoDeed ?tNoDeed ?kNoDeed ?dNoDeed ?cNoDeed ?mNoDeed ?oNoDeedwhy ?iNoDeed ?yNoDeed ?lNoDeed ?vNoDeed ?aNoWay ?xNoWay ?sNoWay ?gNoWay ?hNoWay ?eNoWay ?tNoWay ?kNoWay ?dNoWay ?cNoWay ?mNoWay ?oNoWayat ?oNoWaywhy ?iNoWay ?yNoWay ?lNoWay ?vNoWay ?aNoGoal ?xNoGoal ?sNoGoal ?gNoGoal ?hNoGoal ?eNoGoal ?tNoGoal ?kNoGoal ?dNoGoal ?cNoGoal ?mNoGoal ?oNoGoalat ?iNoGoal ?yNoGoal ?lNoGoal ?vNoGoal ?aNoTurning ?xNoTurning ?sNoTurning ?gNoTurning ?hNoTurning ?eNoTurning ?tNoTurning ?kNoTurning ?dNoTurning ?cNoTurning ?mNoTurning ?oNoTurningat ?iNoTurning ?yNoTurning ?lNoTurning ?vNoTurning ?aNoName ?xNoName ?sNoName ?gNoName ?hNoName ?eNoName ?tNoName ?kNoName ?dNoName ?cNoName ?mNoName ?oNoNameasked ?iNoName ?yNoName ?lNoName ?vNoName ?aNoReply ?xNoReply ?sNoReply ?gNoReply ?hNoReply ?eNoReply ?tNoReply ?kNoReply ?dNoReply ?cNoReply ?mNoReply ?oNoReplyasked ?iNoReply ?yNoReply ?lNoReply ?vNoReply ?aNoNumber ?xNoNumber ?sNoNumber ?gNoNumber ?hNoNumber ?eNoNumber ?tNoNumber ?kNoNumber ?dNoNumber ?cNoNumber ?mNoNumber ?oNoNumberasked ?iNoNumber ?yNoNumber ?lNoNumber ?vNoNumber ?aNoMoment ?xNoMoment ?sNoMoment ?gNoMoment ?hNoMoment ?eNoMoment ?tNoMoment ?kNoMoment ?dNoMoment ?cNoMoment ?mNoMoment ?oNoMomentasked ?iNoMoment ?yNoMoment ?lNoMoment ?vNoMoment ?aNoPlan ?xNoPlan ?sNoPlan ?gNoPlan ?hNoPlan ?eNoPlan ?tNoPlan ?kNoPlan ?dNoPlan ?cNoPlan ?mNoPlan ?qNoPlanx ?aNoMore ?xNoMore ?sNoMore ?gNoMore ?hNoMore ?eNoMore ?tNoMore ?kNoMore ?dNoMore ?cNoMore ?mNoMore ?oNoMoreword ?iNoMore ?yNoMore ?lNoMore ?vNoMore ?aNotRising ?xNotRising ?sNotRising ?gNotRising ?hNotRising ?eNotRising ?tNotRising ?kNotRising ?dNotRising ?cNotRising ?mNotRising ?oNotRisingname ?iNotRising ?yNotRising ?lNotRising ?vNotRising ?aUnlike ?xUnlike ?sUnlike ?gUnlike ?hUnlike ?eUnlike ?tUnlike ?kUnlike ?dUnlike ?cUnlike ?mUnlike ?qUnlikex ?aTooMany ?xTooMany ?sTooMany ?gTooMany ?hTooMany ?eTooMany ?tTooMany ?kTooMany ?dTooMany ?cTooMany ?mTooMany ?oTooManymost ?iTooMany ?yTooMany ?lTooMany ?vTooMany ?aNoBack ?xNoBack ?sNoBack ?gNoBack ?hNoBack ?eNoBack ?tNoBack ?kNoBack ?dNoBack ?cNoBack ?mNoBack ?oNoBackat ?iNoBack ?yNoBack ?lNoBack ?vNoBack ?aNotMet ?xNotMet ?sNotMet ?gNotMet ?hNotMet ?eNotMet ?tNotMet ?kNotMet ?dNotMet ?cNotMet ?mNotMet ?qNotMetx ?sp ?tk ?da0 ?dl0 ?dc0 ?dk0 ?da1 ?dl1 ?dc1 ?dk1 ?da2 ?dl2 ?dc2 ?dk2 ?da3 ?dl3 ?dc3 ?dk3 ?da4 ?dl4 ?dc4 ?dk4 ?da5 ?dl5 ?dc5 ?dk5 ?da6 ?dl6 ?dc6 ?dk6 ?da7 ?dl7 ?dc7 ?dk7 ?da8 ?dl8 ?dc8 ?dk8 ?zlen ?zabs ?zlist ?zrange ?zmin ?zisinstance ?zrepr ?zValueError ?zLookupError ?zKeyError ?zIndexError ?zArithmeticError ?zOverflowError ?zZeroDivisionError ?zRuntimeError ?zNotImplementedError ?zTypeError ?nd
    (case aNoText => k_is); (case xNoText => k_is); (case sNoText => k_is); (case gNoText => k_is); (case hNoText => k_is); (case eNoText => k_is)
    (case tNoText => k_is); (case kNoText => k_is); (case dNoText => k_is); (case cNoText => k_is); (case mNoText => k_is); (case oNoTextrow => k_is)
    (case iNoText => k_is); (case yNoText => k_is); (case lNoText => k_is); (case vNoText => k_is); (case aNoDeed => k_is); (case xNoDeed => k_is)
    (case sNoDeed => k_is); (case gNoDeed => k_is); (case hNoDeed => k_is); (case eNoDeed => k_is); (case tNoDeed => k_is); (case kNoDeed => k_is)
    (case dNoDeed => k_is); (case cNoDeed => k_is); (case mNoDeed => k_is); (case oNoDeedwhy => k_is); (case iNoDeed => k_is); (case yNoDeed => k_is)
    (case lNoDeed => k_is); (case vNoDeed => k_is); (case aNoWay => k_is); (case xNoWay => k_is); (case sNoWay => k_is); (case gNoWay => k_is)
    (case hNoWay => k_is); (case eNoWay => k_is); (case tNoWay => k_is); (case kNoWay => k_is); (case dNoWay => k_is); (case cNoWay => k_is)
    (case mNoWay => k_is); (case oNoWayat => k_is); (case oNoWaywhy => k_is); (case iNoWay => k_is); (case yNoWay => k_is); (case lNoWay => k_is)
    (case vNoWay => k_is); (case aNoGoal => k_is); (case xNoGoal => k_is); (case sNoGoal => k_is); (case gNoGoal => k_is); (case hNoGoal => k_is)
    (case eNoGoal => k_is); (case tNoGoal => k_is); (case kNoGoal => k_is); (case dNoGoal => k_is); (case cNoGoal => k_is); (case mNoGoal => k_is)
    (case oNoGoalat => k_is); (case iNoGoal => k_is); (case yNoGoal => k_is); (case lNoGoal => k_is); (case vNoGoal => k_is); (case aNoTurning => k_is)
    (case xNoTurning => k_is); (case sNoTurning => k_is); (case gNoTurning => k_is); (case hNoTurning => k_is); (case eNoTurning => k_is); (case tNoTurning => k_is)
    (case kNoTurning => k_is); (case dNoTurning => k_is); (case cNoTurning => k_is); (case mNoTurning => k_is); (case oNoTurningat => k_is); (case iNoTurning => k_is)
    (case yNoTurning => k_is); (case lNoTurning => k_is); (case vNoTurning => k_is); (case aNoName => k_is); (case xNoName => k_is); (case sNoName => k_is)
    (case gNoName => k_is); (case hNoName => k_is); (case eNoName => k_is); (case tNoName => k_is); (case kNoName => k_is); (case dNoName => k_is)
    (case cNoName => k_is); (case mNoName => k_is); (case oNoNameasked => k_is); (case iNoName => k_is); (case yNoName => k_is); (case lNoName => k_is)
    (case vNoName => k_is); (case aNoReply => k_is); (case xNoReply => k_is); (case sNoReply => k_is); (case gNoReply => k_is); (case hNoReply => k_is)
    (case eNoReply => k_is); (case tNoReply => k_is); (case kNoReply => k_is); (case dNoReply => k_is); (case cNoReply => k_is); (case mNoReply => k_is)
    (case oNoReplyasked => k_is); (case iNoReply => k_is); (case yNoReply => k_is); (case lNoReply => k_is); (case vNoReply => k_is); (case aNoNumber => k_is)
    (case xNoNumber => k_is); (case sNoNumber => k_is); (case gNoNumber => k_is); (case hNoNumber => k_is); (case eNoNumber => k_is); (case tNoNumber => k_is)
    (case kNoNumber => k_is); (case dNoNumber => k_is); (case cNoNumber => k_is); (case mNoNumber => k_is); (case oNoNumberasked => k_is); (case iNoNumber => k_is)
    (case yNoNumber => k_is); (case lNoNumber => k_is); (case vNoNumber => k_is); (case aNoMoment => k_is); (case xNoMoment => k_is); (case sNoMoment => k_is)
    (case gNoMoment => k_is); (case hNoMoment => k_is); (case eNoMoment => k_is); (case tNoMoment => k_is); (case kNoMoment => k_is); (case dNoMoment => k_is)
    (case cNoMoment => k_is); (case mNoMoment => k_is); (case oNoMomentasked => k_is); (case iNoMoment => k_is); (case yNoMoment => k_is); (case lNoMoment => k_is)
    (case vNoMoment => k_is); (case aNoPlan => k_is); (case xNoPlan => k_is); (case sNoPlan => k_is); (case gNoPlan => k_is); (case hNoPlan => k_is)
    (case eNoPlan => k_is); (case tNoPlan => k_is); (case kNoPlan => k_is); (case dNoPlan => k_is); (case cNoPlan => k_is); (case mNoPlan => k_is)
    (case qNoPlanx => k_exc); (case aNoMore => k_is); (case xNoMore => k_is); (case sNoMore => k_is); (case gNoMore => k_is); (case hNoMore => k_is)
    (case eNoMore => k_is); (case tNoMore => k_is); (case kNoMore => k_is); (case dNoMore => k_is); (case cNoMore => k_is); (case mNoMore => k_is)
    (case oNoMoreword => k_is); (case iNoMore => k_is); (case yNoMore => k_is); (case lNoMore => k_is); (case vNoMore => k_is); (case aNotRising => k_is)
    (case xNotRising => k_is); (case sNotRising => k_is); (case gNotRising => k_is); (case hNotRising => k_is); (case eNotRising => k_is); (case tNotRising => k_is)
    (case kNotRising => k_is); (case dNotRising => k_is); (case cNotRising => k_is); (case mNotRising => k_is); (case oNotRisingname => k_is); (case iNotRising => k_is)
    (case yNotRising => k_is); (case lNotRising => k_is); (case vNotRising => k_is); (case aUnlike => k_is); (case xUnlike => k_is); (case sUnlike => k_is)
    (case gUnlike => k_is); (case hUnlike => k_is); (case eUnlike => k_is); (case tUnlike => k_is); (case kUnlike => k_is); (case dUnlike => k_is)
    (case cUnlike => k_is); (case mUnlike => k_is); (case qUnlikex => k_exc); (case aTooMany => k_is); (case xTooMany => k_is); (case sTooMany => k_is)
    (case gTooMany => k_is); (case hTooMany => k_is); (case eTooMany => k_is); (case tTooMany => k_is); (case kTooMany => k_is); (case dTooMany => k_is)
    (case cTooMany => k_is); (case mTooMany => k_is); (case oTooManymost => k_is); (case iTooMany => k_is); (case yTooMany => k_is); (case lTooMany => k_is)
    (case vTooMany => k_is); (case aNoBack => k_is); (case xNoBack => k_is); (case sNoBack => k_is); (case gNoBack => k_is); (case hNoBack => k_is)
    (case eNoBack => k_is); (case tNoBack => k_is); (case kNoBack => k_is); (case dNoBack => k_is); (case cNoBack => k_is); (case mNoBack => k_is)
    (case oNoBackat => k_is); (case iNoBack => k_is); (case yNoBack => k_is); (case lNoBack => k_is); (case vNoBack => k_is); (case aNotMet => k_is)
    (case xNotMet => k_is); (case sNotMet => k_is); (case gNotMet => k_is); (case hNotMet => k_is); (case eNotMet => k_is); (case tNotMet => k_is)
    (case kNotMet => k_is); (case dNotMet => k_is); (case cNotMet => k_is); (case mNotMet => k_is); (case qNotMetx => k_exc); (case sp => k_is)
    (case tk => k_is); (case da0 => k_is); (case dl0 => k_is); (case dc0 => k_is); (case dk0 => k_is); (case da1 => k_is)
    (case dl1 => k_is); (case dc1 => k_is); (case dk1 => k_is); (case da2 => k_is); (case dl2 => k_is); (case dc2 => k_is)
    (case dk2 => k_is); (case da3 => k_is); (case dl3 => k_is); (case dc3 => k_is); (case dk3 => k_is); (case da4 => k_is)
    (case dl4 => k_is); (case dc4 => k_is); (case dk4 => k_is); (case da5 => k_is); (case dl5 => k_is); (case dc5 => k_is)
    (case dk5 => k_is); (case da6 => k_is); (case dl6 => k_is); (case dc6 => k_is); (case dk6 => k_is); (case da7 => k_is)
    (case dl7 => k_is); (case dc7 => k_is); (case dk7 => k_is); (case da8 => k_is); (case dl8 => k_is); (case dc8 => k_is)
    (case dk8 => k_is); (case zlen => k_is); (case zabs => k_is); (case zlist => k_is); (case zrange => k_is); (case zmin => k_is)
    (case zisinstance => k_is); (case zrepr => k_is); (case zValueError => k_is); (case zLookupError => k_is); (case zKeyError => k_is); (case zIndexError => k_is)
    (case zArithmeticError => k_is); (case zOverflowError => k_is); (case zZeroDivisionError => k_is); (case zRuntimeError => k_is); (case zNotImplementedError => k_is); (case zTypeError => k_is)
    (case nd => first | decide | k_is)
