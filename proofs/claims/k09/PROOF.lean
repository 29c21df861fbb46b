import PyProof.Rows.All
import Wide.All
import OpenK.AllK
import Wide.FinOn
import HandS.ForMost
import HandS.IsInst
import HandS.Defaults
import HandS.MakeKw
import HandS.Star
import HandS.OwnEq
import HandS.Property
import HandS.ClsMeth
import HandS.FStr
import HandS.Exc
import HandS.ExcInit
import HandS.ExcIs
import KE.KExcInit
import KE.KExcIs
import HandS.ForExc
import HandS.ExcField
import KE.KTryMore
import HandS.HotCalls
import HandS.Lambda
import HandS.Nested
import HandS.Wide
import HandS.Evl
import HandS.Zip
import HandS.WordsExc
import HandS.ReCall
import HandS.Strs
import HandS.SortInts
import HandS.Walk
import HandS.Conv
import HandS.Small
import HandS.DictComp
import PyProof.EnumIter
import HandS.TupMul
import KE.KTupSum
import HandS.More
import KE.KTab
import KE.KDictCopyH
import HandS.TupAny
import HandS.Sort
import HandS.ExcOwn
import HandS.MapJoin
import KE.KUnpackStar
import PyProof.ListRange
import HandS.Style
import HandS.EndTab
import PySem.Challenge.RW_ownchute_k09_offers
set_option Elab.async false
set_option maxRecDepth 100000
set_option maxHeartbeats 16000000
set_option linter.unusedVariables false
namespace Own
open PySem L2 PySem.Spec PyProof.Rows
/-! ### f(*e, k = v, ..): the star's items are read behind the keywords -/
section
variable {M : Model} {A : Around} {E : Value → Shared → Prop} {s : Shared}
theorem lone_kw {f : Value} {x : Sem Value} {pos : Pos} {kws : List (Option Str × Sem Value)} {Q : Args → Shared → Prop} (hall : kws.all (·.1.isSome) = true)
    (h : wpAny M A x (fun v s₁ => wpAny M A (evalAll (kws.map (·.2))) (fun ks s₂ => PySem.W.StarOf M A E v (fun vs s₃ => Q ⟨vs, (kws.filterMap (·.1)).zip ks⟩ s₃) s₂) E s₁) E s) :
    wpAny M A (evalArgs f true [(true, (do let v ← x; standAt pos; pure v))] kws) Q E s := by
  unfold evalArgs
  first
    | refine wpAny_bind (wpAny_bind (wpAny_mono h (fun v s₁ h₁ => wpAny_bind (wpAny_standAt (wpAny_pure ?_))) fun _ _ x => x))
    | refine wpAny_bind (wpAny_bind (wpAny_bind (wpAny_mono h (fun v s₁ h₁ => wpAny_bind (wpAny_standAt (wpAny_pure (wpAny_pure ?_)))) fun _ _ x => x)))
  refine wpAny_holding ?_
  simp only [hall, if_true]
  refine wpAny_bind (wpAny_mono h₁ (fun ks s₂ h₂ => ?_) fun _ _ x => x)
  unfold PySem.W.StarOf at h₂
  refine wpAny_bind (wpAny_bind (wpAny_mono h₂ (fun b s₃ h₃ => ?_) fun _ _ x => x))
  obtain ⟨rfl, h₃⟩ := h₃
  rw [if_neg Bool.false_ne_true]
  exact wpAny_holding (wpAny_mono h₃ (fun vs s₄ h₄ => wpAny_pure h₄) fun _ _ x => x)
/-- the call's node with a star and keywords -/
theorem call_starkw {f : Value} {pos : Pos} {Q : Value → Shared → Prop} {K : PySem.W.Frag} {args : List (Bool × Sem Value)} {kws : List (Option Str × Sem Value)} (hst : args.any (·.1) = true) (hk : PySem.W.keepIn K f = true)
    (h : wpAny M A (evalArgs f true args kws) (fun a s₁ => K.In s₁.heap ∧ wpAny M A (call f a.pos a.kw) Q E s₁) E s) : wpAny M A (callWith pos f [] args kws) Q E s := by
  unfold callWith
  refine wpAny_bind (wpAny_holding (wpAny_mono h (fun a s₁ h₁ => wpAny_bind (wpAny_standAt ?_)) fun _ _ x => x))
  obtain ⟨k, hk', L⟩ := PySem.W.looks_keep hk h₁.1
  simp only [hst, Bool.true_or]
  refine wpAny_bind (L.here ?_)
  have tail : ∀ {t : Sem Value}, wpAny M A t Q E s₁ → wpAny M A (t >>= fun r => holding [r] point >>= fun _ => pure r) Q E s₁ :=
    fun ht => wpAny_bind (wpAny_mono ht (fun r s₂ hr => wpAny_bind (wpAny_holding (wpAny_point (wpAny_pure hr)))) fun _ _ x => x)
  have marked (mk : Value) : wpAny M A (callMarked mk f ([] ++ a.pos) a.kw) Q E s₁ := by unfold callMarked; exact Calls.wpAny_keep h₁.2
  rcases hk' with rfl | rfl <;> dsimp only <;> first | exact tail (marked _) | exact tail (wpAny_operating h₁.2)
end
/-! ### def f(self, *v, k = d, ..): what is bound -/
/-- t looks the names up in the dict at D, one behind another, and goes on as r -/
def KwCh {α : Type} (D : Addr) : List (Str × Value) → Sem α → Sem α → Prop
  | [], t, r => t = r
  | q :: l, t, r => ∃ (β γ : Type) (k1 : Option Value → Sem β) (k2 : β → Sem γ) (k3 : γ → Sem α) (a : β), t = ((nsGet D q.1 >>= k1) >>= k2) >>= k3 ∧ k1 (some q.2) = pure a ∧ KwCh D l (k2 a >>= k3) r
theorem KwCh.run {α : Type} {K : PySem.W.Frag} {M : Model} {A : Around} {E : Value → Shared → Prop} {Q : α → Shared → Prop} {D : Addr} : ∀ {l : List (Str × Value)} {t r : Sem α} {s : Shared}, K.In s.heap → (∀ q ∈ l, PySem.W.nsIn K D q.1 = some (some q.2)) → KwCh D l t r → wpAny M A r Q E s → wpAny M A t Q E s
  | [], t, r, s, _, _, e, h => by rw [show t = r from e]; exact h
  | q :: l, t, r, s, X, hl, e, h => by
    obtain ⟨β, γ, k1, k2, k3, a, e1, e2, e3⟩ := e
    have l1 : PySem.W.Looks M s.heap (nsGet D q.1 >>= k1) a := (PySem.W.looks_nsIn X (hl q (List.mem_cons_self ..))).andThen (PySem.W.Looks.of_pure e2)
    rw [e1, bind_assoc]
    exact wpAny_bind (l1.here (KwCh.run X (fun p hp => hl p (List.mem_cons_of_mem _ hp)) e3 h))
/-- an own class's __init__(self, *v, k = .., ..), called with keywords named ks: what it promises by its values -/
def FnSt (P : Program) (w : World) (K : PySem.W.Frag) (mg : Str → Option Value) (base : Heap) (CX : CXT) (k : Nat) (f : Addr) (ks : List Str) (gV : List V → List V) (sp : Sp) : Prop :=
  ∀ (A : Around) (outer : List Env) (s : Shared) (H : Hp) (a : Value) (va : V) (us : List Value) (vs : List V) (ws : List Value) (zs : List V) (Q : VK) (E : XK), Room k A → Env0 P w K mg base A outer s H → RelV va a → Vals vs us → Vals zs ws → zs.length = ks.length → vs.length ≤ sizeLine →
    (∀ p, H p = none → sp (va :: (gV zs ++ [.ref p])) (upd H p (.tup vs)) Q E) → codeAny (model P w) A (.call (.ref f) ⟨a :: us, ks.zip ws⟩) (CR CX outer P w H s Q E) s
section
variable {CX : CXT} {P : Program} {w : World} {K : PySem.W.Frag} {mg : Str → Option Value} {base : Heap} {k : Nat} {f D : Addr} {name qual pv p0 : Str} {params : Arguments} {body : List Stmt} {scope : Scope} {dV doc pm cdv ct oc : Value} {an od : Option Addr} {osl : Array (Option Value)} {N ps ks : List Str} {sp : Sp}
theorem fn_starKwo {ms : List (Str × V)} {g : List Value → List Value → List Value} {gV : List V → List V → List V} (lk : K.lookup f = some ⟨oc, od, .func (PySem.W.fnOf name qual params body scope dV (.ref D) doc pm an cdv ct), osl⟩) (hcd : PySem.W.codeIn K cdv qual = true) (S : FnScope N (p0 :: (ps ++ [pv])) scope) (hCX : StX.CXUp CX)
    (hms : ∀ q ∈ ms, ∃ u, PySem.W.nsIn K D q.1 = some (some u) ∧ RelV q.2 u) (hg : ∀ {zs : List V} {ws mz mv}, Vals zs ws → Vals mz mv → Vals (gV zs mz) (g ws mv)) (hgl : ∀ (ws mv : List Value), ws.length = ks.length → mv.length = ms.length → (g ws mv).length = ps.length)
    (hb : ∀ (a : Value) (us ws mv : List Value), ws.length = ks.length → mv.length = ms.length → KwCh D ((ms.map (·.1)).zip mv) (bindArgs (PySem.W.fnOf name qual params body scope dV (.ref D) doc pm an cdv ct) ⟨a :: us, ks.zip ws⟩) (newTuple us >>= fun t => pure ((p0, a) :: (ps.zip (g ws mv) ++ [(pv, t)]))))
    (hbody : ∀ (A : Around) (outer : List Env) (s : Shared) (H : Hp) (vs : List V) (Q : VK) (E : XK), Room k (A.deeper (envOfC qual scope s.heap.objs.size f cdv)) → sp vs H Q E →
      ∃ t, PSs (cxOf CX P w K mg base N qual scope f cdv A outer s H E) body t ∧ t { nx := fun _ H' => Q .non H', rt := Q } (start N vs) H) :
    FnSt P w K mg base CX (k + 1) f ks (fun zs => gV zs (ms.map (·.2))) sp := by
  intro A outer s H a va us vs ws zs Q E hr e0 ra r rz hzl hz hq
  obtain ⟨mv, hml, rm, hmk⟩ := kwd_vals (K := K) (D := D) hms
  have hn : H s.heap.objs.size = Option.none := e0.hok.fresh (Nat.le_refl _)
  have KX : K.In s.heap := e0.mod.kin.keeps fun b o e => (e0.bs b o e).1
  have hl2 : us.length ≤ sizeLine := by rw [← r.length]; exact hz
  have hwl : ws.length = ks.length := by rw [← rz.length]; exact hzl
  have rg := hg rz rm
  have gl := hgl ws mv hwl hml
  refine StX.run_bnd (ps := p0 :: (ps ++ [pv])) lk hcd S hr e0 (G := fun xs H2 => ∃ p, H p = Option.none ∧ xs = va :: (gV zs (ms.map (·.2)) ++ [V.ref p]) ∧ H2 = upd H p (.tup vs)) (fun A' Ex Q' h => ?_) fun s2 H2 xs ⟨p, hp, ex, eH⟩ hr' => ?_
  · refine (hb a us ws mv hwl hml).run KX hmk ?_
    refine wpAny_bind (wpAny_newTuple (wpAny_pure ?_) hl2)
    have new : ObjOk P w (upd H s.heap.objs.size (.tup vs)) (s.heap.push ({ cls := .type "tuple", data := .seq us.toArray } : Obj)) s.heap.objs.size (.tup vs) := ⟨hz, us, r, ⟨_, Heap.get?_push_size _ rfl, rfl, _, rfl⟩⟩
    have un := StX.un_laid (fs := frs outer) (s := s) (o := ({ cls := .type "tuple", data := .seq us.toArray } : Obj)) (u := .tup vs) hn
    have z := h _ _ (va :: (gV zs (ms.map (·.2)) ++ [V.ref s.heap.objs.size])) (a :: (g ws mv ++ [Value.ref s.heap.objs.size])) (StX.env0_laid e0 new) un rfl (fun e s' => hCX outer s H _ _ E e s' un (fun b o q => Heap.get?_push_of_some _ q) rfl) (.cons ra (rg.append (.cons rfl .nil)))
      (by have q := rg.length; simp only [List.length_cons, List.length_append, List.length_nil]; omega) ⟨_, hn, rfl, rfl⟩
    have e : (p0 :: (ps ++ [pv])).zip (a :: (g ws mv ++ [Value.ref s.heap.objs.size])) = (p0, a) :: (ps.zip (g ws mv) ++ [(pv, Value.ref s.heap.objs.size)]) := by
      rw [List.zip_cons_cons, List.zip_append gl.symm]
      rfl
    rw [e] at z
    exact z
  · subst ex eH
    exact hbody A outer s2 _ _ Q E hr' (hq p hp)
end

/-- C(.., k = v, ..) and C(*e, k = v, ..), C's __init__ with *v: a new instance, its dict, the tuple of what is left over -/
def tMkS (C : Addr) (sp : Sp) (gV : List V → List V) (E : XK) : List V → List V → Hp → VK → Prop := fun vs zs H Q => vs.length ≤ 1000 ∧ ∀ x dx p, H x = none → H dx = none → dx ≠ x → H p = none → p ≠ x → p ≠ dx → sp (.ref x :: (gV zs ++ [.ref p])) (upd (upd (upd H dx (.own x)) x (.ins C dx [])) p (.tup vs)) (fun v H2 => v = .non ∧ Q (.ref x) H2) E
section
variable {X : Cx} {pins : List (Addr × Obj)} {σ : L2.St} {H : Hp} {s : Shared} {CX : CXT} {k : Nat} {f C : Addr} {ks : List Str} {gV : List V → List V} {sp : Sp} {E : XK} {x : Str} {e : Expr} {es : List Expr} {kws : List Keyword} {te : TE} {t tk : TA} {p sp_ pos : Pos}
theorem run_mkS {Q : VK} {us ws : List Value} {vs zs : List V} (M : Mk X.K C f) (F : FnSt X.prog X.w X.K X.mg X.base CX k f ks gV sp) (hr : Room (k + 1) X.A) (hx : Passes CX X E) (I : Inv X pins σ H s) (r : Vals vs us) (rz : Vals zs ws) (l2 : zs.length = ks.length) (h : tMkS C sp gV E vs zs H Q) :
    wpAny (model X.prog X.w) X.A (call (.ref C) us (ks.zip ws)) (EP X pins σ Q) X.xe s := by
  obtain ⟨hl, h⟩ := h
  have h1 := I.hok.fresh (Nat.le_succ s.heap.objs.size)
  have h2 := I.hok.fresh (Nat.le_refl s.heap.objs.size)
  have I2 := Inv.made (C := C) I
  have hz : vs.length ≤ sizeLine := Nat.le_trans hl (by decide)
  have key : ∀ p, (upd (upd H s.heap.objs.size (.own (s.heap.objs.size + 1))) (s.heap.objs.size + 1) (.ins C s.heap.objs.size [])) p = none → sp (.ref (s.heap.objs.size + 1) :: (gV zs ++ [.ref p])) (upd (upd (upd H s.heap.objs.size (.own (s.heap.objs.size + 1))) (s.heap.objs.size + 1) (.ins C s.heap.objs.size [])) p (.tup vs)) (fun v H2 => v = .non ∧ Q (.ref (s.heap.objs.size + 1)) H2) E := fun p hp => by
    by_cases e1 : p = s.heap.objs.size + 1
    · rw [e1, upd_same] at hp; cases hp
    · rw [upd_ne e1] at hp
      by_cases e2 : p = s.heap.objs.size
      · rw [e2, upd_same] at hp; cases hp
      · rw [upd_ne e2] at hp
        exact h (s.heap.objs.size + 1) s.heap.objs.size p h1 h2 (Nat.ne_of_lt (Nat.lt_succ_self _)) hp e1 e2
  refine wpAny_call (make_map (f := f) I.kIn M.makes M.init (beq_iff_eq.mp M.fn) (codeAny_mono (F _ X.stack _ _ (Value.ref (s.heap.objs.size + 1)) (V.ref (s.heap.objs.size + 1)) us vs ws zs (fun v H2 => v = .non ∧ Q (.ref (s.heap.objs.size + 1)) H2) E (hr.make C us (ks.zip ws)) (I2.env0.make C us (ks.zip ws)) rfl r rz l2 hz key) fun r s' hq' => ?_))
  · cases r with
    | error e => exact hx pins σ _ _ e s' I2 hq'
    | ok fl =>
      cases fl with
      | ret u =>
        obtain ⟨v, H', I3, rv, ev, q3⟩ := I2.after hq'
        subst ev
        exact ⟨rv, ⟨V.ref (s.heap.objs.size + 1), H', I3, rfl, q3⟩⟩
      | next => exact False.elim hq'
      | brk => exact False.elim hq'
      | cont => exact False.elim hq'
theorem pe_mkS (M : Mk X.K C f) (F : FnSt X.prog X.w X.K X.mg X.base CX k f ks gV sp) (hr : Room (k + 1) X.A) (hg : Gl X x) (hm : X.mg x = some (.ref C)) (hx : Passes CX X E) (ha : PA X (e :: es) t) (hkw : PK X kws tk) (hall : (backToKw pos (keywordEach kws X.env)).all (·.1.isSome) = true := by rfl)
    (hks : (backToKw pos (keywordEach kws X.env)).filterMap (·.1) = ks := by rfl) (hdb : (x == ("__debug__" : Str)) = false := by decide) (he : starEach (e :: es) X.env = (false, eval e X.env) :: starEach es X.env := by rfl)
    (hpl : ((backTo pos (starEach (e :: es) X.env)).any (·.1) || (backToKw pos (keywordEach kws X.env)).any (·.1.isNone)) = false := by rfl) :
    PE X (.Call (.Name x p) (e :: es) kws pos) (fun σ H Q => t σ H fun vs H1 => tk σ H1 fun zs H2 => zs.length = ks.length ∧ tMkS C sp gV E vs zs H2 Q) := by
  refine ⟨fun pins s σ H Q I h => wpAny_Call_Name_kw (ld_glob I hg hm (PySem.W.callWith_KW (h₀ := X.base) I.ok.mod.kin M.kp hall (thn (ha.run pos pins s σ H _ I h) fun us s1 ⟨vs, H1, I1, r, q⟩ => ?_) hpl he) hdb)⟩
  refine thn (hkw.run pos pins s1 σ H1 _ I1 q) fun ws s2 ⟨zs, H2, I2, rz, l2, q2⟩ => ⟨I2.kIn, ?_⟩
  rw [hks]
  exact run_mkS M F hr hx I2 r rz l2 q2
/-- C(e, ..) -/
theorem pe_mkSp (M : Mk X.K C f) (F : FnSt X.prog X.w X.K X.mg X.base CX k f [] gV sp) (hr : Room (k + 1) X.A) (hg : Gl X x) (hm : X.mg x = some (.ref C)) (hx : Passes CX X E) (ha : PA X (e :: es) t) (hdb : (x == ("__debug__" : Str)) = false := by decide)
    (he : starEach (e :: es) X.env = (false, eval e X.env) :: starEach es X.env := by rfl) (hpl : (backTo pos (starEach es X.env)).any (·.1) = false := by rfl) : PE X (.Call (.Name x p) (e :: es) [] pos) (fun σ H Q => t σ H fun vs H1 => tMkS C sp gV E vs [] H1 Q) := by
  refine ⟨fun pins s σ H Q I h => wpAny_Call_Name_kw (ld_glob I hg hm (PySem.W.callWith_K (h₀ := X.base) I.ok.mod.kin M.kp (thn (ha.run pos pins s σ H _ I h) fun us s1 ⟨vs, H1, I1, r, q⟩ => ⟨I1.kIn, ?_⟩) he hpl) hdb)⟩
  exact run_mkS (ws := []) M F hr hx I1 r .nil rfl q
/-- C(*e, k = v, ..) -/
theorem pe_mkSs (M : Mk X.K C f) (F : FnSt X.prog X.w X.K X.mg X.base CX k f ks gV sp) (hr : Room (k + 1) X.A) (hg : Gl X x) (hm : X.mg x = some (.ref C)) (hx : Passes CX X E) (he : PE X e te) (hkw : PK X kws tk) (hall : (backToKw pos (keywordEach kws X.env)).all (·.1.isSome) = true := by rfl)
    (hks : (backToKw pos (keywordEach kws X.env)).filterMap (·.1) = ks := by rfl) (hdb : (x == ("__debug__" : Str)) = false := by decide) (hst : starEach [.Starred e sp_] X.env = [(true, eval e X.env)] := by rfl) :
    PE X (.Call (.Name x p) [.Starred e sp_] kws pos) (fun σ H Q => te σ H fun y H1 => tk σ H1 fun zs H2 => ∃ a vs, y = .ref a ∧ (SqT X.K H2 a vs ∨ SqL X.K H2 a vs) ∧ zs.length = ks.length ∧ tMkS C sp gV E vs zs H2 Q) := by
  refine ⟨fun pins s σ H Q I h => wpAny_Call_Name_kw (ld_glob I hg hm ?_ hdb)⟩
  rw [hst]
  refine call_starkw rfl M.kp (lone_kw hall (thn (he.run pins s σ H _ I h) fun v s1 ⟨y, H1, I1, ry, q⟩ => thn (hkw.run pos pins s1 σ H1 _ I1 q) fun ws s2 ⟨zs, H2, I2, rz, a, vs, ey, hv, l2, q2⟩ => ?_))
  subst ey
  obtain rfl : v = Value.ref a := ry
  refine StX.star_any I2 hv fun us s3 I3 rv => ⟨I3.kIn, ?_⟩
  rw [hks]
  exact run_mkS M F hr hx I3 rv rz l2 q2
end
/-- a == b, a an instance with an own == that hands back a bool -/
def rOwn (K : PySem.W.Frag) (C : Addr) (sp : Sp) : R2 := fun x y H Q => ∃ (a dx : Addr) (fs : List (Str × V)) (tb : Value), x = .ref a ∧ H a = some (.ins C dx fs) ∧ TyX K H y tb ∧ PySem.W.notFirst K C tb = true ∧ sp [.ref a, y] H (fun v H' => (∃ b, v = .bl b) ∧ Q v H') (fun _ _ _ => False)
theorem op_own {X : Cx} {CX : CXT} {n : Nat} {C f : Addr} {fd : FuncData} {ps : List Str} {sp : Sp} (F : FnOk X.prog X.w X.K X.mg X.base CX n f fd ps sp) (hr : Room n X.A) (hs : PySem.W.findIn X.K (.ref C) "__eq__" = some (some (.ref f))) (hf : PySem.W.isFn X.K (.ref f) = true) (hb : Binds X.K fd ps []) (hx : Passes CX X (fun _ _ _ => False)) :
    OpR X (compareOp .Eq) (rOwn X.K C sp) := by
  intro pins s σ H x y v u Q I rx ry h
  obtain ⟨a, dx, fs, tb, rfl, ha, ty, nf, q⟩ := h
  cases rx
  show wpAny (model X.prog X.w) X.A (richCompare .Eq (.ref a) u) (EP X pins σ Q) X.xe s
  obtain ⟨mA, J, _⟩ := ins_get I.hok ha
  obtain ⟨od, J, _⟩ := J.look
  obtain ⟨Pz, Z, pz, _⟩ := kit_of I ry ty
  obtain ⟨m, hF⟩ := I.fr
  refine PySem.W.cmp_K (op := .Eq) hr.units0 hF I.ok.mod.kin J (Z.ty _ _ I.kIn pz) nf hs hf ?_
  have r2 : Vals [V.ref a, y] [Value.ref a, u] := .cons rfl (.cons ry .nil)
  refine thn (run_fn (dvs := []) (ds := []) F hr hb .nil hx I r2 q) fun w s' ⟨z, H', I', rz, ⟨b, ez⟩, qz⟩ => ?_
  subst ez
  obtain rfl : w = Value.bool b := rz
  exact ⟨.bl b, H', I', rfl, qz⟩
end Own

namespace Own
open PySem L2 PySem.HandSPX Builtin
section
variable {M : Model} {A : Around} {E : Value → Shared → Prop} {h : Heap} {g : Array GenState} {d : Drawn} {t : Nat} {os : OsState}
variable {nm q : Str} {C N : Addr} {bs bm bmB : List Value} {hdct : Bool} {sn : List Str} {sub : List Value} {ab : Bool} {col : Option Bool} {dd : Option Addr} {k0 k1 k2 k3 k5 : Option Value} {B newId initId : String}
/-- C(..) with keywords: the check ahead of the base's __new__ -/
theorem chk_new (F : ExcBaseFacts B newId initId bmB) (hT : ∀ X : String, bm.contains (.type X) = bmB.contains (.type X)) {rest : List Value} {kw : List (Str × Value)} {Q : Unit → Shared → Prop}
    (hC : h.get? C = some (excClassObj nm q C N bs bm hdct sn sub ab col dd k0 k1 k2 k3 k5 newId)) (hq : Q () ⟨h, g, d, t, os⟩) : wpAny M A (checkBuiltinCall newId ⟨.ref C :: rest, kw⟩) Q E ⟨h, g, d, t, os⟩ := by
  have c0 : (Value.ref C :: bm).contains (.type B) = true := by rw [List.contains_cons, hT, F.hasB, Bool.or_true]
  have s0 := F.noStar
  simp only [checkBuiltinCall, F.newKind, F.newSplit, F.newRow]
  repeat (first | refine wpAny_loadPart_at hC ?_ | (refine wpAny_isSubtype_exc hC ?_; rw [c0]) | refine wpAny_staticBase_exc hC ?_ | refine wpAny_madeBy_exc hC ?_ | simp only [bne_self_eq_false, Bool.false_eq_true, if_false] | wp_step)
  exact hq
theorem chk_type {rest : List Value} {kw : List (Str × Value)} {Q : Unit → Shared → Prop} (hC : h.get? C = some (excClassObj nm q C N bs bm hdct sn sub ab col dd k0 k1 k2 k3 k5 newId)) (hq : Q () ⟨h, g, d, t, os⟩) :
    wpAny M A (checkBuiltinCall "type.__call__" ⟨.ref C :: rest, kw⟩) Q E ⟨h, g, d, t, os⟩ := by
  have z := tc_sub
  have ty : (⟨h, g, d, t, os⟩ : Shared).TypeIs (.ref C) "type" := ⟨_, hC, rfl⟩
  simp only [checkBuiltinCall, tc_kind, tc_split]
  repeat (any_goals (first | assumption | with_reducible refine wpAny_loadPart_at hC ?_ | with_reducible refine wpAny_onRaise ?_ | with_reducible refine wpAny_map ?_ | wp_step))
end
section
variable {prog : Program} {w : World} {A : Around} {E : Value → Shared → Prop} {R : Result → Shared → Prop} {h : Heap} {g : Array GenState} {d : Drawn} {t : Nat} {os : OsState}
variable {nm q : Str} {C N : Addr} {bs bm bmB : List Value} {hdct : Bool} {sn : List Str} {sub : List Value} {ab : Bool} {col : Option Bool} {dd : Option Addr} {k0 k1 k2 k3 k5 : Option Value} {B newId initId : String}
/-- the object that __new__ lays -/
def mkHeap (h : Heap) (C : Addr) (rest : List Value) : Heap := (h.push (W.kdv_tup rest)).push (excO C h.objs.size)
theorem run_new (F : ExcBaseFacts B newId initId bmB) (hT : ∀ X : String, bm.contains (.type X) = bmB.contains (.type X)) {rest : List Value} {kw : List (Str × Value)}
    (hC : h.get? C = some (excClassObj nm q C N bs bm hdct sn sub ab col dd k0 k1 k2 k3 k5 newId)) (hq : R (.ok (.ret (.ref (h.objs.size + 1)))) ⟨mkHeap h C rest, g, d, t, os⟩) (hrest : rest.length ≤ sizeLine) :
    codeAny (model prog w) A (.builtin newId ⟨.ref C :: rest, kw⟩) R ⟨h, g, d, t, os⟩ := by
  have ends := F.ends
  have cB : (Value.ref C :: bm).contains (.type B) = true := by rw [List.contains_cons, hT, F.hasB, Bool.or_true]
  have cA : (Value.ref C :: bm).contains (.type "AttributeError") = false := by rw [List.contains_cons, hT, F.noAttr]; rfl
  have cN : (Value.ref C :: bm).contains (.type "NameError") = false := by rw [List.contains_cons, hT, F.noName]; rfl
  refine codeAny_builtinAt F.entry ?_
  unfold Builtin.«BaseException.__new__»
  refine wpAt_bind ?_
  show wpAt _ _ _ (stack >>= _) _ _ _
  refine wpAt_bind (wpAt_stack fun p below => wpAt_of_wpAny ?_)
  wp_walk
  refine wpAt_of_wpAny ?_
  rw [F.owner]
  repeat (first | with_reducible refine wpAny_madeHere_exc F.canon hC ?_ | with_reducible refine wpAny_loadPart_at hC ?_ | (with_reducible refine wpAny_isSubtype_exc hC ?_; first | rw [cB] | rw [cA] | rw [cN]) | wp_step)
  show R _ _
  rw [Heap.size_push]
  exact hq
theorem mk_keep {h : Heap} {C : Addr} {rest : List Value} : ∀ b o, h.get? b = some o → (mkHeap h C rest).get? b = some o := fun _ _ e => Heap.get?_push_of_some _ (Heap.get?_push_of_some _ e)
theorem mk_at {h : Heap} {C : Addr} {rest : List Value} : (mkHeap h C rest).get? (h.objs.size + 1) = some (excO C h.objs.size) := by
  unfold mkHeap
  heap_get
/-- type.__call__ upon an own exception class with an own __init__, keywords too -/
theorem run_type (F : ExcBaseFacts B newId initId bmB) (hT : ∀ X : String, bm.contains (.type X) = bmB.contains (.type X)) {rest : List Value} {kw : List (Str × Value)} {fI : Addr} {Q : Fin → Shared → Prop}
    (hC : h.get? C = some (excClassObj nm q C N bs bm hdct sn sub ab col dd k0 k1 k2 k3 k5 newId)) (hi : W.Looks (model prog w) h (typeLookup (.ref C) "__init__") (some (.ref fI))) (hb : ∀ self, W.Looks (model prog w) h (bindSpecial (.ref fI) self) (.ref fI, [self])) (hrest : rest.length ≤ sizeLine)
    (hq : codeAny (model prog w) A (.call (.ref fI) ⟨.ref (h.objs.size + 1) :: rest, kw⟩) (fun r s' => match r with | .ok (.ret v) => v = .none ∧ Q (.done (.ret (.ref (h.objs.size + 1)))) s' | .ok _ => False | .error e => E e s') ⟨mkHeap h C rest, g, d, t, os⟩) :
    wpAny (model prog w) A (Builtin.«type.__call__» ⟨.ref C :: rest, kw⟩) Q E ⟨h, g, d, t, os⟩ := by
  repeat (first | with_reducible refine wpAny_loadPart_at hC ?_ | with_reducible refine wpAny_madeBy_exc hC ?_ | wp_step)
  refine codeAny_call_builtin_code (Code.quiet_builtin _ F.quiet) (chk_new F hT hC (run_new F hT hC ?_ hrest))
  show wpAny _ _ _ _ _ _
  have cC : (Value.ref C :: bm).contains (.ref C) = true := by simp
  unfold isInstance
  repeat (first | with_reducible refine wpAny_loadPart_at mk_at ?_ | (with_reducible refine wpAny_isSubtype_exc (mk_keep _ _ hC) ?_; rw [cC]) | wp_step)
  show wpAny _ _ (typeLookup (.ref C) _) _ _ _
  refine (hi.keeps mk_keep).at (wpAny_holding (wpAny_bind (((hb (.ref (h.objs.size + 1))).keeps mk_keep).at (wpAny_bind (wpAny_call (codeAny_mono hq fun r s' z => ?_))))))
  rcases r with e | (v | _ | _ | _) <;> first | exact z | exact z.elim | skip
  obtain ⟨rfl, z⟩ := z
  first
    | exact wpAny_pure (wpAny_pure z)
    | (wp_walk; exact z)
theorem run_call (F : ExcBaseFacts B newId initId bmB) (hT : ∀ X : String, bm.contains (.type X) = bmB.contains (.type X)) {rest : List Value} {kw : List (Str × Value)} {fI : Addr}
    (hC : h.get? C = some (excClassObj nm q C N bs bm hdct sn sub ab col dd k0 k1 k2 k3 k5 newId)) (hi : W.Looks (model prog w) h (typeLookup (.ref C) "__init__") (some (.ref fI))) (hb : ∀ self, W.Looks (model prog w) h (bindSpecial (.ref fI) self) (.ref fI, [self])) (hrest : rest.length ≤ sizeLine)
    (hq : codeAny (model prog w) (A.under (.builtin "type.__call__" ⟨.ref C :: rest, kw⟩)) (.call (.ref fI) ⟨.ref (h.objs.size + 1) :: rest, kw⟩) (W.InitBack (h.objs.size + 1) R) ⟨mkHeap h C rest, g, d, t, os⟩) :
    codeAny (model prog w) A (.call (.ref C) ⟨rest, kw⟩) R ⟨h, g, d, t, os⟩ := by
  have z1 := tc_lookup
  have z2 := tc_bind (.ref C)
  have ty : (⟨h, g, d, t, os⟩ : Shared).TypeIs (.ref C) "type" := ⟨_, hC, rfl⟩
  refine codeAny_of_tree ?_
  show wpAny _ _ (callAny (.ref C) _) _ _ _
  repeat (any_goals (first | assumption | with_reducible refine wpAny_loadPart_at hC ?_ | wp_step))
  refine ⟨rfl, codeAny_call_builtin_at (Code.quiet_builtin _ (by decide +kernel)) entry_typeCall (chk_type hC (run_type F hT hC hi hb hrest (codeAny_mono hq fun r s' z => ?_)))⟩
  rcases r with e | (v | _ | _ | _) <;> exact z
end

/-- what the written part says of an own exception class over a built-in one -/
structure ExK (K : PySem.W.Frag) (C : Addr) : Prop where
  cls : ∃ B newId initId bmB, ExcBaseFacts B newId initId bmB ∧ StoreFacts B bmB "object.__setattr__" "object" ∧ PySem.W.excInitIn K C bmB newId = true ∧ PySem.W.excOver K C bmB = true
  sa : PySem.W.findIn K (.ref C) "__setattr__" = some (some (.builtin "object.__setattr__"))
  ga : PySem.W.findIn K (.ref C) "__getattribute__" = some (some (.builtin "BaseException.__getattribute__"))
  gg : PySem.W.findIn K (.ref C) "__getattr__" = some none
  exC : PySem.W.subIn K (.ref C) (.type "BaseException") = some true
  tyC : PySem.W.typeIn K (.ref C) = some (.type "type")
  kC : PySem.W.keepIn K (.ref C) = true
  hd : PySem.W.hasDictIn K C = true
section
variable {X : Cx} {pins : List (Addr × Obj)} {σ : L2.St} {H : Hp} {s : Shared} {a C dx : Addr} {f : Str} {y : V} {u : Value} {fs : List (Str × V)} {Q : Unit → Shared → Prop} {E : Value → Shared → Prop} {A : Around}
/-- a further store into an exception's own dict -/
theorem stx_old (T : ExK X.K C) (I : Inv X pins σ H s) (e : H a = some (exo a C (some dx))) (ed : H dx = some (exd dx fs)) (hl : fs.length ≤ 900) (hno : PySem.W.findIn X.K (.ref C) f = some none) (ry : RelV y u)
    (h : ∀ s', Inv X pins σ (upd H dx (exd dx ((f, y) :: fs))) s' → Q () s') : wpAny (model X.prog X.w) A (setAttr (.ref a) f u) Q E s := by
  obtain ⟨B, newId, initId, bmB, FB, SF, hin, ho⟩ := T.cls
  obtain ⟨cd, hc, hd'⟩ := PySem.W.any_some T.hd
  obtain ⟨t1, hx⟩ := exo_at I.hok e
  obtain ⟨mA, hns, rel⟩ := exd_at I.hok ed
  have hw := within_of rel
  obtain ⟨hp, g, d, t, os⟩ := s
  obtain ⟨oD, _, _, hoD, _, _⟩ := hns.count hw
  have J : PySem.W.InstAt hp a { cls := .ref C, dict := some dx, data := .fields #[.ref t1, .none, .none, .none, .bool false, .none] } C (some oD) := ⟨hx, rfl, rfl, hoD⟩
  refine PySem.W.set_plain I.kIn J T.sa (PySem.W.osa_openX SF I.kIn J ho (by unfold PySem.W.takerIn; rw [hno]; rfl) fun b => ?_)
  refine wpAny_bind (wpAny_pure (wpAny_bind (wpAny_bind (wpAny_loadPart hx (wpAny_bind ((PySem.W.looks_clsIn I.kIn hc).at ?_))))))
  rw [hd']
  refine wpAny_pure (a := some dx) ?_
  refine PySem.OEX.store_in_old hns hw (by rw [List.length_map]; omega) fun h' tk' hn' hs => ?_
  exact h _ (I.write (t' := tk') (x := dx) (e := dx) (o := exd dx ((f, y) :: fs)) (by rw [ed]; exact True.intro) (.inl rfl) (fun b o hb ho => (hs.2 b hb).trans ho) (by obtain ⟨o, _, _, z, _⟩ := id hn'; exact ⟨o, z⟩) (exd_ok hn' (relO_put ry rel)))
theorem stx_new (T : ExK X.K C) (I : Inv X pins σ H s) (e : H a = some (exo a C none)) (hno : PySem.W.findIn X.K (.ref C) f = some none) (ry : RelV y u)
    (h : ∀ dx s', H dx = none → dx ≠ a → Inv X pins σ (upd (upd H dx (exd dx [(f, y)])) a (exo a C (some dx))) s' → Q () s') : wpAny (model X.prog X.w) A (setAttr (.ref a) f u) Q E s := by
  obtain ⟨B, newId, initId, bmB, FB, SF, hin, ho⟩ := T.cls
  obtain ⟨cd, hc, hd'⟩ := PySem.W.any_some T.hd
  obtain ⟨t1, hx⟩ := exo_at I.hok e
  obtain ⟨hp, g, d, t, os⟩ := s
  have J : PySem.W.InstAt hp a { cls := .ref C, dict := none, data := .fields #[.ref t1, .none, .none, .none, .bool false, .none] } C none := ⟨hx, rfl, rfl, trivial⟩
  refine PySem.W.set_plain I.kIn J T.sa (PySem.W.osa_openX SF I.kIn J ho (by unfold PySem.W.takerIn; rw [hno]; rfl) fun b => ?_)
  refine wpAny_bind (wpAny_pure (wpAny_bind (PySem.W.instanceDict_exc hx (PySem.W.looks_clsIn I.kIn hc) hd' ?_)))
  show wpAny _ _ (Builtin.ObjectAttr.storeInDict hp.objs.size _ _ _) _ _ _
  have hax : a < hp.objs.size := Heap.lt_size hx
  have nH : H hp.objs.size = none := I.hok.fresh (Nat.le_refl _)
  refine PySem.HandSPX.store_in_new (hp := (hp.push (PySem.W.dictOf [] 0)).update a fun o => { o with dict := some hp.objs.size }) ?_ fun h' tk' hn' hs => ?_
  · exact ⟨_, #[], _, (Heap.get?_update_ne _ _ _ _ (Nat.ne_of_gt hax)).trans (Heap.get?_push_at rfl rfl), rfl, fun e he => absurd he (by simp), fun _ => rfl⟩
  · have kp : ∀ b o, b ≠ a → hp.get? b = some o → h'.get? b = some o := fun b o hb ho => (hs.2 b (Nat.ne_of_lt (Heap.lt_size ho))).trans ((Heap.get?_update_ne _ _ _ _ hb).trans (Heap.get?_push_of_some _ ho))
    have hx' : h'.get? a = some { cls := .ref C, dict := some hp.objs.size, data := .fields #[.ref t1, .none, .none, .none, .bool false, .none] } :=
      (hs.2 a (Nat.ne_of_lt hax)).trans (Heap.get?_update_self _ (Heap.get?_push_of_some _ hx) rfl)
    have na : ∀ {b : Addr}, H b = none → b ≠ a := fun n z => by rw [z, e] at n; cases n
    have nd : ∀ {b : Addr} {o : Obj}, hp.get? b = some o → b ≠ hp.objs.size := fun q => Nat.ne_of_lt (Heap.lt_size q)
    refine h hp.objs.size _ nH (Nat.ne_of_gt hax) (I.un (t' := tk') ⟨fun b o q n _ _ => kp b o (na n) q, fun b o q n _ _ => ⟨o.slots, kp b o (na n) q⟩, fun b o q n _ => by rw [upd_ne (na n), upd_ne (nd q)]; exact n, fun b o q _ => ?_,
      fun b xs q => by rw [upd_ne (at_ne e q exo_tup), upd_ne (ne_of_none q nH)]; exact q, fun b o v q => by rw [upd_ne (at_ne e q exo_frz), upd_ne (ne_of_none q nH)]; exact q, fun b ps q => ⟨#[], by rw [upd_ne (at_ne e q exo_tbl), upd_ne (ne_of_none q nH), q]; simp⟩⟩ fun b o q => ?_)
    · by_cases hb : b = a
      · exact ⟨_, hb ▸ hx'⟩
      · exact ⟨o, kp b o hb q⟩
    · by_cases hb : b = a
      · subst hb
        rw [upd_same] at q
        cases q
        exact exo_ok hx'
      · rw [upd_ne hb] at q
        by_cases hd : b = hp.objs.size
        · subst hd
          rw [upd_same] at q
          cases q
          exact exd_ok hn' (relO_put (fs := []) ry fun g => True.intro)
        · rw [upd_ne hd] at q
          refine (I.hok b o q).stay (fun c v hc z => kp c v ?_ z) (fun c hc => ?_) fun c xs hc => ?_
          · rcases hc with hc | hc
            · exact hc ▸ hb
            · exact at_ne e hc exo_own
          · rw [upd_ne (at_ne e hc exo_own), upd_ne (ne_of_none hc nH)]; exact hc
          · rw [upd_ne (at_ne e hc exo_tup), upd_ne (ne_of_none hc nH)]; exact hc
end

/-- self.f = e, self an exception that is being made -/
def tStx (K : PySem.W.Frag) (f : Str) (to te : TE) : TS := fun D σ H => te σ H fun y H1 => to σ H1 fun x H2 => ∃ a C : Addr, x = .ref a ∧ ExK K C ∧ PySem.W.findIn K (.ref C) f = some none ∧
  ((H2 a = some (exo a C none) ∧ ∀ dx, H2 dx = none → dx ≠ a → D.nx σ (upd (upd H2 dx (exd dx [(f, y)])) a (exo a C (some dx)))) ∨ ∃ (dx : Addr) (fs : List (Str × V)), H2 a = some (exo a C (some dx)) ∧ H2 dx = some (exd dx fs) ∧ fs.length ≤ 900 ∧ D.nx σ (upd H2 dx (exd dx ((f, y) :: fs))))
/-- e.f, e an exception that stands -/
def tGex (K : PySem.W.Frag) (f : Str) (te : TE) : TE := fun σ H Q => te σ H fun x H1 => ∃ (a C d : Addr) (fs : List (Str × V)) (v : V), x = .ref a ∧ H1 a = some (exo a C (some d)) ∧ H1 d = some (exd d fs) ∧ ExK K C ∧ PySem.W.findIn K (.ref C) f = some none ∧ fs.lookup f = some v ∧ Q v H1
/-- C(..), the exception stands behind it -/
def tMkX (C : Addr) (sp : Sp) (ta : TA) : TE := fun σ H Q => ta σ H fun vs H1 => vs.length ≤ 1000 ∧ ∀ a, H1 a = none → sp (.ref a :: vs) (upd H1 a (exo a C none)) (fun v H2 => v = .non ∧ Q (.ref a) H2) (fun _ _ _ => False)
section
variable {X : Cx} {o e : Expr} {es : List Expr} {kws : List Keyword} {to te : TE} {ta tk : TA} {f x : Str} {p p' pos : Pos} {CX : CXT} {C fI : Addr} {k : Nat} {fd : FuncData} {ps ks : List Str} {sp : Sp} {g : List Value → List Value → List Value} {gV : List V → List V → List V}
theorem ps_stx (ho : PE X o to) (he : PE X e te) (hs : swapsWith e (some (.Attribute o f p')) pos.line X.env = pure false := by rfl) : PS X (.Assign [.Attribute o f p'] e pos) (tStx X.K f to te) := by
  refine ⟨fun pins s σ H D I h => plainObj_wpAny_Assign_Attribute (thn (he.run pins s σ H _ I h) fun v s1 ⟨y, H1, I1, r1, q1⟩ => thn (ho.run pins s1 σ H1 _ I1 q1) fun u s2 ⟨x, H2, I2, r2, a, C, ex, T, hno, q⟩ => ?_) hs⟩
  subst ex
  obtain rfl : u = Value.ref a := r2
  rcases q with ⟨ea, q⟩ | ⟨dx, fs, ea, ed, hl, q⟩
  · exact stx_new T I2 ea hno r1 fun dx s' n ne J => ⟨σ, _, J, q dx n ne⟩
  · exact stx_old T I2 ea ed hl hno r1 fun s' J => ⟨σ, _, J, q⟩
theorem pe_gex (he : PE X e te) (hb : attributeBase e f X.env (eval e X.env) = eval e X.env := by rfl) : PE X (.Attribute e f pos) (tGex X.K f te) := by
  refine ⟨fun pins s σ H Q I h => attr_of hb (thn (he.run pins s σ H _ I h) fun u s1 ⟨x, H1, I1, rx, a, C, d, fs, v, ex, ea, ed, T, hno, l, q⟩ => ?_)⟩
  subst ex
  obtain rfl : u = Value.ref a := rx
  obtain ⟨t1, hx⟩ := exo_at I1.hok ea
  obtain ⟨mA, hns, hr⟩ := exd_at I1.hok ed
  obtain ⟨od, ho, hl⟩ := lookIn_ns hns
  obtain ⟨u, hu, ru⟩ := RelO.some_of (v := v) (o := mA f) (by rw [← l]; exact hr f)
  have J : PySem.W.InstAt s1.heap a { cls := .ref C, dict := some d, data := .fields #[.ref t1, .none, .none, .none, .bool false, .none] } C (some od) := ⟨hx, rfl, rfl, ho⟩
  exact HandSPX.exc_get I1.kIn J T.ga T.gg T.exC (PySem.W.findObj_own T.hd hno rfl (by rw [hl, hu])) (handed_of ru) ⟨v, H1, I1.tok _, ru, q⟩
theorem run_mkx {pins : List (Addr × Obj)} {σ : L2.St} {H : Hp} {s : Shared} {Q : VK} {us us' : List Value} {kw : List (Str × Value)} {vs' : List V} (T : ExK X.K C) (iC : PySem.W.findIn X.K (.ref C) "__init__" = some (some (.ref fI))) (tI : PySem.W.typeIn X.K (.ref fI) = some (.type "function"))
    (F : FnOk X.prog X.w X.K X.mg X.base CX k fI fd ps sp) (hr : Room (k + 1) X.A) (hx : Passes CX X (fun _ _ _ => False)) (I : Inv X pins σ H s) (hl : us.length ≤ sizeLine)
    (hb : ∀ s' : Shared, X.K.In s'.heap → BindsTo s' fd ⟨.ref (s.heap.objs.size + 1) :: us, kw⟩ (ps.zip us')) (r : Vals vs' us') (h : ∀ a, H a = none → a = s.heap.objs.size + 1 → sp vs' (upd H a (exo a C none)) (fun v H2 => v = .non ∧ Q (.ref a) H2) (fun _ _ _ => False)) :
    wpAny (model X.prog X.w) X.A (call (.ref C) us kw) (EP X pins σ Q) X.xe s := by
  obtain ⟨B, newId, initId, bmB, FB, SF, hin, ho⟩ := T.cls
  obtain ⟨hp, g, dr, tk, os⟩ := s
  have hsz : hp.objs.size ≤ hp.objs.size + 1 := Nat.le_succ _
  obtain ⟨nm, N, qn, bs, bm, hdct, sn, sub, ab, col, dd, k0, k1, k2, k3, k5, hC, hT⟩ := PySem.W.excInit_of I.kIn hin
  have hq := h (hp.objs.size + 1) (I.hok.fresh hsz) rfl
  have I2 : Inv X pins σ (upd H (hp.objs.size + 1) (exo (hp.objs.size + 1) C none)) ⟨mkHeap hp C us, g, dr, tk, os⟩ := I.laid (t' := tk) (a := hp.objs.size + 1) (o := exo (hp.objs.size + 1) C none) (h' := mkHeap hp C us) mk_keep hsz (exo_ok mk_at)
  refine wpAny_call (run_call FB hT hC (PySem.W.looks_findIn I.kIn iC) (fun self => PySem.W.bind_fn I.kIn self tI) hl (codeAny_mono (F.run _ X.stack _ _ ⟨Value.ref (hp.objs.size + 1) :: us, kw⟩ us' _ _ (fun _ _ _ => False) (hr.make C us kw) (I2.env0.make C us kw) (hb _ I2.kIn) r hq) fun r s' hq' => ?_))
  cases r with
  | error er => exact hx pins σ _ _ er s' I2 hq'
  | ok fl =>
    cases fl with
    | ret u =>
      obtain ⟨v, H', I3, rv, ev, q3⟩ := I2.after hq'
      subst ev
      exact ⟨rv, ⟨V.ref (hp.objs.size + 1), H', I3, rfl, q3⟩⟩
    | next => exact False.elim hq'
    | brk => exact False.elim hq'
    | cont => exact False.elim hq'
/-- C(e, ..) -/
theorem pe_mkx (T : ExK X.K C) (iC : PySem.W.findIn X.K (.ref C) "__init__" = some (some (.ref fI))) (tI : PySem.W.typeIn X.K (.ref fI) = some (.type "function")) (F : FnOk X.prog X.w X.K X.mg X.base CX k fI fd ps sp) (hr : Room (k + 1) X.A) (hb : Binds X.K fd ps []) (hx : Passes CX X (fun _ _ _ => False))
    (hg : Gl X x) (hm : X.mg x = some (.ref C)) (ha : PA X (e :: es) ta) (hlen : ∀ vs H Q E, sp vs H Q E → vs.length = ps.length) (hdb : (x == ("__debug__" : Str)) = false := by decide) (he : starEach (e :: es) X.env = (false, eval e X.env) :: starEach es X.env := by rfl) (hpl : (backTo pos (starEach es X.env)).any (·.1) = false := by rfl) :
    PE X (.Call (.Name x p) (e :: es) [] pos) (tMkX C sp ta) := by
  refine ⟨fun pins s σ H Q I h => wpAny_Call_Name_kw (ld_glob I hg hm (PySem.W.callWith_K (h₀ := X.base) I.ok.mod.kin T.kC (thn (ha.run pos pins s σ H _ I h) fun us s1 ⟨vs, H1, I1, r1, hz, q1⟩ => ⟨I1.kIn, ?_⟩) he hpl) hdb)⟩
  have el := Paired.length r1
  have hl : us.length ≤ sizeLine := by rw [← el, sizeLine_eq]; omega
  have r2 : Vals (V.ref (s1.heap.objs.size + 1) :: vs) (Value.ref (s1.heap.objs.size + 1) :: us) := .cons rfl r1
  show wpAny _ _ (call (.ref C) us) _ _ _
  refine run_mkx T iC tI F hr hx I1 hl (us' := Value.ref (s1.heap.objs.size + 1) :: us) (fun s' X' => ?_) r2 (fun a hn ea => by subst ea; exact q1 _ hn)
  have z := hb s' (Value.ref (s1.heap.objs.size + 1) :: us) X' (by
    rw [List.append_nil, ← r2.length]
    exact hlen _ _ _ _ (q1 (s1.heap.objs.size + 1) (I1.hok.fresh (Nat.le_succ _))))
  rw [List.append_nil] at z
  exact z
/-- C() -/
theorem pe_mkx0 (T : ExK X.K C) (iC : PySem.W.findIn X.K (.ref C) "__init__" = some (some (.ref fI))) (tI : PySem.W.typeIn X.K (.ref fI) = some (.type "function")) (F : FnOk X.prog X.w X.K X.mg X.base CX k fI fd ps sp) (hr : Room (k + 1) X.A) (hb : Binds X.K fd ps []) (hx : Passes CX X (fun _ _ _ => False))
    (hg : Gl X x) (hm : X.mg x = some (.ref C)) (hlen : ps.length = 1) (hdb : (x == ("__debug__" : Str)) = false := by decide) : PE X (.Call (.Name x p) [] [] pos) (tMkX C sp tNil) := by
  refine ⟨fun pins s σ H Q I h => wpAny_Call_Name_kw (ld_glob I hg hm (PySem.W.callWith_K0 I.kIn T.kC ?_) hdb)⟩
  obtain ⟨_, q1⟩ := h
  show wpAny _ _ (call (.ref C) []) _ _ _
  refine run_mkx (us := []) T iC tI F hr hx I (by decide) (vs' := [V.ref (s.heap.objs.size + 1)]) (us' := [Value.ref (s.heap.objs.size + 1)]) (fun s' X' => ?_) (.cons rfl .nil) (fun a hn ea => by subst ea; exact q1 _ hn)
  have z := hb s' [Value.ref (s.heap.objs.size + 1)] X' (by rw [hlen]; rfl)
  exact z
/-- C(k = v) -/
theorem pe_mkxK (T : ExK X.K C) (iC : PySem.W.findIn X.K (.ref C) "__init__" = some (some (.ref fI))) (tI : PySem.W.typeIn X.K (.ref fI) = some (.type "function")) (F : FnOk X.prog X.w X.K X.mg X.base CX k fI fd ps sp) (hr : Room (k + 1) X.A) (hb : KBn X.K fd ps 1 ks (fun us ws => us ++ ws) (fun vs zs => vs ++ zs)) (hx : Passes CX X (fun _ _ _ => False))
    (hg : Gl X x) (hm : X.mg x = some (.ref C)) (hkw : PK X kws tk) (hlen : ∀ vs H Q E, sp vs H Q E → vs.length = ks.length + 1) (hall : (backToKw pos (keywordEach kws X.env)).all (·.1.isSome) = true := by rfl) (hks : (backToKw pos (keywordEach kws X.env)).filterMap (·.1) = ks := by rfl) (hdb : (x == ("__debug__" : Str)) = false := by decide)
    (hpl : ((backTo pos (starEach [] X.env)).any (·.1) || (backToKw pos (keywordEach kws X.env)).any (·.1.isNone)) = false := by rfl) : PE X (.Call (.Name x p) [] kws pos) (tMkX C sp tk) := by
  refine ⟨fun pins s σ H Q I h => wpAny_Call_Name_kw (ld_glob I hg hm (PySem.W.callWith_KW0 (h₀ := X.base) I.ok.mod.kin T.kC hall (thn (hkw.run pos pins s σ H _ I h) fun ws s2 ⟨zs, H2, I2, rz, hz, q2⟩ => ⟨I2.kIn, ?_⟩) hpl) hdb)⟩
  rw [hks]
  have el : zs.length = ks.length := by
    have z := hlen _ _ _ _ (q2 (s2.heap.objs.size + 1) (I2.hok.fresh (Nat.le_succ _)))
    exact Nat.succ.inj z
  show wpAny _ _ (call (.ref C) [] (ks.zip ws)) _ _ _
  exact run_mkx (us := []) (kw := ks.zip ws) T iC tI F hr hx I2 (Nat.zero_le _) (vs' := V.ref (s2.heap.objs.size + 1) :: zs) (us' := Value.ref (s2.heap.objs.size + 1) :: ws) (fun s' X' => hb.to s' [Value.ref (s2.heap.objs.size + 1)] ws X' rfl (rz.length.symm.trans el)) (.cons rfl rz) (fun a hn ea => by subst ea; exact q2 _ hn)
end

/-- what isinstance asks of the class of an exception -/
structure ExI (K : PySem.W.Frag) (C : Addr) : Prop where
  cc : PySem.W.findIn K (.ref C) "__class__" = some (some (.builtin "object.__class__"))
  gn : PySem.W.specialIn K (.builtin "object.__class__") "__get__" = some (some (.builtin "getset_descriptor.__get__"))
  tk : PySem.W.takesIn K (.builtin "object.__class__") = some true
  mo : PySem.W.mroIn K C (.type "object") = some true
/-- isinstance(e, c), e an exception that stands -/
def rIsX (K : PySem.W.Frag) : List V → Hp → VK → Prop := fun xs H Q => ∃ (a C d : Addr) (fs : List (Str × V)) (c : V) (u : Value) (b : Bool), xs = [.ref a, c] ∧ H a = some (exo a C (some d)) ∧ H d = some (exd d fs) ∧ ExK K C ∧ ExI K C ∧ ClsV c u ∧ PySem.W.kitOne K (.ref C) u = some b ∧ Q (.bl b) H
theorem call_isX {X : Cx} : CallR X (.builtin "isinstance") (rIsX X.K) := by
  intro pins s σ H xs us Q I r h
  obtain ⟨a, C, d, fs, c, u, b, rfl, ha, hd, T, TI, k, e, q⟩ := h
  obtain ⟨u1, u2, rfl, r1, r2⟩ := vals2 r
  have e2 := k.eq r2
  subst e2
  cases (show u1 = Value.ref a from r1)
  obtain ⟨t1, hx⟩ := exo_at I.hok ha
  obtain ⟨mA, hns, hr⟩ := exd_at I.hok hd
  obtain ⟨od, ho, hl⟩ := lookIn_ns hns
  obtain ⟨cd, hc, _⟩ := PySem.W.any_some T.hd
  have J : PySem.W.InstAt s.heap a { cls := .ref C, dict := some d, data := .fields #[.ref t1, .none, .none, .none, .bool false, .none] } C (some od) := ⟨hx, rfl, rfl, ho⟩
  exact PySem.W.kia_one (PySem.W.kitx_exc (by rw [hc]; rfl) T.ga T.gg T.exC TI.cc TI.gn TI.tk TI.mo) I.kIn J e (fun z => nomatch z) fun tk => ⟨.bl b, H, I.tok tk, rfl, q⟩
end Own

namespace Own
open PySem L2 PySem.HandSPX PyProof.Rows
section
variable {X : Cx} {e : Expr} {es : List Expr} {ta : TA} {x : Str} {p pos : Pos} {CX : CXT} {C fI : Addr} {k : Nat} {fd : FuncData} {ps : List Str} {sp : Sp}
/-- C(e, ..) that is to be raised -/
def tPmk (C : Addr) (sp : Sp) (ta : TA) : L2.St → Hp → XK → Prop := fun σ H Q => ta σ H fun vs H1 => vs.length ≤ 1000 ∧ ∀ a, H1 a = none → sp (.ref a :: vs) (upd H1 a (exo a C none))
  (fun v H2 => v = .non ∧ ∃ (d : Addr) (fs : List (Str × V)), H2 a = some (exo a C (some d)) ∧ H2 d = some (exd d fs) ∧ H1 d = none ∧ Q (.ref C) (some d) (upd (del H2 a) d (.xd fs))) (fun _ _ _ => False)
theorem pmk_mkx (T : ExK X.K C) (iC : PySem.W.findIn X.K (.ref C) "__init__" = some (some (.ref fI))) (tI : PySem.W.typeIn X.K (.ref fI) = some (.type "function"))
    (F : FnOk X.prog X.w X.K X.mg X.base CX k fI fd ps sp) (hr : Room (k + 1) X.A) (hb : Binds X.K fd ps []) (hx : Passes CX X (fun _ _ _ => False)) (hg : Gl X x) (hm : X.mg x = some (.ref C)) (ha : PA X (e :: es) ta)
    (hdb : (x == ("__debug__" : Str)) = false := by decide) (he : starEach (e :: es) X.env = (false, eval e X.env) :: starEach es X.env := by rfl) (hpl : (backTo pos (starEach es X.env)).any (·.1) = false := by rfl) :
    L2.PMk X (.Call (.Name x p) (e :: es) [] pos) (tPmk C sp ta) := by
  intro pins s σ H Q I h
  obtain ⟨B, newId, initId, bmB, FB, SF, hin, ho⟩ := T.cls
  refine wpAny_Call_Name_kw (ld_glob I hg hm ?_ hdb)
  refine PySem.W.callWith_K (h₀ := X.base) I.ok.mod.kin T.kC (thn (ha.run pos pins s σ H _ I h) fun us s1 ⟨vs, H1, I1, r1, hz, q1⟩ => ⟨I1.kIn, ?_⟩) he hpl
  show wpAny _ _ (call (.ref C) us) _ _ _
  obtain ⟨hp, g, dr, tk, os⟩ := s1
  obtain ⟨nm, N, qn, bs, bm, hdct, sn, sub, ab, col, dd, k0, k1, k2, k3, k5, hC, hT⟩ := PySem.W.excInit_of I1.kIn hin
  have hsz : hp.objs.size ≤ hp.objs.size + 1 := Nat.le_succ _
  have hn : H1 (hp.objs.size + 1) = none := I1.hok.fresh hsz
  have hq := q1 (hp.objs.size + 1) hn
  have I2 : Inv X pins σ (upd H1 (hp.objs.size + 1) (exo (hp.objs.size + 1) C none)) ⟨mkHeap hp C us, g, dr, tk, os⟩ := I1.laid (t' := tk) (a := hp.objs.size + 1) (o := exo (hp.objs.size + 1) C none) (h' := mkHeap hp C us) mk_keep hsz (exo_ok mk_at)
  have r2 : Vals (V.ref (hp.objs.size + 1) :: vs) (Value.ref (hp.objs.size + 1) :: us) := .cons rfl r1
  have hl : (Value.ref (hp.objs.size + 1) :: us ++ []).length = ps.length := by
    have e := r2.length
    rw [F.len _ _ _ _ hq] at e
    rw [List.append_nil]
    exact e.symm
  have hus : us.length ≤ sizeLine := by
    rw [← Paired.length r1, sizeLine_eq]
    omega
  have hbb := hb ⟨mkHeap hp C us, g, dr, tk, os⟩ (Value.ref (hp.objs.size + 1) :: us) I2.kIn hl
  rw [List.append_nil] at hbb
  refine wpAny_call (run_call FB hT hC (PySem.W.looks_findIn I1.kIn iC) (fun self => PySem.W.bind_fn I1.kIn self tI) hus (codeAny_mono (F.run _ X.stack _ _ ⟨Value.ref (hp.objs.size + 1) :: us, []⟩ (Value.ref (hp.objs.size + 1) :: us) _ _ (fun _ _ _ => False) (hr.make C us []) (I2.env0.make C us []) hbb r2 hq) fun r s' hq' => ?_))
  cases r with
  | error er => exact hx pins σ _ _ er s' I2 hq'
  | ok fl =>
    cases fl with
    | ret u =>
      obtain ⟨v, H2, os2, bare2, un2, hok2, rv, ev, d, fs, ea, ed, hd1, q2⟩ := hq'
      subst ev
      obtain ⟨h2, g2, d2, t2, os'⟩ := s'
      exact ⟨rv, mk_end (raises_own T.exC T.tyC) I1 hsz mk_keep un2 hok2 os2 bare2 ea ed hd1 q2⟩
    | next => exact False.elim hq'
    | brk => exact False.elim hq'
    | cont => exact False.elim hq'
end
end Own

namespace Own
open PySem L2 PySem.HandSPX PyProof.Rows
theorem flying_push {B : Heap} {l : List Env} {a : Addr} {Z : Obj → Prop} {h : Heap} {o : Obj} (f : FlyingZ B l a Z h) : FlyingZ B l a Z (h.push o) := by
  obtain ⟨k1, k2, k3, oe, vs, T, oT, ts', he, hz, hd, h1, hr1, hr2, hr3, hr4, hr5⟩ := f
  have kp : ∀ b u, h.get? b = some u → (h.push o).get? b = some u := fun b u z => Heap.get?_push_of_some _ z
  exact ⟨fun b u z => kp b u (k1 b u z), k2, Heap.FunFrames.of_keeps (fun b u e _ => ⟨u, kp b u e, rfl⟩) k3, oe, vs, T, oT, ts', kp _ _ he, hz, hd, h1, hr1, hr2, kp _ _ hr3, hr4, hr5⟩
/-- what 'except (x1, x2, x3) as n' wishes of an exception of the body, which one of the classes catches -/
def wTup (K : PySem.W.Frag) (cs : List Value) (i : Nat) (ts : Addr → Value → Option Addr → TS) (D : Ends) : WX := fun cls d σ H =>
  PySem.W.exmAny K cls cs = some true ∧ ∀ a, H a = none → ts a cls d { nx := fun σ' H' => D.nx (σ'.set i none) H', rt := D.rt, bk := fun σ' H' => D.bk (σ'.set i none) H', ct := fun σ' H' => D.ct (σ'.set i none) H' } (σ.set i (some (.ref a))) H
section
variable {X : Cx} {x1 x2 x3 n : Str} {c1 c2 c3 : Value} {i kk : Nat} {body suite : List Stmt} {b₀ : Stmt} {p1 p2 p3 np pos pos' : Pos} {tb : WX → TS} {ts : Addr → Value → Option Addr → TS}
theorem ps_try_tup3 (hs : X.stack = X.env :: X.outer) (hf : X.env.frame = some X.env.locals) (hN : X.N.Nodup) (hi : X.N[i]? = some n) (hln : X.env.kindOf n = some .local) (hc1 : Names X x1 c1) (hc2 : Names X x2 c2) (hc3 : Names X x3 c3)
    (hb : ∀ (W : WX) (pn : List (Addr × Obj)) (xe : Value → Shared → Prop), Takes (X.tr pn xe) W → PassesOwn (model X.prog X.w) X.A X.env xe → PSs (X.tr pn xe) body (tb W))
    (hsu : ∀ (a : Addr) (oe : Obj) (cls : Value) (d : Option Addr) (pn : List (Addr × Obj)), Zc cls d oe → (∃ vs, oe.data = .fields vs) → X.base.get? a = none → PSs (X.suite a ((a, oe) :: pn)) (b₀ :: suite) (ts a cls d)) :
    PS X (.Try body [.ExceptHandler (some (.Tuple [.Name x1 p1, .Name x2 p2, .Name x3 p3] kk np)) (some n) (b₀ :: suite) pos'] [] [] pos) (fun D σ H => tb (wTup X.K [c1, c2, c3] i ts D) D σ H) := by
  refine ⟨fun pins s σ H D I h => ?_⟩
  have ok := I.ok
  have hfr : X.A.frames = some (X.env :: X.outer) := by rw [ok.frames, hs]
  have hloc : Loc X.env.scope n := .inl hln
  refine wpAny_Try_except ?_
  refine wpAny_mono ((hb (wTup X.K [c1, c2, c3] i ts D) (X.pn ++ pins) (fun e s₁ => wpAny (model X.prog X.w) X.A (noteFrame e X.env) (fun _ s₂ => wpAny (model X.prog X.w) X.A (setFlight e none) (fun _ s₃ =>
    wpAny (model X.prog X.w) X.A (handleBy e X.env [.ExceptHandler (some (.Tuple [.Name x1 p1, .Name x2 p2, .Name x3 p3] kk np)) (some n) (b₀ :: suite) pos']) (SP X pins D) X.xe s₃) X.xe s₂) X.xe s₁) (fun u s' xx => ?_) PassesOwn.looking).run [] s σ H D (I.toTry _) h) (fun f s1 hsp => ?_) (fun e s1 he => he)
  · -- the catch
    obtain ⟨a, B, sI, pins', σ', H', cls, d, rfl, J', nb, up, sky, na, os, ag, hb1, hyes⟩ := xx
    have J : Inv X pins σ' H' sI := J'.ofTry ok
    have sky' : Sky B (X.env :: X.outer) a (Zc cls d) X.env.locals s'.heap := by rw [← hs]; exact sky
    show wpAny (model X.prog X.w) X.A (noteFrame (.ref a) X.env) _ _ _
    refine Sky.land Zc.steady hfr hf sky' fun h3 fl3 up3 => ?_
    have J3 : Inv X pins σ' H' { s' with heap := h3 } := J.landed nb fl3.1 (up.trans up3) os ag
    obtain ⟨oe3, vs3, he3, hz3, hd3⟩ := fl3.there
    have notFr : ∀ {h : Heap} {o : Obj} {vs : Array Value}, h.FunFrames B (X.env :: X.outer) → h.get? a = some o → o.data = .fields vs → a ∉ frs (X.env :: X.outer) := fun {h o vs} ff e dd hm => by
      obtain ⟨_, o', e', hnf⟩ := ff.mem hm
      rw [e] at e'; cases e'
      exact hnf _ dd
    have nfr := notFr fl3.2.2.1 he3 hd3
    have nL : a ≠ X.env.locals := fun z => nfr (List.mem_filterMap.mpr ⟨X.env, List.mem_cons_self, by rw [hf, z]⟩)
    have nF : a ∉ X.fs := fun hm => by
      obtain ⟨e, he, q⟩ := List.mem_filterMap.mp hm
      exact nfr (List.mem_filterMap.mpr ⟨e, List.mem_cons_of_mem _ he, q⟩)
    have S3 := J3.suite he3 hd3 na nL nF
    refine wpAny_handleBy_cons (codeAny_handlers_test ?_) (by intro q; cases q)
    have LT : PySem.W.Looks (model X.prog X.w) h3 (typeOf (.ref a)) cls := fun A Q E s k q => wpAny_typeOf_ref (k _ _ he3) (by rw [hz3.1]; exact q)
    have test : ∀ {x : Str} {c : Value} {np : Pos}, Names X x c → ∀ {Q : Value → Shared → Prop} {E : Value → Shared → Prop}, Q c { s' with heap := h3 } → wpAny (model X.prog X.w) (X.A.mark (some (.ref a))) (eval (.Name x np) X.env) Q E { s' with heap := h3 } := fun {x c np} hc {Q E} q => by
      obtain ⟨hg, hdbg, hm | ⟨hm, hv, hnn⟩⟩ := hc
      · exact ld_glob (X := X.suite a ((a, oe3) :: (X.pn ++ pins))) S3 hg hm q hdbg
      · exact ld_blt (X := X.suite a ((a, oe3) :: (X.pn ++ pins))) S3 hg hm hv q hnn hdbg
    refine wpAny_Tuple ?_
    refine wpAny_items_cons (test hc1 ?_)
    refine wpAny_items_cons (test hc2 ?_)
    refine wpAny_items_cons (test hc3 ?_)
    refine wpAny_items_nil ⟨by show 3 ≤ sizeLine; decide, ?_⟩
    have kp : ∀ q o, h3.get? q = some o → (h3.push { cls := .type "tuple", data := .seq [c1, c2, c3].toArray }).get? q = some o := fun _ _ z => Heap.get?_push_of_some _ z
    refine (PySem.W.exm_tup3 (M := model X.prog X.w) (J3.kIn.keeps kp) (LT.keeps kp) (Heap.get?_push_size h3 rfl) hb1).here ?_
    have fl3 := flying_push (o := { cls := .type "tuple", data := .seq [c1, c2, c3].toArray }) fl3
    have up3 : s'.heap.UpToSlots (h3.push { cls := .type "tuple", data := .seq [c1, c2, c3].toArray }) := up3.trans (Heap.UpToSlots.of_keeps kp)
    show codeAny _ _ _ _ _
    refine codeAny_handlers_suite_as ?_
    refine HandSPX.lands_againZ fl3 fun h4 fl4 up4 => ?_
    have J4 : Inv X pins σ' H' { s' with heap := h4 } := J.landed nb fl4.1 ((up.trans up3).trans up4) os ag
    obtain ⟨oe4, vs4, he4, hz4, hd4⟩ := fl4.there
    have S4 := J4.suite he4 hd4 na nL nF
    have hbase : X.base.get? a = none := by
      cases q : X.base.get? a with
      | none => rfl
      | some o =>
        have z1 := (J.bs a o q).1
        have z2 := nb a o z1 (by rw [hs]; exact nfr)
        have z3 := fl4.2.1
        rw [z2] at z3
        cases z3
    refine store_ok (X := X.suite a ((a, oe4) :: (X.pn ++ pins))) (v := .ref a) S4 hN hi hloc rfl (fun s5 S5 => ?_) (.inr hln)
    refine wpAny_mono ((hsu a oe4 cls d (X.pn ++ pins) hz4 ⟨_, hd4⟩ hbase).run [] s5 _ H' _ S5 (hyes a na)) (fun f s6 hsp => ?_) (fun _ _ z => False.elim z)
    have end_ : ∀ {σ6 : L2.St} {H6 : Hp} {Q : Shared → Prop}, Inv (X.suite a ((a, oe4) :: (X.pn ++ pins))) [] σ6 H6 s6 → (∀ s7, Inv X pins (σ6.set i none) H6 s7 → Q s7) →
        wpAny (model X.prog X.w) X.A (do bindName X.env n .none; unbindBehindTheSuite X.env n pos') (fun _ s7 => Q s7) X.xe s6 := fun {σ6 H6 Q} S6 hq => gone_ok (S6.unsuite ok) hN hi hln hq
    cases f with
    | next =>
      obtain ⟨σ6, H6, S6, q6⟩ := hsp
      exact end_ S6 fun s7 J7 => ⟨_, _, J7, q6⟩
    | brk =>
      obtain ⟨σ6, H6, S6, q6⟩ := hsp
      exact end_ S6 fun s7 J7 => ⟨_, _, J7, q6⟩
    | cont =>
      obtain ⟨σ6, H6, S6, q6⟩ := hsp
      exact end_ S6 fun s7 J7 => ⟨_, _, J7, q6⟩
    | ret u =>
      obtain ⟨v6, σ6, H6, S6, r6, q6⟩ := hsp
      exact end_ S6 fun s7 J7 => ⟨_, _, _, J7, r6, q6⟩
  · cases f with
    | next =>
      obtain ⟨σ', H', J', q⟩ := hsp
      exact wpAny_execs_nil ⟨σ', H', J'.ofTry ok, q⟩
    | brk =>
      obtain ⟨σ', H', J', q⟩ := hsp
      exact ⟨σ', H', J'.ofTry ok, q⟩
    | cont =>
      obtain ⟨σ', H', J', q⟩ := hsp
      exact ⟨σ', H', J'.ofTry ok, q⟩
    | ret u =>
      obtain ⟨v, σ', H', J', r, q⟩ := hsp
      exact ⟨v, σ', H', J'.ofTry ok, r, q⟩
end
end Own

namespace Own
open PySem L2 PySem.HandSPX PyProof.Rows PySem.Spec
/-! ### defs that raise nothing, wherever they are called (within an except suite too) -/
structure FnQ (P : Program) (w : World) (K : PySem.W.Frag) (mg : Str → Option Value) (base : Heap) (k : Nat) (f : Addr) (fd : FuncData) (ps : List Str) (sp : Sp) : Prop where
  len : ∀ vs H Q E, sp vs H Q E → vs.length = ps.length
  run : ∀ (A : Around) (outer : List Env) (s : Shared) (H : Hp) (args : Args) (us : List Value) (vs : List V) (Q : VK) (E : XK), L2H.RoomH k A → Env0 P w K mg base A outer s H → BindsTo s fd args (ps.zip us) → Vals vs us → sp vs H Q E →
    codeAny (model P w) A (.call (.ref f) args) (CR CX0 outer P w H s Q E) s
def cxQ (P : Program) (w : World) (K : PySem.W.Frag) (mg : Str → Option Value) (base : Heap) (N : List Str) (qual : Str) (scope : Scope) (f : Addr) (cd : Value) (A : Around) (outer : List Env) (s : Shared) (H : Hp) (E : XK) : Cx :=
  { cxOf CX0 P w K mg base N qual scope f cd A outer s H E with calm := false }
theorem inv_startQ {P : Program} {w : World} {K : PySem.W.Frag} {mg : Str → Option Value} {base : Heap} {N ps : List Str} {qual : Str} {scope : Scope} {f : Addr} {cd : Value} {A : Around} {outer : List Env} {s s1 : Shared} {H : Hp} {E : XK} {us : List Value} {vs : List V}
    (S : FnScope N ps scope) (e0 : Env0 P w K mg base A outer s H) (hl : vs.length = ps.length) (r : Vals vs us)
    (x : InCallC s s.heap.objs.size (bindL (envOfC qual scope s.heap.objs.size f cd).kindOf (ps.zip us) fun _ => none) (cellsFrom (s.heap.objs.size + 1) scope.names []) (bindC (envOfC qual scope s.heap.objs.size f cd).kindOf (ps.zip us) fun _ => none) s1) :
    Inv (cxQ P w K mg base N qual scope f cd A outer s H E) [] (L2.start N vs) H s1 := by
  have hpl : ps.length ≤ N.length := by have := congrArg List.length S.pre; rw [List.length_take] at this; omega
  obtain ⟨h1, tk, rfl, hk⟩ := x.done
  have noA : ∀ b : Addr, b ∉ (cxQ P w K mg base N qual scope f cd A outer s H E).ex := fun b z => absurd (show b ∈ ([] : List Addr) from z) (by simp)
  refine ⟨⟨e0.mod, S.kind, rfl, rfl, Nat.le_refl _, fun y z c h1 h2 => ?_, fun y hy => ?_, fun y c _ h => ?_, (fun z => Bool.noConfusion (show false = true from z)), Around.frames_deeper e0.frames, .inr ⟨rfl, rfl⟩, fun b z => absurd z (noA b), e0.bs, e0.bsz, fun b _ _ => noA b, fun b z => absurd z (noA b), e0.funs, e0.frf⟩,
    rfl, e0.bare, Un.kept hk, ⟨_, x.toInCall.ns, fun i y v h1 h2 h3 => ?_⟩, fun y c h => ⟨_, x.cell y c h⟩, e0.hok.fresh (Nat.le_refl _), fun y c h => ?_, fun q hq => ?_, e0.hok.kept hk, ?_⟩
  · exact name_of_addr x.apart (PySem.mem_of_lookup h1) (PySem.mem_of_lookup h2)
  · have hy : scope.names.lookup y = some .cell ∨ scope.names.lookup y = some .free := hy
    rcases hy with hy | hy
    · exact cell_has hy
    · exact absurd rfl (S.nofree _ (PySem.mem_of_lookup hy))
  · exact Nat.le_of_lt (x.above y c (PySem.mem_of_lookup h))
  · have hi : i < vs.length := by
      unfold L2.start at h2
      by_cases hi : i < vs.length
      · exact hi
      · rw [List.getElem?_append_right (by simpa using hi)] at h2
        rw [List.getElem?_replicate] at h2
        split at h2 <;> cases h2
    have ha : vs[i]? = some v := by
      unfold L2.start at h2
      rw [List.getElem?_append_left (by simpa using hi), List.getElem?_map] at h2
      cases e : vs[i]? with
      | none => rw [e] at h2; cases h2
      | some a => rw [e] at h2; cases h2; rfl
    obtain ⟨u, hu, rv⟩ := r.get ha
    have hp : ps[i]? = some y := by
      rw [← S.pre, List.getElem?_take_of_lt (by omega)]; exact h1
    have ndP : ps.Nodup := by rw [← S.pre]; exact S.nd.sublist (List.take_sublist _ _)
    refine ⟨u, rv, ?_⟩
    rcases S.par y (List.mem_of_getElem? hp) with k | k
    · exact .inl ⟨k, bindL_get ndP hp hu k⟩
    · obtain ⟨c, e⟩ := cell_has (n := s.heap.objs.size + 1) k
      refine .inr ⟨.inl k, c, e, ?_⟩
      have q := x.cell y c e
      rw [bindC_get ndP hp hu (by show scope.names.lookup y ≠ _; rw [k]; decide)] at q
      exact q
  · exact e0.hok.fresh (Nat.le_of_lt (x.above y c (PySem.mem_of_lookup h)))
  · exact absurd (show q ∈ ([] : List (Addr × Obj)) ++ [] from hq) (by simp)
  · unfold L2.start
    show _ = N.length
    rw [List.length_append, List.length_map, List.length_replicate]
    omega
theorem fn_ofQ {P : Program} {w : World} {K : PySem.W.Frag} {mg : Str → Option Value} {base : Heap} {k : Nat} {f : Addr} {x qual : Str} {st : Stmt} {fd : FuncData} {N ps : List Str} {sp : Sp} (F : Fun K x qual st f fd) (S : FnScope N ps (defScope st))
    (len : ∀ vs H Q E, sp vs H Q E → vs.length = ps.length)
    (hbody : ∀ (cdv : Value) (A : Around) (outer : List Env) (s : Shared) (H : Hp) (vs : List V) (Q : VK) (E : XK), L2H.RoomH k (A.deeper (envOfC qual (defScope st) s.heap.objs.size f cdv)) → sp vs H Q E →
      ∃ t, PSs (cxQ P w K mg base N qual (defScope st) f cdv A outer s H E) (defBody st) t ∧ t { nx := fun _ H' => Q .non H', rt := Q } (L2.start N vs) H) :
    FnQ P w K mg base (k + 1) f fd ps sp := by
  obtain ⟨⟨oc, od, kV, doc, pm, an, cdv, ct, osl, rfl, lk, hcd⟩, _⟩ := F
  refine ⟨len, fun A outer s H args us vs Q E hr e0 hb r hsp => ?_⟩
  have hl := len _ _ _ _ hsp
  have KX : K.In s.heap := e0.mod.kin.keeps fun b o e => (e0.bs b o e).1
  have lim : s.heap.NoLimit := e0.mod.nolimit.keeps fun b o e => (e0.bs b o e).1
  have hkind : ∀ y ∈ ps.zip us, (defScope st).names.lookup y.1 = some .local ∨ ((defScope st).names.lookup y.1 = some .cell ∧ ((cellsFrom (s.heap.objs.size + 1) (defScope st).names []).lookup y.1).isSome = true) := fun ⟨n, v⟩ hy => by
    rcases S.par n (List.of_mem_zip hy).1 with q | q
    · exact .inl q
    · exact .inr ⟨q, PySem.W.cellsFrom_some _ _ _ (.inl q)⟩
  refine codeAny_call_function hr.depth (KX _ _ lk) rfl S.co S.gen rfl (PySem.W.codeRec_of KX hcd) (hb _ _ _ _ ?_)
  refine wpAny_newFunctionEnv_cells S.kind hkind fun env he s1 x => ?_
  subst he
  refine ⟨lim.keeps x.toInCall.keep, codeAny_func ?_⟩
  obtain ⟨t, ht, hq⟩ := hbody cdv A outer s H vs Q E (hr.deeper _) hsp
  have I : Inv (cxQ P w K mg base N qual (defScope st) f cdv A outer s H E) [] (L2.start N vs) H s1 := inv_startQ S e0 hl r x
  refine wpAny_mono (ht.run [] s1 (L2.start N vs) H _ I hq) (fun fl s' hs => ?_) fun e s' hs => hs
  have fin : ∀ {σ' : L2.St} {H' : Hp} {v : V} {u : Value}, Inv (cxQ P w K mg base N qual (defScope st) f cdv A outer s H E) [] σ' H' s' → RelV v u → Q v H' → CE outer P w H s Q u s' :=
    fun {σ' H' v u} J rv q => ⟨v, H', J.os, J.bare, J.base, J.hok, rv, q⟩
  cases fl with
  | ret u =>
    obtain ⟨v, σ', H', J, rv, q⟩ := hs
    exact fin J rv q
  | next =>
    obtain ⟨σ', H', J, q⟩ := hs
    exact fin (v := V.non) (u := Value.none) J rfl q
  | brk =>
    obtain ⟨_, _, _, q⟩ := hs
    exact False.elim q
  | cont =>
    obtain ⟨_, _, _, q⟩ := hs
    exact False.elim q
/-! ### the caught exception, tracked -/
/-- the object at a is o -/
def exq (a : Addr) (o : Obj) : HO := .ext fun h => h.get? a = some o
theorem exq_own {a x : Addr} {o : Obj} : exq a o ≠ .own x := fun z => by
  have z' : HO.ext _ = HO.own x := z
  cases z'
theorem exq_tup {a : Addr} {o : Obj} {xs : List V} : exq a o ≠ .tup xs := fun z => by
  have z' : HO.ext _ = HO.tup xs := z
  cases z'
theorem exq_ok {P : Program} {w : World} {H : Hp} {h : Heap} {a : Addr} {o : Obj} (e : h.get? a = some o) : ObjOk P w H h a (exq a o) := ⟨e, ⟨_, e⟩, fun h1 h2 z k => k _ z⟩
theorem exq_at {P : Program} {w : World} {H : Hp} {h : Heap} {a : Addr} {o : Obj} (hok : HOk P w H h) (e : H a = some (exq a o)) : h.get? a = some o := (hok a _ e).1
structure ExQ (C dd : Addr) (o : Obj) : Prop where
  cls : o.cls = .ref C
  dict : o.dict = some dd
  data : ∃ vs, o.data = .fields vs
/-- e.f, e a caught exception that is tracked -/
def tGxq (K : PySem.W.Frag) (f : Str) (te : TE) : TE := fun σ H Q => te σ H fun x H1 => ∃ (a C d : Addr) (o : Obj) (fs : List (Str × V)) (v : V), x = .ref a ∧ H1 a = some (exq a o) ∧ ExQ C d o ∧ H1 d = some (exd d fs) ∧ ExK K C ∧ PySem.W.findIn K (.ref C) f = some none ∧ fs.lookup f = some v ∧ Q v H1
section
variable {X : Cx} {e : Expr} {te : TE} {f : Str} {pos : Pos}
theorem pe_gxq (he : PE X e te) (hb : attributeBase e f X.env (eval e X.env) = eval e X.env := by rfl) : PE X (.Attribute e f pos) (tGxq X.K f te) := by
  refine ⟨fun pins s σ H Q I h => attr_of hb (thn (he.run pins s σ H _ I h) fun u s1 ⟨x, H1, I1, rx, a, C, d, o, fs, v, ex, ea, eo, ed, T, hno, l, q⟩ => ?_)⟩
  subst ex
  obtain rfl : u = Value.ref a := rx
  have hx := exq_at I1.hok ea
  obtain ⟨mA, hns, hr⟩ := exd_at I1.hok ed
  obtain ⟨od, ho, hl⟩ := lookIn_ns hns
  obtain ⟨u, hu, ru⟩ := RelO.some_of (v := v) (o := mA f) (by rw [← l]; exact hr f)
  obtain ⟨vs, hd⟩ := eo.data
  have J : PySem.W.InstAt s1.heap a o C (some od) := ⟨hx, eo.cls, by unfold PySem.W.notCls; rw [hd] <;> rfl, by rw [eo.dict]; exact ho⟩
  exact HandSPX.exc_get I1.kIn J T.ga T.gg T.exC (PySem.W.findObj_own T.hd hno rfl (by rw [hl, hu])) (handed_of ru) ⟨v, H1, I1.tok _, ru, q⟩
end
/-- e.f, e the caught exception in its suite -/
def tXfA (K : PySem.W.Frag) (a : Addr) (cls : Value) (d : Option Addr) (f : Str) (te : TE) : TE := fun σ H Q => te σ H fun x H1 => x = .ref a ∧ ∃ (C dd : Addr) (fs : List (Str × V)) (v : V), cls = .ref C ∧ XfC K C ∧ PySem.W.findIn K (.ref C) f = some none ∧ d = some dd ∧ H1 dd = some (.xd fs) ∧ fs.lookup f = some v ∧ Q v H1
theorem pe_xfA {X : Cx} {a : Addr} {oe : Obj} {cls : Value} {d : Option Addr} {pn : List (Addr × Obj)} {e : Expr} {te : TE} {pos : Pos} {n : Str} (hz : Zc cls d oe) (hf : ∃ vs, oe.data = .fields vs) (he : PE (X.suite a ((a, oe) :: pn)) e te) (hb : attributeBase e n X.env (eval e X.env) = eval e X.env := by rfl) :
    PE (X.suite a ((a, oe) :: pn)) (.Attribute e n pos) (tXfA X.K a cls d n te) := by
  refine ⟨fun pins s σ H Q I h => ?_⟩
  refine attr_of hb (thn (he.run pins s σ H _ I h) fun u s1 hh => ?_)
  obtain ⟨x, H1, I1, rx, ex, C, dd, fs, v, ec, T, hno, ed, ea, l, q⟩ := hh
  subst ex
  obtain rfl : u = Value.ref a := rx
  subst ec
  subst ed
  obtain ⟨ha, _⟩ := I1.pin (a, oe) (List.mem_append_left _ List.mem_cons_self)
  obtain ⟨vs, hd⟩ := hf
  have hx : ObjOk X.prog X.w H1 s1.heap dd (.xd fs) := I1.hok dd _ ea
  obtain ⟨mA, hns, hr⟩ := hx
  obtain ⟨od, ho, hl⟩ := lookIn_ns hns
  obtain ⟨u, hu, ru⟩ := RelO.some_of (v := v) (o := mA n) (by rw [← l]; exact hr n)
  have J : PySem.W.InstAt s1.heap a oe C (some od) := ⟨ha, hz.1, by unfold PySem.W.notCls; rw [hd] <;> rfl, by rw [hz.2]; exact ho⟩
  exact HandSPX.exc_get I1.kIn J T.ga T.gg T.exC (PySem.W.findObj_own T.hdC hno rfl (by rw [hl, hu])) (handed_of ru) ⟨v, H1, I1.tok _, ru, q⟩
/-- the heap while a def looks at the caught exception -/
def hpX (H : Hp) (a dd : Addr) (oe : Obj) (fs : List (Str × V)) : Hp := upd (upd H dd (exd dd fs)) a (exq a oe)
/-- .. and behind it -/
def hpB (H : Hp) (a dd : Addr) (fs : List (Str × V)) : Hp := upd (del H a) dd (.xd fs)
/-- f(e), e the caught exception -/
def tCallX (a : Addr) (cls : Value) (d : Option Addr) (sp : Sp) (ta : TA) : TE := fun σ H Q => ta σ H fun vs H1 => vs = [.ref a] ∧ ∃ (C dd : Addr) (fs : List (Str × V)), cls = .ref C ∧ d = some dd ∧ H1 dd = some (.xd fs) ∧ ∀ oe, ExQ C dd oe →
  sp [.ref a] (hpX H1 a dd oe fs) (fun v H2 => H2 a = some (exq a oe) ∧ H2 dd = some (exd dd fs) ∧ Q v (hpB H2 a dd fs)) (fun _ _ _ => False)
section
variable {X : Cx} {x : Str} {e : Expr} {ta : TA} {p pos : Pos} {f : Addr} {k : Nat} {fd : FuncData} {ps : List Str} {sp : Sp} {a : Addr} {oe : Obj} {cls : Value} {d : Option Addr} {pn : List (Addr × Obj)}
theorem pe_callX (F : FnQ X.prog X.w X.K X.mg X.base k f fd ps sp) (hr : L2H.RoomH k X.A) (hz : Zc cls d oe) (hf : ∃ vs, oe.data = .fields vs) (hbase : X.base.get? a = none) (hg : Gl X x) (hm : X.mg x = some (.ref f)) (hk : PySem.W.keepIn X.K (.ref f) = true) (hb : Binds X.K fd ps [])
    (ha : PA (X.suite a ((a, oe) :: pn)) [e] ta)
    (hdb : (x == ("__debug__" : Str)) = false := by decide) (hse : starEach [e] X.env = (false, eval e X.env) :: starEach [] X.env := by rfl) (hpl : (backTo pos (starEach [] X.env)).any (·.1) = false := by rfl) :
    PE (X.suite a ((a, oe) :: pn)) (.Call (.Name x p) [e] [] pos) (tCallX a cls d sp ta) := by
  refine ⟨fun pins s σ H Q I h => ?_⟩
  refine wpAny_Call_Name_kw (ld_glob I hg hm ?_ hdb)
  refine PySem.W.callWith_K (h₀ := X.base) I.ok.mod.kin hk (thn (ha.run pos pins s σ H _ I h) fun us s1 ⟨vs, H1, I1, r1, q1⟩ => ⟨I1.kIn, ?_⟩) hse hpl
  obtain ⟨rfl, C, dd, fs, rfl, rfl, hdd, q⟩ := q1
  have q := q oe ⟨hz.1, hz.2, hf⟩
  obtain ⟨ga, na, nL, nF, _⟩ := I1.pin (a, oe) (List.mem_append_left _ List.mem_cons_self)
  have nad : a ≠ dd := fun z => by
    have na' : H1 a = none := na
    rw [z, hdd] at na'
    cases na'
  obtain ⟨mA, hns, rel⟩ := I1.hok dd _ hdd
  have e0 := I1.env0
  have at_ : ∀ b, b ≠ a → b ≠ dd → hpX H1 a dd oe fs b = H1 b := fun b h1 h2 => by unfold hpX; rw [upd_ne h1, upd_ne h2]
  have atA : hpX H1 a dd oe fs a = some (exq a oe) := upd_same
  have atD : hpX H1 a dd oe fs dd = some (exd dd fs) := by unfold hpX; rw [upd_ne nad.symm, upd_same]
  have hok1 : HOk X.prog X.w (hpX H1 a dd oe fs) s1.heap := fun b o z => by
    by_cases hba : b = a
    · subst hba
      rw [atA] at z
      cases z
      exact exq_ok ga
    by_cases hbd : b = dd
    · subst hbd
      rw [atD] at z
      cases z
      exact exd_ok hns rel
    rw [at_ b hba hbd] at z
    have na' : H1 a = none := na
    exact (I1.hok b o z).stay (fun c v hc y => y) (fun c hc => by rw [at_ c (ne_of_none hc na') (fun e => by rw [e, hdd] at hc; cases hc)]; exact hc) (fun c xs hc => by rw [at_ c (ne_of_none hc na') (fun e => by rw [e, hdd] at hc; cases hc)]; exact hc)
  have up1 : ∀ b, H1 b = none → b ≠ a → hpX H1 a dd oe fs b = none := fun b n hb => by
    rw [at_ b hb (fun e => by rw [e, hdd] at n; cases n)]
    exact n
  have nfr : a ∉ frs X.stack := fun hm => (List.mem_cons.mp (I1.stkSub a hm)).elim nL nF
  have e1 : Env0 X.prog X.w X.K X.mg X.base (X.A.mark (some (.ref a))) X.stack s1 (hpX H1 a dd oe fs) :=
    ⟨e0.frames, e0.mod, fun b o hb => ⟨(e0.bs b o hb).1, up1 b (e0.bs b o hb).2 (fun e => by rw [e, hbase] at hb; cases hb)⟩, e0.bsz, e0.funs, fun b hb => up1 b (e0.frf b hb) (fun e => nfr (e ▸ hb)), hok1, e0.bare⟩
  have hl : us.length = ps.length := by rw [← r1.length]; exact F.len _ _ _ _ q
  have bb := hb s1 us I1.kIn (by rw [List.append_nil]; exact hl)
  rw [List.append_nil] at bb
  have hr' : L2H.RoomH k (X.A.mark (some (.ref a))) := ⟨hr.dp, hr.un⟩
  refine wpAny_call (codeAny_mono (F.run (X.A.mark (some (.ref a))) X.stack s1 _ ⟨us, []⟩ us _ _ _ hr' e1 bb r1 q) fun r s' hq => ?_)
  cases r with
  | error er => exact (show False from hq).elim
  | ok fl =>
    cases fl with
    | next => exact False.elim hq
    | brk => exact False.elim hq
    | cont => exact False.elim hq
    | ret u =>
      obtain ⟨v, H2, os2, bare2, un, hok2, rv, ea, ed, q2⟩ := hq
      refine I1.after ⟨v, hpB H2 a dd fs, os2, bare2, ?_, ?_, rv, q2⟩
      · have na' : H1 a = none := na
        have bk : ∀ b, b ≠ a → b ≠ dd → hpB H2 a dd fs b = H2 b := fun b h1 h2 => by unfold hpB; rw [upd_ne h2, del_ne h1]
        have nd : ∀ {b : Addr}, H1 b = none → b ≠ dd := fun {b} n e => by rw [e, hdd] at n; cases n
        exact {
          keep := fun b o z n hf hx => by
            by_cases hba : b = a
            · subst hba
              rw [ga] at z
              cases z
              exact exq_at hok2 ea
            · exact un.keep b o z (up1 b n hba) hf hx
          slot := fun b o z n hf hx => un.slot b o z (up1 b n (fun e => nfr (e ▸ hf))) hf hx
          free := fun b o z n hx => by
            by_cases hba : b = a
            · subst hba
              unfold hpB
              rw [upd_ne nad, del_same]
            · rw [bk b hba (nd n)]
              exact un.free b o z (up1 b n hba) hx
          there := un.there
          tups := fun b xs z => by
            have h1 := ne_of_none z na'
            have h2 : b ≠ dd := fun e => by rw [e, hdd] at z; cases z
            rw [bk b h1 h2]
            exact un.tups b xs (by rw [at_ b h1 h2]; exact z)
          frzs := fun b o u z => by
            have h1 := ne_of_none z na'
            have h2 : b ≠ dd := fun e => by rw [e, hdd] at z; cases z
            rw [bk b h1 h2]
            exact un.frzs b o u (by rw [at_ b h1 h2]; exact z)
          tbls := fun b qs z => by
            have h1 := ne_of_none z na'
            have h2 : b ≠ dd := fun e => by rw [e, hdd] at z; cases z
            rw [bk b h1 h2]
            exact un.tbls b qs (by rw [at_ b h1 h2]; exact z) }
      · intro b o z
        by_cases hbd : b = dd
        · subst hbd
          unfold hpB at z
          rw [upd_same] at z
          cases z
          obtain ⟨mB, hn2, rel2⟩ := exd_at hok2 ed
          exact ⟨mB, hn2, rel2⟩
        · unfold hpB at z
          rw [upd_ne hbd] at z
          have hba : b ≠ a := fun e => by rw [e, del_same] at z; cases z
          rw [del_ne hba] at z
          refine (hok2 b o z).stay (fun c v hc y => y) (fun c hc => ?_) (fun c xs hc => ?_)
          · unfold hpB
            rw [upd_ne (at_ne ed hc exd_own), del_ne (at_ne ea hc exq_own)]; exact hc
          · unfold hpB
            rw [upd_ne (at_ne ed hc exd_tup), del_ne (at_ne ea hc exq_tup)]; exact hc
end
end Own

namespace Own
open PySem L2 PySem.HandSPX PyProof.Rows PySem.Spec LamX NdefX
/-! ### a lambda without parameters, as a thing that is known -/
/-- its words: NF with no statements, and the body -/
def LamO (f : Addr) (F : NF) (body : Expr) : HO := .ext fun h => ∃ (pm ctv : Value), h.get? f = some (PySem.W.kla_obj "<lambda>" F.qual F.params body F.scope F.cl pm F.c ctv)
theorem lamO_at {P : Program} {w : World} {H : Hp} {h : Heap} {f : Addr} {F : NF} {body : Expr} (hok : HOk P w H h) (e : H f = some (LamO f F body)) : ∃ (pm ctv : Value), h.get? f = some (PySem.W.kla_obj "<lambda>" F.qual F.params body F.scope F.cl pm F.c ctv) := (hok f _ e).1
section
variable {X : Cx} {pins : List (Addr × Obj)} {σ : L2.St} {H : Hp} {s : Shared}
theorem inv_lam {F : NF} {body : Expr} {o : Obj} {t' : Nat} {pm ctv : Value} (I : Inv X pins σ H s) (ho : o = PySem.W.kla_obj "<lambda>" F.qual F.params body F.scope F.cl pm F.c ctv) :
    Inv X pins σ (upd H s.heap.objs.size (LamO s.heap.objs.size F body)) { s with heap := s.heap.push o, toks := t' } := by
  subst ho
  refine I.laid (a := s.heap.objs.size) (fun b u e => Heap.get?_push_of_some _ e) (Nat.le_refl _) ?_
  have e : (s.heap.push (PySem.W.kla_obj "<lambda>" F.qual F.params body F.scope F.cl pm F.c ctv)).get? s.heap.objs.size = some (PySem.W.kla_obj "<lambda>" F.qual F.params body F.scope F.cl pm F.c ctv) := Heap.get?_push_size _ rfl
  exact ⟨⟨pm, ctv, e⟩, ⟨_, e⟩, fun h1 h2 ⟨p, t, z⟩ st => ⟨p, t, st _ z⟩⟩
def lamF (X : Cx) (params : Arguments) (scope : Scope) (c' : Addr) : NF := ⟨"<lambda>", X.env.qual ++ "<lambda>", params, [], scope, cloFrom X.env.cells scope.names [], c'⟩
theorem lam_mk {T : List (Addr × Str)} {c P : Addr} {params : Arguments} {body : Expr} {scope : Scope} {pos : Pos} {E : Value → Shared → Prop} {Q : Value → Shared → Prop} (I : Inv X pins σ H s) (TB : TabB X.base X.mg c P) (hcode : X.env.code = .ref c)
    (hm : (P, X.env.qual ++ "<lambda>") ∈ T) (hu : ∀ p ∈ T, p.1 = P → p.2 = X.env.qual ++ "<lambda>") (hT : Tabs T H) (hdef : defaultsOf params X.env = ([], [])) (hfree : ∀ y ∈ scope.names, y.2 = .free → ∃ c, X.env.cells.lookup y.1 = some c)
    (h : ∀ (f c' : Addr) (H1 : Hp) (s' : Shared), Inv X pins σ H1 s' → ExtN H H1 → (∀ b, H1 b = none → H b = none) → Tabs T H1 → H f = none → H1 f = some (LamO f (lamF X params scope c') body) → H1 c' = some (CodeO c' (X.env.qual ++ "<lambda>")) → Q (.ref f) s') :
    wpAny (model X.prog X.w) X.A (eval (.Lambda params body scope pos) X.env) Q E s := by
  obtain ⟨ps, hP, ht, ha⟩ := hT _ hm
  refine PySem.W.kla_eval hdef ?_
  have bP : s.heap.BuiltinsAt X.mg P := TB.bm.keeps I.bk
  have hP' : s.heap.get? P = some { cls := .none, data := .fields ps } := I.hok P _ hP
  cases hc : codeAmong pos ps.toList with
  | none =>
    refine PySem.W.kla_makeFunction (mg := X.mg) (c := c) (P := P) (ps := ps) (closure_ok hfree) I.ok.glob (I.mod.glob.keeps I.bk) hcode (TB.code.keeps I.bk) hP' ht hc TB.gP bP fun c' ctv h' tk hx hge hlt hrec htb => ?_
    obtain ⟨c2, oc, vs, t, e2, hoc, hd, hv⟩ := hrec
    cases e2
    have nC : H c' = none := I.hok.fresh hge
    have I1 := inv_table (t' := tk) (more := #[rawInt pos.line, rawInt pos.col, .ref c']) (h' := h') I hP (fun b o hb e => hx b o hb e) htb hge ⟨oc, vs, t, hoc, hd, hv⟩
    have hE : ExtN H (upd (upd H P (.tbl (ps ++ #[rawInt pos.line, rawInt pos.col, .ref c']))) c' (CodeO c' (X.env.qual ++ "<lambda>"))) := fun b o e n => by
      rw [upd_ne (ne_of_none e nC), upd_ne (fun z => n ps (Option.some.inj (e.symm.trans (by rw [z]; exact hP))))]
      exact e
    have eL : (ps ++ #[rawInt pos.line, rawInt pos.col, .ref c']).toList = ps.toList ++ [rawInt pos.line, rawInt pos.col, .ref c'] := by simp
    have T1 : Tabs T (upd (upd H P (.tbl (ps ++ #[rawInt pos.line, rawInt pos.col, .ref c']))) c' (CodeO c' (X.env.qual ++ "<lambda>"))) := fun p hp => by
      by_cases hb : p.1 = P
      · rw [hu p hp hb, hb]
        refine ⟨_, by rw [upd_ne (ne_of_none hP nC), upd_same], by rw [eL]; exact PySem.TriplesOk_snoc _ _ _ _ ht, fun p' cv hcv => ?_⟩
        rw [eL] at hcv
        rcases among_app _ ht hcv with z | z
        · obtain ⟨c0, e1, e2⟩ := ha p' cv z
          exact ⟨c0, e1, hE _ _ e2 codeO_ne⟩
        · exact ⟨c', z, upd_same⟩
      · obtain ⟨ps', a1, a2, a3⟩ := hT p hp
        refine ⟨ps', by rw [upd_ne (ne_of_none a1 nC), upd_ne hb]; exact a1, a2, fun p' cv hcv => ?_⟩
        obtain ⟨c0, e1, e2⟩ := a3 p' cv hcv
        exact ⟨c0, e1, hE _ _ e2 codeO_ne⟩
    have nF := I1.hok.fresh (Nat.le_refl _)
    have I2 := inv_lam (F := lamF X params scope c') (body := body) (t' := tk) (pm := (X.mg "__name__").getD .none) (ctv := ctv) I1 rfl
    refine h h'.objs.size c' _ _ I2 (fun b o e n => ?_) (fun b e => upd_none (upd_none (upd_none e))) (T1.ext fun b o e => ?_) (I.hok.fresh (Nat.le_trans hge (Nat.le_of_lt hlt))) upd_same ?_
    · have e1 := hE b o e n
      exact (upd_ne (ne_of_none e1 nF)).trans e1
    · exact (upd_ne (ne_of_none e nF)).trans e
    · exact (upd_ne (Nat.ne_of_lt hlt)).trans upd_same
  | some cv =>
    obtain ⟨c', e, hco⟩ := ha pos cv hc
    subst e
    refine PySem.W.kla_makeFunctionHit (mg := X.mg) (c := c) (P := P) (ps := ps) (closure_ok hfree) I.ok.glob (I.mod.glob.keeps I.bk) hcode (TB.code.keeps I.bk) hP' ht hc bP fun ctv h' tk hx hsz => ?_
    have I1 : Inv X pins σ H { s with heap := h', toks := tk } := I.kept hx
    have nF : H h'.objs.size = none := I1.hok.fresh (Nat.le_refl _)
    have I2 := inv_lam (F := lamF X params scope c') (body := body) (t' := tk) (pm := (X.mg "__name__").getD .none) (ctv := ctv) I1 rfl
    refine h h'.objs.size c' _ _ I2 (fun b o e n => ?_) (fun b e => upd_none e) (hT.ext fun b o e => ?_) nF upd_same ?_
    · exact (upd_ne (ne_of_none e nF)).trans e
    · exact (upd_ne (ne_of_none e nF)).trans e
    · exact (upd_ne (ne_of_none hco nF)).trans hco
end
/-- lambda: body, made -/
def tLamO (X : Cx) (T : List (Addr × Str)) (params : Arguments) (scope : Scope) (body : Expr) : TE := fun _ H Q => Tabs T H ∧ ∀ (f c' : Addr) (H1 : Hp), ExtN H H1 → (∀ b, H1 b = none → H b = none) → Tabs T H1 → H f = none → H1 f = some (LamO f (lamF X params scope c') body) → H1 c' = some (CodeO c' (X.env.qual ++ "<lambda>")) → Q (.ref f) H1
section
variable {X : Cx}
theorem pe_lamO {T : List (Addr × Str)} {c P : Addr} {params : Arguments} {body : Expr} {scope : Scope} {pos : Pos} (TB : TabB X.base X.mg c P) (hcode : X.env.code = .ref c)
    (hm : (P, X.env.qual ++ "<lambda>") ∈ T) (hu : ∀ p ∈ T, p.1 = P → p.2 = X.env.qual ++ "<lambda>") (hdef : defaultsOf params X.env = ([], [])) (L : LamS X.env.scope scope) :
    PE X (.Lambda params body scope pos) (tLamO X T params scope body) :=
  ⟨fun pins s σ H Q I ⟨hT, h⟩ => lam_mk I TB hcode hm hu hT hdef (L.has I.ok) fun f c' H1 s' I1 e n T1 nf hf hc => ⟨.ref f, H1, I1, rfl, h f c' H1 e n T1 nf hf hc⟩⟩
end
end Own

namespace Own
open PySem L2 PySem.HandSPX PyProof.Rows PySem.Spec LamX NdefX
/-! ### tracking some objects exactly, for a while -/
abbrev SO := Addr → Option Obj
def trk (S : SO) (H : Hp) : Hp := fun b => match S b with
  | some o => some (exq b o)
  | none => H b
def utrk (S : SO) (H : Hp) : Hp := fun b => match S b with
  | some _ => none
  | none => H b
def Tracked (S : SO) (H : Hp) : Prop := ∀ b o, S b = some o → H b = some (exq b o)
theorem trk_in {S : SO} {H : Hp} {b : Addr} {o : Obj} (h : S b = some o) : trk S H b = some (exq b o) := by unfold trk; rw [h]
theorem trk_out {S : SO} {H : Hp} {b : Addr} (h : S b = none) : trk S H b = H b := by unfold trk; rw [h]
theorem utrk_in {S : SO} {H : Hp} {b : Addr} {o : Obj} (h : S b = some o) : utrk S H b = none := by unfold utrk; rw [h]
theorem utrk_out {S : SO} {H : Hp} {b : Addr} (h : S b = none) : utrk S H b = H b := by unfold utrk; rw [h]
theorem utrk_none {S : SO} {H : Hp} {b : Addr} (h : H b = none) : utrk S H b = none := by
  cases e : S b with
  | none => rw [utrk_out e]; exact h
  | some o => exact utrk_in e
theorem trk_tracked {S : SO} {H : Hp} : Tracked S (trk S H) := fun _ _ h => trk_in h
theorem Tracked.same {S : SO} {H H' : Hp} (t : Tracked S H) (sm : Same H H') : Tracked S H' := fun b o h => sm _ _ (t b o h)
/-- S's objects stand in h, untracked in H -/
def Stand (S : SO) (h : Heap) (H : Hp) : Prop := ∀ b o, S b = some o → h.get? b = some o ∧ H b = none
section
variable {P : Program} {w : World} {S : SO} {H H' : Hp} {h h' B : Heap} {fs : List Addr}
theorem hok_trk (hok : HOk P w H h) (st : Stand S h H) : HOk P w (trk S H) h := fun b u z => by
  cases e : S b with
  | some o =>
    rw [trk_in e] at z
    cases z
    exact exq_ok (st b o e).1
  | none =>
    rw [trk_out e] at z
    refine (hok b u z).stay (fun c v hc y => y) (fun c hc => ?_) (fun c xs hc => ?_)
    · cases e2 : S c with
      | none => rw [trk_out e2]; exact hc
      | some o => rw [(st c o e2).2] at hc; cases hc
    · cases e2 : S c with
      | none => rw [trk_out e2]; exact hc
      | some o => rw [(st c o e2).2] at hc; cases hc
theorem hok_utrk (hok : HOk P w H h) (t : Tracked S H) : HOk P w (utrk S H) h := fun b u z => by
  cases e : S b with
  | some o => rw [utrk_in e] at z; cases z
  | none =>
    rw [utrk_out e] at z
    refine (hok b u z).stay (fun c v hc y => y) (fun c hc => ?_) (fun c xs hc => ?_)
    · cases e2 : S c with
      | none => rw [utrk_out e2]; exact hc
      | some o => rw [t c o e2] at hc; exact absurd (Option.some.inj hc) exq_own
    · cases e2 : S c with
      | none => rw [utrk_out e2]; exact hc
      | some o => rw [t c o e2] at hc; exact absurd (Option.some.inj hc) exq_tup
theorem exq_frz {a : Addr} {o o' : Obj} {u : HO} : exq a o ≠ .frz o' u := fun z => by
  have z' : HO.ext _ = HO.frz o' u := z
  cases z'
theorem exq_tbl {a : Addr} {o : Obj} {ps : Array Value} : exq a o ≠ .tbl ps := fun z => by
  have z' : HO.ext _ = HO.tbl ps := z
  cases z'
/-- behind a call that tracked more -/
theorem un_more (un : Un fs [] (trk S H) H' h h') (st : Stand S h H) (nf : ∀ b o, S b = some o → b ∉ fs) (t : Tracked S H') (hok : HOk P w H' h') : Un fs [] H (utrk S H') h h' := by
  have up : ∀ b, H b = none → S b = none → trk S H b = none := fun b n e => by rw [trk_out e]; exact n
  have ot : ∀ b u, H b = some u → S b = none := fun b u z => by
    cases e : S b with
    | none => rfl
    | some o => rw [(st b o e).2] at z; cases z
  exact {
    keep := fun b o z n hf hx => by
      cases e : S b with
      | none => exact un.keep b o z (up b n e) hf hx
      | some q =>
        rw [(st b q e).1] at z
        cases z
        exact exq_at hok (t b _ e)
    slot := fun b o z n hf hx => by
      cases e : S b with
      | none => exact un.slot b o z (up b n e) hf hx
      | some q => exact absurd hf (nf b q e)
    free := fun b o z n hx => by
      cases e : S b with
      | none => rw [utrk_out e]; exact un.free b o z (up b n e) hx
      | some q => exact utrk_in e
    there := un.there
    tups := fun b xs z => by
      have e := ot b _ z
      rw [utrk_out e]; exact un.tups b xs (by rw [trk_out e]; exact z)
    frzs := fun b o u z => by
      have e := ot b _ z
      rw [utrk_out e]; exact un.frzs b o u (by rw [trk_out e]; exact z)
    tbls := fun b ps z => by
      have e := ot b _ z
      rw [utrk_out e]; exact un.tbls b ps (by rw [trk_out e]; exact z) }
/-- behind a call that tracked less -/
theorem un_less (un : Un fs [] (utrk S H) H' h h') (t : Tracked S H) (hok : HOk P w H h) (frf : ∀ b ∈ fs, H b = none) : Un fs [] H (trk S H') h h' ∧ Stand S h' H' := by
  have nfs : ∀ b o, S b = some o → b ∉ fs := fun b o e hf => by
    have z := frf b hf
    rw [t b o e] at z
    cases z
  have st : Stand S h' H' := fun b o e => ⟨un.keep b o (exq_at hok (t b o e)) (utrk_in e) (nfs b o e) (by simp), un.free b o (exq_at hok (t b o e)) (utrk_in e) (by simp)⟩
  have sn : ∀ b, H b = none → S b = none := fun b n => by
    cases e : S b with
    | none => rfl
    | some o => rw [t b o e] at n; cases n
  refine ⟨{
    keep := fun b o z n hf hx => un.keep b o z (utrk_none n) hf hx
    slot := fun b o z n hf hx => un.slot b o z (utrk_none n) hf hx
    free := fun b o z n hx => by rw [trk_out (sn b n)]; exact un.free b o z (utrk_none n) hx
    there := un.there
    tups := fun b xs z => ?_
    frzs := fun b o u z => ?_
    tbls := fun b ps z => ?_ }, st⟩
  · have e : S b = none := by
      cases e : S b with
      | none => rfl
      | some o => rw [t b o e] at z; exact absurd (Option.some.inj z) exq_tup
    rw [trk_out e]; exact un.tups b xs (by rw [utrk_out e]; exact z)
  · have e : S b = none := by
      cases e : S b with
      | none => rfl
      | some o' => rw [t b o' e] at z; exact absurd (Option.some.inj z) exq_frz
    rw [trk_out e]; exact un.frzs b o u (by rw [utrk_out e]; exact z)
  · have e : S b = none := by
      cases e : S b with
      | none => rfl
      | some o => rw [t b o e] at z; exact absurd (Option.some.inj z) exq_tbl
    rw [trk_out e]; exact un.tbls b ps (by rw [utrk_out e]; exact z)
theorem ub_less (un : UB fs (utrk S H) H' h B h') (t : Tracked S H) (hok : HOk P w H h) (frf : ∀ b ∈ fs, H b = none) : UB fs H (trk S H') h B h' ∧ Stand S B H' := by
  have nfs : ∀ b o, S b = some o → b ∉ fs := fun b o e hf => by
    have z := frf b hf
    rw [t b o e] at z
    cases z
  have st : Stand S B H' := fun b o e => ⟨un.keep b o (exq_at hok (t b o e)) (utrk_in e) (nfs b o e), un.free b o (exq_at hok (t b o e)) (utrk_in e)⟩
  have sn : ∀ b, H b = none → S b = none := fun b n => by
    cases e : S b with
    | none => rfl
    | some o => rw [t b o e] at n; cases n
  refine ⟨{
    keep := fun b o z n hf => un.keep b o z (utrk_none n) hf
    slot := un.slot
    free := fun b o z n => by rw [trk_out (sn b n)]; exact un.free b o z (utrk_none n)
    there := un.there
    tups := fun b xs z => ?_
    frzs := fun b o u z => ?_
    tbls := fun b ps z => ?_ }, st⟩
  · have e : S b = none := by
      cases e : S b with
      | none => rfl
      | some o => rw [t b o e] at z; exact absurd (Option.some.inj z) exq_tup
    rw [trk_out e]; exact un.tups b xs (by rw [utrk_out e]; exact z)
  · have e : S b = none := by
      cases e : S b with
      | none => rfl
      | some o' => rw [t b o' e] at z; exact absurd (Option.some.inj z) exq_frz
    rw [trk_out e]; exact un.frzs b o u (by rw [utrk_out e]; exact z)
  · have e : S b = none := by
      cases e : S b with
      | none => rfl
      | some o => rw [t b o e] at z; exact absurd (Option.some.inj z) exq_tbl
    rw [trk_out e]; exact un.tbls b ps (by rw [utrk_out e]; exact z)
end
section
variable {P : Program} {w : World} {K : PySem.W.Frag} {mg : Str → Option Value} {base : Heap} {A : Around} {outer : List Env} {s : Shared} {H : Hp} {S : SO} {Q : VK} {E : XK}
theorem env0_less (e0 : Env0 P w K mg base A outer s H) (t : Tracked S H) : Env0 P w K mg base A outer s (utrk S H) :=
  ⟨e0.frames, e0.mod, fun b o hb => ⟨(e0.bs b o hb).1, utrk_none (e0.bs b o hb).2⟩, e0.bsz, e0.funs, fun b hb => utrk_none (e0.frf b hb), hok_utrk e0.hok t, e0.bare⟩
theorem cr_less (e0 : Env0 P w K mg base A outer s H) (t : Tracked S H) {r : Result} {s' : Shared} (h : CR (L2.CX P w) outer P w (utrk S H) s (fun v H' => (∀ b o, S b = some o → H' b = none) → Q v (trk S H')) (fun c d H' => (∀ b o, S b = some o → H' b = none) → E c d (trk S H')) r s') : CR (L2.CX P w) outer P w H s Q E r s' := by
  cases r with
  | error e =>
    obtain ⟨a, B, H', cls, d, rfl, fl, hokB, ub, na, os, ag, q⟩ := (show L2.CX P w outer (utrk S H) s (fun c d H' => (∀ b o, S b = some o → H' b = none) → E c d (trk S H')) e s' from h)
    obtain ⟨ub2, st⟩ := ub_less ub t e0.hok e0.frf
    refine ⟨a, B, trk S H', cls, d, rfl, fl, hok_trk hokB st, ub2, ?_, os, ag, q fun b o e => (st b o e).2⟩
    have e : S a = none := by
      cases e : S a with
      | none => rfl
      | some o =>
        have z := (st a o e).1
        rw [fl.2.1] at z
        cases z
    rw [trk_out e]
    exact na
  | ok fl =>
    cases fl with
    | ret u =>
      obtain ⟨v, H', os, bare, un, hok, rv, q⟩ := (show CE outer P w (utrk S H) s (fun v H' => (∀ b o, S b = some o → H' b = none) → Q v (trk S H')) u s' from h)
      obtain ⟨un2, st⟩ := un_less un t e0.hok e0.frf
      exact ⟨v, trk S H', os, bare, un2, hok_trk hok st, rv, q fun b o e => (st b o e).2⟩
    | next => exact False.elim h
    | brk => exact False.elim h
    | cont => exact False.elim h
end
end Own

namespace Own
open PySem L2 PySem.HandSPX PyProof.Rows PySem.Spec LamX NdefX
/-! ### a function without parameters that is handed on: what its call reads as -/
structure AskG (P : Program) (w : World) (K : PySem.W.Frag) (mg : Str → Option Value) (base : Heap) (k : Nat) (f : Addr) (G : Hp → Prop) (sp0 : VK → XK → Hp → Prop) : Prop where
  fn : ∀ H h, HOk P w H h → G H → PySem.W.FnAt f h
  run : ∀ (A : Around) (outer : List Env) (s : Shared) (H : Hp) (Q : VK) (E : XK), Room k A → Env0 P w K mg base A outer s H → G H → sp0 Q E H → codeAny (model P w) A (.call (.ref f) ⟨[], []⟩) (CR (L2.CX P w) outer P w H s Q E) s
def Ask (P : Program) (w : World) (K : PySem.W.Frag) (mg : Str → Option Value) (base : Heap) (k : Nat) (H : Hp) (f : Addr) (sp0 : VK → XK → Hp → Prop) : Prop :=
  ∃ G : Hp → Prop, G H ∧ (∀ H H', Same H H' → G H → G H') ∧ AskG P w K mg base k f G sp0
theorem Ask.same {P : Program} {w : World} {K : PySem.W.Frag} {mg : Str → Option Value} {base : Heap} {k : Nat} {H H' : Hp} {f : Addr} {sp0 : VK → XK → Hp → Prop} (a : Ask P w K mg base k H f sp0) (sm : Same H H') : Ask P w K mg base k H' f sp0 := by
  obtain ⟨G, g, st, r⟩ := a
  exact ⟨G, st _ _ sm g, st, r⟩
section
variable {Z : Cx} {i k : Nat} {a : Str} {W : WX} {p1 p2 : Pos}
/-- a(), a a name that holds such a function -/
def tAsk (P : Program) (w : World) (K : PySem.W.Frag) (mg : Str → Option Value) (base : Heap) (k i : Nat) (W : WX) : TE := fun σ H Q => ∃ f sp0, σ[i]? = some (some (.ref f)) ∧ Ask P w K mg base k H f sp0 ∧ sp0 Q (fun cls d H' => W cls d σ H') H
theorem pe_ask (hr : Room k Z.A) (tk : Takes Z W) (hN : Z.N[i]? = some a) (hv : Vis Z.env.scope a) (hd : (a == ("__debug__" : Str)) = false := by decide) (hcd : (a == ("__classdict__" : Str)) = false := by decide) :
    PE Z (.Call (.Name a p1) [] [] p2) (tAsk Z.prog Z.w Z.K Z.mg Z.base k i W) := by
  refine ⟨fun pins s σ H Q I h => ?_⟩
  obtain ⟨f, sp0, hs, ⟨G, g, st, r⟩, q⟩ := h
  refine wpAny_Call_Name_kw (thn ((pe_var (pos := p1) (i := i) hN hv hd hcd).run pins s σ H (fun v H1 => v = .ref f ∧ H1 = H) I ⟨.ref f, hs, rfl, rfl⟩) fun u s1 ⟨v, H1, I1, r1, q1⟩ => ?_)
  obtain ⟨ev, eH⟩ := q1
  subst ev
  rw [eH] at I1
  obtain rfl : u = Value.ref f := r1
  refine PySem.W.callWith_F0 (r.fn _ _ I1.hok g) ?_
  refine wpAny_call (codeAny_mono (r.run Z.A Z.stack s1 H Q _ hr I1.env0 g q) fun r s' hq => ?_)
  cases r with
  | error e => exact tk e s' (XE.of_call I1 (fun cls d H' h => h) hq)
  | ok fl =>
    cases fl with
    | ret u => exact I1.after hq
    | next => exact False.elim hq
    | brk => exact False.elim hq
    | cont => exact False.elim hq
end
/-- what stands while such a lambda may be called -/
structure LamG (S : SO) (f : Addr) (F : NF) (body : Expr) (H : Hp) : Prop where
  lam : H f = some (LamO f F body)
  code : H F.c = some (CodeO F.c F.qual)
  tr : Tracked S H
section
variable {P : Program} {w : World} {K : PySem.W.Frag} {mg : Str → Option Value} {base : Heap} {k : Nat} {f : Addr} {F : NF} {body : Expr} {S : SO} {N fr : List Str} {ws : List (Option V)} {tb : XK → TE} {sp0 : VK → XK → Hp → Prop}
/-- THE RULE: a lambda by its body -/
theorem askG_lam (SN : NScope N [] fr F.scope) (nf : S f = none) (nc : S F.c = none)
    (hbind : ∀ pm ctv : Value, bindArgs (PySem.W.kla_fn "<lambda>" F.qual F.params body F.scope F.cl pm (.ref F.c) ctv) ⟨[], []⟩ = pure [])
    (hC : ∀ (h : Heap) (H : Hp), Stand S h H → CellsAt F.cl fr ws h H)
    (hbody : ∀ (A : Around) (outer : List Env) (s : Shared) (H : Hp) (E : XK), Room k (A.deeper (envF F f s.heap.objs.size)) → PE (ncx (L2.CX P w) P w K mg base N F f A outer s H E) body (tb E))
    (sp : ∀ Q E H, Tracked S H → sp0 Q E H → tb (fun c d H' => (∀ b o, S b = some o → H' b = none) → E c d (trk S H')) (startF N [] ws) (utrk S H) (fun v H' => (∀ b o, S b = some o → H' b = none) → Q v (trk S H'))) :
    AskG P w K mg base (k + 1) f (LamG S f F body) sp0 := by
  refine ⟨fun H h hok g => ?_, fun A outer s H Q E hr e0 g q => ?_⟩
  · obtain ⟨pm, ctv, e⟩ := lamO_at hok g.lam
    exact ⟨_, _, _, _, e⟩
  · have t := g.tr
    refine codeAny_mono ?_ fun r s' hq => cr_less e0 t hq
    have e1 := env0_less e0 t
    have hf : utrk S H f = some (LamO f F body) := by rw [utrk_out nf]; exact g.lam
    have hc : utrk S H F.c = some (CodeO F.c F.qual) := by rw [utrk_out nc]; exact g.code
    obtain ⟨pm, ctv, of1⟩ := lamO_at e1.hok hf
    have lim : s.heap.NoLimit := e0.mod.nolimit.keeps fun b o e => (e0.bs b o e).1
    have st : Stand S s.heap (utrk S H) := fun b o e => ⟨exq_at e0.hok (t b o e), utrk_in e⟩
    refine PySem.W.kla_callFunE hr.depth of1 rfl SN.co SN.gen rfl (codeO_at e1.hok hc) ?_
    rw [hbind pm ctv]
    refine wpAny_pure (wpAny_newFunctionEnv SN.nocell (fun y hy => absurd hy (by simp)) (fun h₁ hns hsb => ⟨lim.fresh _ hsb, ?_⟩) SN.kind)
    show codeAny _ _ (.expr body (envF F f s.heap.objs.size)) _ _
    have kp : ∀ b o, s.heap.get? b = some o → h₁.get? b = some o := fun b o e => hsb.extBut b o (Nat.ne_of_lt (Heap.lt_size e)) (Heap.get?_push_of_some _ e)
    have J : Inv (ncx (L2.CX P w) P w K mg base N F f A outer s (utrk S H) (fun c d H' => (∀ b o, S b = some o → H' b = none) → E c d (trk S H'))) [] (startF N [] ws) (utrk S H) { s with heap := h₁, toks := s.toks + ([] : List (Str × Value)).length } :=
      inv_startN (ps := []) (us := []) SN hr.hd e1 rfl .nil (hC _ _ st) hns kp
    refine PySem.W.kla_codeExpr (wpAny_mono ((hbody A outer s (utrk S H) _ (hr.deeper _)).run [] _ _ (utrk S H) (fun v H' => (∀ b o, S b = some o → H' b = none) → Q v (trk S H')) J (sp Q E H t q)) (fun v s' hq => ?_) fun e s' hq => hq)
    obtain ⟨w', H', J', rv, q'⟩ := hq
    exact ⟨w', H', J'.os, J'.bare, J'.base, J'.hok, rv, q'⟩
theorem lamG_same {H H' : Hp} (sm : Same H H') (g : LamG S f F body H) : LamG S f F body H' := ⟨sm _ _ g.lam, sm _ _ g.code, g.tr.same sm⟩
theorem ask_of {H : Hp} (g : LamG S f F body H) (r : AskG P w K mg base k f (LamG S f F body) sp0) : Ask P w K mg base k H f sp0 := ⟨_, g, fun _ _ sm g => lamG_same sm g, r⟩
end
/-! ### a call that tracks the cells -/
/-- what S tells of the frame's cells: a lambda made in it finds these values -/
def CellsS (X : Cx) (σ : L2.St) (S : SO) : Prop := ∀ (scope : Scope) (fr : List Str) (js : List Nat), (∀ y ∈ scope.names, y.2 = .free → X.env.scope.names.lookup y.1 = some .cell ∨ X.env.scope.names.lookup y.1 = some .free) → (∀ y ∈ fr, (y, NameKind.free) ∈ scope.names) → js.map (fun j => X.N[j]?) = fr.map some →
  ∀ (h : Heap) (H : Hp), Stand S h H → CellsAt (cloFrom X.env.cells scope.names []) fr (js.map (slotAt σ)) h H
/-- g(e, ..), the cells of this frame tracked meanwhile -/
def tCallT (X : Cx) (sp : Sp) (ta : TA) : TE := fun σ H Q => ta σ H fun vs H1 => ∀ S : SO, (∀ b o, S b = some o → H1 b = none) → CellsS X σ S → sp vs (trk S H1) (fun v H2 => Tracked S H2 ∧ Q v (utrk S H2)) (fun _ _ _ => False)
section
variable {X : Cx} {k : Nat} {f : Addr} {fd : FuncData} {ps : List Str} {sp : Sp} {x : Str} {q pos : Pos} {e : Expr} {es : List Expr} {ta : TA} {pins : List (Addr × Obj)} {σ : L2.St} {H : Hp} {s : Shared}
theorem call_cells (I : Inv X pins σ H s) (hfn : ∀ y, X.fn y = true) (hs : X.stack = X.env :: X.outer) (hf : X.env.frame = some X.env.locals) : ∃ S : SO, Stand S s.heap H ∧ (∀ b o, S b = some o → b ∉ frs X.stack ∧ X.base.get? b = none) ∧ CellsS X σ S := by
  have big : ∀ y c, X.env.cells.lookup y = some c → X.s_0.heap.objs.size ≤ c := fun y c e => I.ok.cab y c (hfn y) e
  classical
  refine ⟨fun b => if (∃ y, X.env.cells.lookup y = some b) then s.heap.get? b else none, fun b o e => ?_, fun b o e => ?_, fun scope fr js h1 h2 h3 h H' st => ?_⟩
  · have e' : (if (∃ y, X.env.cells.lookup y = some b) then s.heap.get? b else none) = some o := e
    split at e'
    · rename_i hy
      obtain ⟨y, hy⟩ := hy
      exact ⟨e', I.freeC y b hy⟩
    · cases e'
  · have e' : (if (∃ y, X.env.cells.lookup y = some b) then s.heap.get? b else none) = some o := e
    split at e'
    · rename_i hy
      obtain ⟨y, hy⟩ := hy
      refine ⟨fun hm => ?_, ?_⟩
      · rw [hs] at hm
        obtain ⟨ev, he, hl⟩ := List.mem_filterMap.mp hm
        rcases List.mem_cons.mp he with z | z
        · rw [z, hf] at hl
          cases hl
          exact I.cne y _ hy rfl
        · obtain ⟨_, o', ho', _⟩ := I.ok.funs.mem (List.mem_filterMap.mpr ⟨ev, z, hl⟩)
          exact absurd (Nat.lt_of_lt_of_le (Heap.lt_size ho') (big y b hy)) (Nat.lt_irrefl _)
      · cases hb : X.base.get? b with
        | none => rfl
        | some ob => exact absurd (Nat.lt_of_lt_of_le (Heap.lt_size hb) (Nat.le_trans I.ok.bsz (big y b hy))) (Nat.lt_irrefl _)
    · cases e'
  · have C := cells_of I (Caps.made I.ok h1 h2 h3)
    have hfree : ∀ y ∈ scope.names, y.2 = .free → ∃ c, X.env.cells.lookup y.1 = some c := fun y hy e => (h1 y hy e).elim (fun z => I.ok.has _ (.inl z)) fun z => I.ok.has _ (.inr z)
    have mv : ∀ y c, (cloFrom X.env.cells scope.names []).lookup y = some c → ∀ v, s.heap.IsCell c v → H' c = none ∧ h.IsCell c v := fun y c e v ⟨o, ho, hd⟩ => by
      have hc : X.env.cells.lookup y = some c := clo_cm hfree e
      have z := st c o (by show (if (∃ y, X.env.cells.lookup y = some c) then s.heap.get? c else none) = some o; rw [if_pos ⟨y, hc⟩]; exact ho)
      exact ⟨z.2, o, z.1, hd⟩
    refine ⟨C.len, fun y c e => ?_, C.inj, fun i y e => ?_⟩
    · obtain ⟨_, v, z⟩ := C.all y c e
      exact ⟨(mv y c e v z).1, v, (mv y c e v z).2⟩
    · obtain ⟨c, hc, hv⟩ := C.has i y e
      refine ⟨c, hc, fun v ev => ?_⟩
      obtain ⟨u, r, z⟩ := hv v ev
      exact ⟨u, r, (mv y c hc _ z).2⟩
theorem pe_callT (F : FnOk X.prog X.w X.K X.mg X.base CX0 k f fd ps sp) (hr : Room k X.A) (hfn : ∀ y, X.fn y = true) (hs : X.stack = X.env :: X.outer) (hf : X.env.frame = some X.env.locals) (hg : Gl X x) (hm : X.mg x = some (.ref f)) (hk : PySem.W.keepIn X.K (.ref f) = true) (hb : Binds X.K fd ps [])
    (ha : PA X (e :: es) ta) (hdb : (x == ("__debug__" : Str)) = false := by decide) (he : starEach (e :: es) X.env = (false, eval e X.env) :: starEach es X.env := by rfl) (hpl : (backTo pos (starEach es X.env)).any (·.1) = false := by rfl) :
    PE X (.Call (.Name x q) (e :: es) [] pos) (tCallT X sp ta) := by
  refine ⟨fun pins s σ H Q I h => ?_⟩
  refine wpAny_Call_Name_kw (ld_glob I hg hm ?_ hdb)
  refine PySem.W.callWith_K (h₀ := X.base) I.ok.mod.kin hk (thn (ha.run pos pins s σ H _ I h) fun us s1 ⟨vs, H1, I1, r, q⟩ => ⟨I1.kIn, ?_⟩) he hpl
  obtain ⟨S, st, nf, cs⟩ := call_cells I1 hfn hs hf
  have q1 := q S (fun b o e => (st b o e).2) cs
  have e0 := I1.env0
  have up : ∀ b, H1 b = none → (∀ o, S b ≠ some o) → trk S H1 b = none := fun b n e => by
    cases e2 : S b with
    | none => rw [trk_out e2]; exact n
    | some o => exact absurd e2 (e o)
  have e1 : Env0 X.prog X.w X.K X.mg X.base X.A X.stack s1 (trk S H1) :=
    ⟨e0.frames, e0.mod, fun b o hb => ⟨(e0.bs b o hb).1, up b (e0.bs b o hb).2 fun o' e => by have z := (nf b o' e).2; rw [hb] at z; cases z⟩, e0.bsz, e0.funs, fun b hb => up b (e0.frf b hb) fun o' e => (nf b o' e).1 hb, hok_trk e0.hok st, e0.bare⟩
  have hl : us.length = ps.length := by rw [← r.length]; exact F.len _ _ _ _ q1
  have bb := hb s1 us I1.kIn (by rw [List.append_nil]; exact hl)
  rw [List.append_nil] at bb
  refine wpAny_call (codeAny_mono (F.run X.A X.stack s1 _ ⟨us, []⟩ us _ _ _ hr e1 bb r q1) fun r s' hq => ?_)
  cases r with
  | error er => exact (show False from hq).elim
  | ok fl =>
    cases fl with
    | next => exact False.elim hq
    | brk => exact False.elim hq
    | cont => exact False.elim hq
    | ret u =>
      obtain ⟨v, H2, os2, bare2, un, hok2, rv, t2, q2⟩ := hq
      exact I1.after ⟨v, utrk S H2, os2, bare2, un_more un st (fun b o e => (nf b o e).1) t2 hok2, hok_utrk hok2 t2, rv, q2⟩
end
end Own

namespace Own
open PySem L2
def topT (i : Nat) : Stmt := PySem.Challenge.pw_ownchute_k09_offers.main.body.getD i (.Pass ⟨0, 0, 0, 0⟩)
abbrev sNum : Stmt := topT 2
abbrev sCkRooms : Stmt := topT 17
abbrev sCkNum : Stmt := topT 18
abbrev sCkWord : Stmt := topT 19
/-- a tuple of the top -/
def KT (K : PySem.W.Frag) (a : Addr) (xs : List V) : Prop := ∃ (o : Obj) (its : Array Value) (n : Nat), K.lookup a = some o ∧ o.cls = .type "tuple" ∧ o.data = .seq its n ∧ its.size ≤ sizeLine ∧ Vals xs its.toList
def numB : PyData → Int → Int → Bool
  | .int n, lo, hi => decide (lo ≤ n) && decide (n ≤ hi)
  | _, _, _ => false
def spNum (K : PySem.W.Frag) : Sp := fun vs H Q _ => ∃ (n lo hi : Int), vs = [.int n, .int lo, .int hi] ∧ Q (.bl (decide (lo ≤ n) && decide (n ≤ hi))) H
def spCkNum : Sp := fun vs H Q _ => ∃ (n lo hi : Int), vs = [.int n, .int lo, .int hi] ∧ lo ≤ n ∧ n ≤ hi ∧ Q .non H
def spCkWord (K : PySem.W.Frag) : Sp := fun vs H Q _ => ∃ (z : Str) (t : Addr) (ws : List V), vs = [.str z, .ref t] ∧ SqT K H t ws ∧ ws.all flatV = true ∧ inV (.str z) ws = true ∧ Q .non H
def spCkRooms (K : PySem.W.Frag) : Sp := fun vs H Q _ => ∃ (t : Addr) (rs : List Int) (most : Int), vs = [.ref t, .int most] ∧ SqT K H t (rs.map V.int) ∧ 1 ≤ rs.length ∧ rs.length ≤ 3 ∧ (∀ r, r ∈ rs → 1 ≤ r ∧ r ≤ most) ∧ Q .non H
section
variable {P : Program} {w : World} {K : PySem.W.Frag} {mg : Str → Option Value} {base : Heap}
theorem scNum : FnScope ["value", "least", "most"] ["value", "least", "most"] (defScope sNum) := ⟨rfl, rfl, rfl, by decide +kernel, rfl, by decide +kernel, by decide +kernel⟩
theorem ok_num {f : Addr} {fd : FuncData} (F : Fun K "is_number" "is_number" sNum f fd) (zI : mg "isinstance" = none) (zB : mg "bool" = none) (zN : mg "int" = none) : FnOk P w K mg base CX0 1 f fd ["value", "least", "most"] (spNum K) := by
  refine F.ok scNum (fun vs H Q E h => ?_) (fun cdv A outer s H vs Q E hr h => ?_)
  · obtain ⟨n, lo, hi, rfl, _⟩ := h
    rfl
  · obtain ⟨n, lo, hi, rfl, k⟩ := h
    refine ⟨_, pss_cons (ps_if (PW.pt (pw_or (pt_val (pe_callB call_isi (by rfl) zI (by decide +kernel) (pa_cons (pv 0) (pa_cons (pe_bltn (v := .ty "bool") (by rfl) zB (by decide +kernel) rfl) pa_nil)))) (pw_or1 (pt_not (pt_val (pe_callB call_isi (by rfl) zI (by decide +kernel) (pa_cons (pv 0) (pa_cons (pe_bltn (v := .ty "int") (by rfl) zN (by decide +kernel) rfl) pa_nil))))))))
      (pss_one (ps_ret pe_bl)) pss_nil) (pss_one (ps_ret (pe_chain op_le op_le (pv 1) (pv 0) (pv 2)))), ?_⟩
    refine ⟨_, rfl, _, _, .type "int", .type "bool", false, rfl, .ty _, .base (.int n), kit_ty (by decide +kernel), false, rfl, iteF ?_⟩
    refine ⟨_, rfl, _, _, .type "int", .type "int", true, rfl, .ty _, .base (.int n), kit_ty (by decide +kernel), true, rfl, iteF ?_⟩
    refine ⟨_, rfl, _, rfl, _, _, rfl, rfl, _, rfl, ite2 (fun c => ⟨_, rfl, _, _, rfl, rfl, ?_⟩) (fun c => ?_)⟩
    · rw [c] at k; exact k
    · rw [Bool.eq_false_iff.mpr c] at k; exact k
theorem scCkNum : FnScope ["value", "least", "most"] ["value", "least", "most"] (defScope sCkNum) := ⟨rfl, rfl, rfl, by decide +kernel, rfl, by decide +kernel, by decide +kernel⟩
theorem ok_cknum {f fN : Addr} {fd fdN : FuncData} (F : Fun K "check_number" "check_number" sCkNum f fd) (GN : FnOk P w K mg base CX0 1 fN fdN ["value", "least", "most"] (spNum K)) (mN : mg "is_number" = some (.ref fN)) (kN : PySem.W.keepIn K (.ref fN) = true) (bN : Binds K fdN ["value", "least", "most"] []) :
    FnOk P w K mg base CX0 2 f fd ["value", "least", "most"] spCkNum := by
  refine F.ok scCkNum (fun vs H Q E h => ?_) (fun cdv A outer s H vs Q E hr h => ?_)
  · obtain ⟨n, lo, hi, rfl, _⟩ := h
    rfl
  · obtain ⟨n, lo, hi, rfl, h1, h2, k⟩ := h
    refine ⟨_, pss_one (ps_if (pt_not (pt_val (pe_call GN hr rfl mN kN bN .nil pass0 (pa_cons (pv 0) (pa_cons (pv 1) (pa_cons (pv 2) pa_nil)))))) (pss_one ps_never) pss_nil), ?_⟩
    refine ⟨_, rfl, _, rfl, _, rfl, n, lo, hi, rfl, _, rfl, ?_⟩
    rw [decide_eq_true h1, decide_eq_true h2]
    exact iteF k
theorem scCkWord : FnScope ["value", "words"] ["value", "words"] (defScope sCkWord) := ⟨rfl, rfl, rfl, by decide +kernel, rfl, by decide +kernel, by decide +kernel⟩
theorem ok_ckword {f : Addr} {fd : FuncData} (F : Fun K "check_word" "check_word" sCkWord f fd) : FnOk P w K mg base CX0 1 f fd ["value", "words"] (spCkWord K) := by
  refine F.ok scCkWord (fun vs H Q E h => ?_) (fun cdv A outer s H vs Q E hr h => ?_)
  · obtain ⟨z, t, ws, rfl, _⟩ := h
    rfl
  · obtain ⟨z, t, ws, rfl, ht, hf, hi, k⟩ := h
    refine ⟨_, pss_one (ps_if (pt_cmpR op_notIn_seq (pv 0) (pv 1) (by rfl)) (pss_one ps_never) pss_nil), ?_⟩
    refine ⟨_, rfl, _, rfl, t, ws, rfl, .inr ht, rfl, hf, _, rfl, ?_⟩
    show if (!inV (.str z) ws) = true then _ else _
    rw [hi]
    exact iteF k
theorem scCkRooms : FnScope ["rooms", "most", "room"] ["rooms", "most"] (defScope sCkRooms) := ⟨rfl, rfl, rfl, by decide +kernel, rfl, by decide +kernel, by decide +kernel⟩
theorem ok_ckrooms {f fN : Addr} {fd fdN : FuncData} {tk : Tok} (F : Fun K "check_rooms" "check_rooms" sCkRooms f fd) (GN : FnOk P w K mg base CX0 2 fN fdN ["value", "least", "most"] spCkNum) (mN : mg "check_number" = some (.ref fN)) (kN : PySem.W.keepIn K (.ref fN) = true) (bN : Binds K fdN ["value", "least", "most"] []) (zL : mg "len" = none) (mB : mg "MOST_BELTS" = some (.int 3 tk)) :
    FnOk P w K mg base CX0 3 f fd ["rooms", "most"] (spCkRooms K) := by
  refine F.ok scCkRooms (fun vs H Q E h => ?_) (fun cdv A outer s H vs Q E hr h => ?_)
  · obtain ⟨t, rs, most, rfl, _⟩ := h
    rfl
  · obtain ⟨t, rs, most, rfl, ht, h1, h3, hall, k⟩ := h
    refine ⟨_, pss_cons (ps_if (pt_not (pt_chain op_le op_le pe_int (pe_callB call_len_seq (by rfl) zL PySem.boot_len (pa_cons (pv 0) pa_nil)) (pe_glob (v := .int 3) (by rfl) mB ⟨_, rfl⟩))) (pss_one ps_never) pss_nil)
      (pss_one (ps_for PassesOwn.never rfl (pi_tup (pv 0)) (pg_name (i := 2) scCkRooms.nd rfl (Or.inl rfl)) (pss_one (ps_expr (pe_call GN hr rfl mN kN bN .nil pass0 (pa_cons (pv 2) (pa_cons pe_int (pa_cons (pv 1) pa_nil)))))))), ?_⟩
    have hl : (rs.map V.int).length = rs.length := List.length_map _
    refine ⟨_, rfl, t, _, rfl, .inr ht, _, _, rfl, rfl, _, rfl, ?_⟩
    rw [show decide ((1 : Int) ≤ ((rs.map V.int).length : Nat)) = true from decide_eq_true (by rw [hl]; omega)]
    refine iteT ⟨_, _, rfl, rfl, _, rfl, ?_⟩
    rw [show decide ((((rs.map V.int).length : Nat) : Int) ≤ 3) = true from decide_eq_true (by rw [hl]; omega)]
    refine iteF ?_
    refine ⟨_, rfl, t, rfl, ⟨_, ht⟩, for_tup (K := K) (a := t) (xs := rs.map V.int) (fun i σ H' => ∃ v : Option V, σ = [some (.ref t), some (.int most), v] ∧ H' = H) ⟨_, rfl, rfl⟩ ?_ ?_ ?_⟩
    · rintro i σ H' _ ⟨v, rfl, rfl⟩
      exact ht
    · rintro i y σ H' hi ⟨v, rfl, rfl⟩
      obtain ⟨u, hu, rfl⟩ : ∃ u, rs[i]? = some u ∧ y = V.int u := by
        rw [List.getElem?_map] at hi
        cases e : rs[i]? with
        | none => rw [e] at hi; cases hi
        | some u => rw [e] at hi; exact ⟨u, rfl, (Option.some.inj hi).symm⟩
      obtain ⟨q1, q2⟩ := hall u (List.mem_of_getElem? hu)
      exact ⟨_, rfl, _, rfl, u, 1, most, rfl, q1, q2, _, rfl, rfl⟩
    · rintro σ H' ⟨v, rfl, rfl⟩
      exact k
end
end Own

namespace Own
open PySem L2 ClX
/-! ### len(o), repr(o) of an own instance -/
section
variable {X : Cx} {CX : CXT} {k : Nat} {C f : Addr} {fd : FuncData} {ps : List Str} {sp : Sp}
/-- what a special method of an own class must be -/
structure Spec1 (K : PySem.W.Frag) (C f : Addr) (name : Str) : Prop where
  at_ : PySem.W.findIn K (.ref C) name = some (some (.ref f))
  fn : PySem.W.isFn K (.ref f) = true
def rLenO (C : Addr) (sp : Sp) : List V → Hp → VK → Prop := fun xs H Q => ∃ (a dx : Addr) (fs : List (Str × V)), xs = [.ref a] ∧ H a = some (.ins C dx fs) ∧ sp [.ref a] H (fun v H' => (∃ n : Int, v = .int n ∧ 0 ≤ n ∧ n < 2 ^ 63) ∧ Q v H') (fun _ _ _ => False)
def rRepO (C : Addr) (sp : Sp) : List V → Hp → VK → Prop := fun xs H Q => ∃ (a dx : Addr) (fs : List (Str × V)), xs = [.ref a] ∧ H a = some (.ins C dx fs) ∧ sp [.ref a] H (fun v H' => (∃ z : Str, v = .str z) ∧ Q v H') (fun _ _ _ => False)
theorem run_in1 {pins : List (Addr × Obj)} {σ : L2.St} {H : Hp} {s : Shared} {Q : VK} {a : Addr} (F : FnOk X.prog X.w X.K X.mg X.base CX k f fd ps sp) (hr : Room (k + 1) X.A) (hb : Binds X.K fd ps []) (hx : Passes CX X (fun _ _ _ => False)) (I : Inv X pins σ H s) (h : sp [.ref a] H Q (fun _ _ _ => False)) :
    wpAny (model X.prog X.w) X.A.in1 (call (.ref f) [.ref a]) (EP X pins σ Q) X.xe s := by
  have hl : ([Value.ref a] ++ []).length = ps.length := by
    rw [← F.len _ _ _ _ h]
    rfl
  have b := hb s [.ref a] I.kIn hl
  rw [List.append_nil] at b
  refine wpAny_call (codeAny_mono (F.run X.A.in1 X.stack s H ⟨[.ref a], []⟩ [.ref a] [.ref a] Q _ hr.in1 I.env0.in1 b (.cons rfl .nil) h) fun r s' hq => ?_)
  cases r with
  | error er => exact hx pins σ H s er s' I hq
  | ok fl =>
    cases fl with
    | ret u => exact I.after hq
    | next => exact False.elim hq
    | brk => exact False.elim hq
    | cont => exact False.elim hq
theorem call_lenO (S : Spec1 X.K C f "__len__") (F : FnOk X.prog X.w X.K X.mg X.base CX k f fd ps sp) (hr : Room (k + 1) X.A) (hb : Binds X.K fd ps []) (hx : Passes CX X (fun _ _ _ => False)) : CallR X (.builtin "len") (rLenO C sp) := by
  intro pins s σ H xs us Q I r h
  obtain ⟨a, dx, fs, rfl, ha, q⟩ := h
  obtain ⟨u, rfl, rx⟩ := vals1 r
  cases (show u = Value.ref a from rx)
  obtain ⟨mA, J, _⟩ := ins_get I.hok ha
  obtain ⟨od, J, _⟩ := J.look
  obtain ⟨m, hF⟩ := I.fr
  refine PySem.W.len_K hF I.ok.mod.kin J S.at_ S.fn (thn (run_in1 F hr hb hx I q) fun w s' ⟨v, H', I', rv, ⟨n, ev, h0, h1⟩, qv⟩ => ?_)
  subst ev
  obtain ⟨t, rfl⟩ := rv
  exact ⟨⟨h0, h1⟩, ⟨.int n, H', I'.tok _, ⟨_, rfl⟩, qv⟩⟩
theorem call_repO (S : Spec1 X.K C f "__repr__") (F : FnOk X.prog X.w X.K X.mg X.base CX k f fd ps sp) (hr : Room (k + 1) X.A) (hb : Binds X.K fd ps []) (hx : Passes CX X (fun _ _ _ => False)) : CallR X (.builtin "repr") (rRepO C sp) := by
  intro pins s σ H xs us Q I r h
  obtain ⟨a, dx, fs, rfl, ha, q⟩ := h
  obtain ⟨u, rfl, rx⟩ := vals1 r
  cases (show u = Value.ref a from rx)
  obtain ⟨mA, J, _⟩ := ins_get I.hok ha
  obtain ⟨od, J, _⟩ := J.look
  obtain ⟨m, hF⟩ := I.fr
  refine PySem.W.repr_K hr.in1.units0 hF I.ok.mod.kin J S.at_ S.fn (thn (run_in1 F hr hb hx I q) fun w s' ⟨v, H', I', rv, ⟨z, ev⟩, qv⟩ => ?_)
  subst ev
  obtain ⟨t, rfl⟩ := rv
  exact ⟨.str z, H', I', ⟨_, rfl⟩, qv⟩
end
end Own

namespace Own
open PySem L2 ClX PySem.Spec PyProof.Rows
/-! ### def f(self, **d): the keywords stand in a new dict -/
section
variable {prog : Program} {w : World} {A : Around} {E : Value → Shared → Prop} {d : Addr}
theorem ns_put {s : Shared} {es : List DictEntry} {n : Nat} {k : Str} {v : Value} {Q : Unit → Shared → Prop} (D : s.heap.get? d = some (PySem.W.dictOf es n)) (hs : ∀ e ∈ es, e.key.isStr k = false) (hr : ∀ e ∈ es, e.refKey = false)
    (h : ∀ h' : Heap, h'.get? d = some (PySem.W.dictOf (es ++ [⟨PyData.keyHash w.params k, .str k s.toks, v⟩]) (n + 1)) → (∀ b u, b ≠ d → s.heap.get? b = some u → h'.get? b = some u) → Q () { s with heap := h', toks := s.toks + 1 }) :
    wpAny (model prog w) A (nsSet d k v) Q E s := by
  have e1 : es.any (·.key.isStr k) = false := by
    cases q : es.any (·.key.isStr k) with
    | false => rfl
    | true => obtain ⟨e, he, z⟩ := List.any_eq_true.mp q; rw [hs e he] at z; cases z
  have e2 : es.any (·.refKey) = false := by
    cases q : es.any (·.refKey) with
    | false => rfl
    | true => obtain ⟨e, he, z⟩ := List.any_eq_true.mp q; rw [hr e he] at z; cases z
  have e : Obj.putName k (PyData.keyHash w.params k) (.str k s.toks) v (PySem.W.dictOf es n) = PySem.W.dictOf (es ++ [⟨PyData.keyHash w.params k, .str k s.toks, v⟩]) (n + 1) := by
    rw [PySem.W.putName_dict, PySem.W.putL_new hs]
    show PySem.W.dictOf _ (if es.any (·.key.isStr k) then n else n + 1) = _
    rw [e1, if_neg Bool.false_ne_true]
  have c : aRefKeyMayBeTheName k es.toArray = false := by
    rw [aRefKeyMayBeTheName_at, ← Array.any_toList, ← Array.any_toList]
    show (!es.any (·.key.isStr k) && es.any (·.refKey)) = false
    rw [e2, Bool.and_false]
  unfold nsSet
  refine wpAny_bind (wpAny_bind (wpAny_askSetting (wpAny_pure (wpAny_bind (wpAny_mkText (wpAny_bind (wpAny_loadPart D ?_)))))))
  dsimp only
  rw [c]
  refine wpAny_updatePart D (h _ ?_ fun b u hb q => ?_)
  · rw [← e]
    exact Heap.get?_update_self (Obj.putName k (PyData.keyHash w.params k) (.str k s.toks) v) D (by rw [e]; rfl)
  · exact (Heap.get?_update_other _ _ (Ne.symm hb)).trans q
theorem ns_fill {Q : PUnit → Shared → Prop} : ∀ (ex : List (Str × Value)) (s : Shared) (es : List DictEntry) (n : Nat), s.heap.get? d = some (PySem.W.dictOf es n) →
    (∀ e ∈ es, ∀ x ∈ ex, e.key.isStr x.1 = false) → (∀ e ∈ es, e.refKey = false) → (ex.map (·.1)).Nodup →
    (∀ h' : Heap, h'.get? d = some (PySem.W.dictOf (es ++ PySem.W.kwEs w.params s.toks ex) (n + ex.length)) → (∀ b u, b ≠ d → s.heap.get? b = some u → h'.get? b = some u) → Q ⟨⟩ { s with heap := h', toks := s.toks + ex.length }) →
    wpAny (model prog w) A (forIn ex PUnit.unit fun x _ => (nsSet d x.1 x.2 >>= fun _ => pure (ForInStep.yield PUnit.unit))) Q E s
  | [], s, es, n, D, _, _, _, h => by
    rw [List.forIn_nil]
    refine wpAny_pure (h s.heap ?_ fun _ _ _ q => q)
    show s.heap.get? d = some (PySem.W.dictOf (es ++ []) n)
    rw [List.append_nil]
    exact D
  | x :: r, s, es, n, D, hs, hr, hn, h => by
    obtain ⟨hn1, hn2⟩ := List.nodup_cons.mp (show (x.1 :: r.map (·.1)).Nodup from hn)
    rw [List.forIn_cons]
    refine wpAny_bind (wpAny_bind (ns_put D (fun e he => hs e he x (.head _)) hr fun h' D' kp => wpAny_pure ?_))
    show wpAny (model prog w) A (forIn r PUnit.unit fun x _ => (nsSet d x.1 x.2 >>= fun _ => pure (ForInStep.yield PUnit.unit))) Q E { s with heap := h', toks := s.toks + 1 }
    refine ns_fill r { s with heap := h', toks := s.toks + 1 } _ _ D' (fun e he y hy => ?_) (fun e he => ?_) hn2 fun h'' D'' kp' => ?_
    · rcases List.mem_append.mp he with he | he
      · exact hs e he y (.tail _ hy)
      · obtain rfl := List.mem_singleton.mp he
        show (x.1 == y.1) = false
        exact beq_eq_false_iff_ne.mpr fun q => hn1 (by rw [q]; exact List.mem_map_of_mem hy)
    · rcases List.mem_append.mp he with he | he
      · exact hr e he
      · obtain rfl := List.mem_singleton.mp he
        rfl
    · have t1 : s.toks + 1 + r.length = s.toks + (r.length + 1) := by omega
      have t2 : n + 1 + r.length = n + (r.length + 1) := by omega
      show Q ⟨⟩ { s with heap := h'', toks := s.toks + 1 + r.length }
      rw [t1]
      refine h h'' ?_ fun b u hb q => kp' b u hb (kp b u hb q)
      rw [t2, List.append_assoc] at D''
      exact D''
end
def kwV : List (Str × V) → List (Key × V) := fun l => l.map fun p => (Sum.inr p.1, p.2)
def kwU : List (Str × Value) → List (Key × Value) := fun l => l.map fun p => (Sum.inr p.1, p.2)
theorem kw_pairs {P : Program} {w : World} : ∀ (ex : List (Str × Value)) (t : Tok), Pairs (mixKind P w) (PySem.W.kwEs w.params t ex) (kwU ex)
  | [], _ => Pairs.nil
  | x :: r, t => Pairs.cons (mixKind_str P w x.1 t) rfl (kw_pairs r (t + 1))
theorem kw_keys {P : Program} {w : World} {ex : List (Str × Value)} {t : Tok} : KeysOf (mixKind P w) (PySem.W.kwEs w.params t ex).toArray := fun e he => by
  obtain ⟨k, u, hk, hh⟩ := PySem.W.kwEs_key ex t e (List.mem_toArray.mp he)
  exact ⟨.inr k, by rw [hk]; exact mixKind_str P w k u, hh⟩
theorem kw_kv : ∀ {ks : List Str} {zs : List V} {ws : List Value}, Vals zs ws → KV (kwV (ks.zip zs)) (kwU (ks.zip ws))
  | [], _, _, _ => .nil
  | _ :: _, _, _, .nil => .nil
  | _ :: _, _, _, .cons a r => .cons ⟨rfl, a⟩ (kw_kv r)
theorem kw_nd {ks : List Str} : ∀ {ex : List (Str × Value)}, (ex.map (·.1)).Nodup → ((kwU ex).map (·.1)).Nodup
  | [], _ => List.nodup_nil
  | x :: r, h => by
    obtain ⟨h1, h2⟩ := List.nodup_cons.mp (show (x.1 :: r.map (·.1)).Nodup from h)
    show ((Sum.inr x.1 : Key) :: (kwU r).map (·.1)).Nodup
    refine List.nodup_cons.mpr ⟨fun z => h1 ?_, kw_nd (ks := ks) h2⟩
    obtain ⟨y, hy, e⟩ := List.mem_map.mp z
    obtain ⟨p, hp, rfl⟩ := List.mem_map.mp hy
    have e : (Sum.inr p.1 : Key) = Sum.inr x.1 := e
    rw [← Sum.inr.inj e]
    exact List.mem_map_of_mem hp
/-- o.m(k = v, ..) of a def m(self, **d): what it promises by the values -/
def FnKw (P : Program) (w : World) (K : PySem.W.Frag) (mg : Str → Option Value) (base : Heap) (CX : CXT) (k : Nat) (f : Addr) (ks : List Str) (sp : Sp) : Prop :=
  ∀ (A : Around) (outer : List Env) (s : Shared) (H : Hp) (a : Value) (va : V) (ws : List Value) (zs : List V) (Q : VK) (E : XK), Room k A → Env0 P w K mg base A outer s H → RelV va a → Vals zs ws → zs.length = ks.length →
    (∀ p, H p = none → sp [va, .ref p] (upd H p (.dK (kwV (ks.zip zs)))) Q E) → codeAny (model P w) A (.call (.ref f) ⟨[a], ks.zip ws⟩) (CR CX outer P w H s Q E) s
section
variable {CX : CXT} {P : Program} {w : World} {K : PySem.W.Frag} {mg : Str → Option Value} {base : Heap} {k : Nat} {f : Addr} {name qual pd p0 : Str} {params : Arguments} {body : List Stmt} {scope : Scope} {dV kV doc pm cdv ct oc : Value} {an od : Option Addr} {osl : Array (Option Value)} {N ks : List Str} {sp : Sp}
theorem map_zip_fst : ∀ {ks : List Str} {ws : List Value}, ws.length = ks.length → (ks.zip ws).map (·.1) = ks
  | [], _, _ => rfl
  | _ :: _, [], h => by cases h
  | k :: ks, _ :: ws, h => by
    show k :: (ks.zip ws).map (·.1) = k :: ks
    rw [map_zip_fst (Nat.succ.inj h)]
theorem fn_kwo (lk : K.lookup f = some ⟨oc, od, .func (PySem.W.fnOf name qual params body scope dV kV doc pm an cdv ct), osl⟩) (hcd : PySem.W.codeIn K cdv qual = true) (S : FnScope N [p0, pd] scope) (hCX : StX.CXUp CX) (hnd : ks.Nodup) (hsz : ks.length ≤ sizeLine)
    (hb : ∀ (a : Value) (ws : List Value), ws.length = ks.length → bindArgs (PySem.W.fnOf name qual params body scope dV kV doc pm an cdv ct) ⟨[a], ks.zip ws⟩ =
      (alloc ({ cls := .type "dict", data := .dict #[] } : Obj) : Sem Addr) >>= fun d => (forIn (ks.zip ws) PUnit.unit fun x _ => (nsSet d x.1 x.2 >>= fun _ => pure (ForInStep.yield PUnit.unit))) >>= fun _ => pure [(p0, a), (pd, Value.ref d)])
    (hbody : ∀ (A : Around) (outer : List Env) (s : Shared) (H : Hp) (vs : List V) (Q : VK) (E : XK), Room k (A.deeper (envOfC qual scope s.heap.objs.size f cdv)) → sp vs H Q E →
      ∃ t, PSs (cxOf CX P w K mg base N qual scope f cdv A outer s H E) body t ∧ t { nx := fun _ H' => Q .non H', rt := Q } (start N vs) H) :
    FnKw P w K mg base CX (k + 1) f ks sp := by
  intro A outer s H a va ws zs Q E hr e0 ra rz hzl hq
  have hn : H s.heap.objs.size = Option.none := e0.hok.fresh (Nat.le_refl _)
  have hwl : ws.length = ks.length := by rw [← rz.length]; exact hzl
  have hnd' : ((ks.zip ws).map (·.1)).Nodup := by rw [map_zip_fst hwl]; exact hnd
  refine StX.run_bnd (ps := [p0, pd]) lk hcd S hr e0 (G := fun xs H2 => ∃ p, H p = Option.none ∧ xs = [va, V.ref p] ∧ H2 = upd H p (.dK (kwV (ks.zip zs)))) (fun A' Ex Q' h => ?_) fun s2 H2 xs ⟨p, hp, ex, eH⟩ hr' => ?_
  · rw [hb a ws hwl]
    have g0 : (s.heap.push (PySem.W.dictOf [] 0)).get? s.heap.objs.size = some (PySem.W.dictOf [] 0) := Heap.get?_push_size _ rfl
    refine wpAny_bind (wpAny_alloc (wpAny_bind ?_))
    refine ns_fill (ks.zip ws) { s with heap := s.heap.push (PySem.W.dictOf [] 0) } [] 0 g0 (fun _ he => nomatch he) (fun _ he => nomatch he) hnd' fun h' D' kp => wpAny_pure ?_
    have kp2 : ∀ b u, s.heap.get? b = some u → h'.get? b = some u := fun b u q => kp b u (Nat.ne_of_lt (Heap.lt_size q)) (Heap.get?_push_of_some _ q)
    have new : ObjOk P w (upd H s.heap.objs.size (.dK (kwV (ks.zip zs)))) h' s.heap.objs.size (.dK (kwV (ks.zip zs))) := by
      refine ⟨?_, beq_eq_false_iff_ne.mpr (Ne.symm (Nat.ne_of_lt (StX.env0_big e0))), kwU (ks.zip ws), kw_kv rz, _, _, _, D', ⟨rfl, rfl, rfl⟩, rfl, kw_keys, kw_pairs _ _, kw_nd (ks := ks) hnd'⟩
      show ((ks.zip zs).map _).length ≤ sizeLine
      rw [List.length_map, List.length_zip]
      omega
    have un : Un (frs outer) [] H (upd H s.heap.objs.size (.dK (kwV (ks.zip zs)))) s.heap h' := Un.laid kp2 (Nat.le_refl _) hn
    have hlt : s.heap.objs.size < h'.objs.size := Heap.lt_size D'
    have e2 : Env0 P w K mg base A outer { s with heap := h', toks := s.toks + (ks.zip ws).length } (upd H s.heap.objs.size (.dK (kwV (ks.zip zs)))) := by
      refine ⟨e0.frames, e0.mod, fun b x e => ⟨kp2 b x (e0.bs b x e).1, ?_⟩, Nat.le_trans e0.bsz (Nat.le_of_lt hlt), Heap.FunFrames.of_keeps (fun b x e _ => ⟨x, kp2 b x e, rfl⟩) e0.funs, fun b hb => ?_, e0.hok.laid kp2 (Nat.le_refl _) new, e0.bare⟩
      · rw [upd_ne (Nat.ne_of_lt (Heap.lt_size (e0.bs b x e).1))]
        exact (e0.bs b x e).2
      · obtain ⟨_, x, hx, _⟩ := e0.funs.mem hb
        rw [upd_ne (Nat.ne_of_lt (Heap.lt_size hx))]
        exact e0.frf b hb
    exact h _ _ [va, V.ref s.heap.objs.size] [a, Value.ref s.heap.objs.size] e2 un rfl (fun e s' => hCX outer s H _ _ E e s' un kp2 rfl) (.cons ra (.cons rfl .nil)) rfl ⟨_, hn, rfl, rfl⟩
  · subst ex eH
    exact hbody A outer s2 _ _ Q E hr' (hq p hp)
end
/-- o.m(k = v, ..) of an instance of C -/
def tMethKw (C : Addr) (m : Str) (ks : List Str) (sp : Sp) (E : XK) (ta : TE) (tk : TA) : TE := fun σ H Q => ta σ H fun x H1 => ∃ a dx fs, x = .ref a ∧ H1 a = some (.ins C dx fs) ∧ fs.lookup m = none ∧
  tk σ H1 fun zs H2 => zs.length = ks.length ∧ ∀ p, H2 p = none → sp [x, .ref p] (upd H2 p (.dK (kwV (ks.zip zs)))) Q E
section
variable {X : Cx} {CX : CXT} {k : Nat} {f C : Addr} {ks : List Str} {sp : Sp} {E : XK} {m : Str} {o : Expr} {kws : List Keyword} {ta : TE} {tk : TA} {p pos apos : Pos} {pl : Sem Bool}
theorem pe_methKw (c : Cls X.K C) (km : Meth X.K C m f) (F : FnKw X.prog X.w X.K X.mg X.base CX k f ks sp) (hr : Room k X.A) (kp : PySem.W.keepIn X.K (.ref f) = true) (hx : Passes CX X E) (ho : PE X o ta) (hkw : PK X kws tk)
    (hall : (backToKw pos (keywordEach kws X.env)).all (·.1.isSome) = true := by rfl) (hks : (backToKw pos (keywordEach kws X.env)).filterMap (·.1) = ks := by rfl)
    (hpl : ((backTo pos (starEach [] X.env)).any (·.1) || (backToKw pos (keywordEach kws X.env)).any (·.1.isNone)) = false := by rfl)
    (he : eval (.Call (.Attribute o m apos) [] kws pos) X.env = (do
      let ov ← eval o X.env
      standAt apos.atName
      let (f, first) ← holding [ov] (getMethod ov m pl)
      callWith pos f first (backTo pos (starEach [] X.env)) (backToKw pos (keywordEach kws X.env))) := by rfl) :
    PE X (.Call (.Attribute o m apos) [] kws pos) (tMethKw C m ks sp E ta tk) := by
  refine ⟨fun pins s σ H Q I h => ?_⟩
  refine PySem.W.methodCall_KW (thn (ho.run pins s σ H _ I h) fun u s1 ⟨x, H1, I1, rx, a, dx, fs, ex, hi, hl, q⟩ => ?_) he
  subst ex
  obtain rfl : u = Value.ref a := rx
  refine getmeth_ok I1 hi c km hl ?_
  refine PySem.W.callWith_KW0 (h₀ := X.base) I1.ok.mod.kin kp hall (thn (hkw.run pos pins s1 σ H1 _ I1 q) fun ws s2 ⟨zs, H2, I2, rz, l2, q2⟩ => ⟨I2.kIn, ?_⟩) hpl
  rw [hks]
  refine wpAny_call (codeAny_mono (F X.A X.stack s2 H2 (.ref a) (.ref a) ws zs Q E hr I2.env0 rfl rz l2 q2) fun r s' hq => ?_)
  cases r with
  | error er => exact hx pins σ H2 s2 er s' I2 hq
  | ok fl =>
    cases fl with
    | ret u => exact I2.after hq
    | next => exact False.elim hq
    | brk => exact False.elim hq
    | cont => exact False.elim hq
end
end Own

namespace Own
open PySem L2
abbrev sBag : Stmt := topT 60
abbrev sDraw : Stmt := topT 61
abbrev sOf : Stmt := topT 62
abbrev sSame : Stmt := topT 63
/-! what stood stands, but at p -/
def But (p : Addr) (H H' : Hp) : Prop := ∀ b o, b ≠ p → H b = some o → H' b = some o
theorem But.refl (p : Addr) (H : Hp) : But p H H := fun _ _ _ e => e
theorem But.trans {p : Addr} {H H1 H2 : Hp} (a : But p H H1) (b : But p H1 H2) : But p H H2 := fun c o n e => b c o n (a c o n e)
theorem But.of {p : Addr} {H H' : Hp} (a : Same H H') : But p H H' := fun c o _ e => a c o e
theorem But.upd {p : Addr} {H H' : Hp} {o : HO} (a : But p H H') : But p H (upd H' p o) := fun c u n e => by
  rw [upd_ne n]; exact a c u n e
theorem _root_.L2.Same.new {H H' : Hp} {p : Addr} {o : HO} (a : Same H H') (h : H' p = none) : Same H (upd H' p o) := fun c u e => by
  rw [upd_ne (ne_of_none (a c u e) h)]; exact a c u e
theorem _root_.L2.Same.own {H H' : Hp} {p : Addr} {o : HO} (a : Same H H') (h : H p = none) : Same H (upd H' p o) := fun c u e => by
  rw [upd_ne (ne_of_none e h)]; exact a c u e
/-- a bag of draws stands at p, its cells at c -/
def BagC (H : Hp) (p c : Addr) : Prop := ∃ (cs : List Int) (i d m : Int), H p = some (.lst [.ref c, .int i, .int d, .int m]) ∧ H c = some (.lst (cs.map V.int)) ∧ 0 ≤ i ∧ cs.length ≤ 63
def Bag (H : Hp) (p : Addr) : Prop := ∃ c, BagC H p c
theorem BagC.keep {H H' : Hp} {p c : Addr} (b : BagC H p c) (hp : ∀ o, H p = some o → H' p = some o) (hc : ∀ o, H c = some o → H' c = some o) : BagC H' p c := by
  obtain ⟨cs, i, d, m, h1, h2, h3⟩ := b
  exact ⟨cs, i, d, m, hp _ h1, hc _ h2, h3⟩
theorem BagC.same {H H' : Hp} {p c : Addr} (b : BagC H p c) (e : Same H H') : BagC H' p c := b.keep (e p) (e c)
theorem BagC.new {H : Hp} {p c l : Addr} {o : HO} (b : BagC H p c) (h : H l = none) : BagC (upd H l o) p c := b.same ((Same.refl _).new h)
theorem BagC.upd {H : Hp} {p c l : Addr} {o : HO} (b : BagC H p c) (h1 : l ≠ p) (h2 : l ≠ c) : BagC (upd H l o) p c := b.keep (fun _ e => by rw [upd_ne (Ne.symm h1)]; exact e) fun _ e => by rw [upd_ne (Ne.symm h2)]; exact e
theorem BagC.ne {H : Hp} {p c l : Addr} (b : BagC H p c) (h : H l = none) : l ≠ p ∧ l ≠ c := by
  obtain ⟨cs, i, d, m, h1, h2, _⟩ := b
  exact ⟨Ne.symm (ne_of_none h1 h), Ne.symm (ne_of_none h2 h)⟩
def spBag (K : PySem.W.Frag) : Sp := fun vs H Q _ => ∃ (a : Addr) (ns : List Int), vs = [.ref a] ∧ SqL K H a (ns.map V.int) ∧ ns.length ≤ 63 ∧ ∀ H' p, Same H H' → H p = none → Bag H' p → Q (.ref p) H'
def spDraw : Sp := fun vs H Q _ => ∃ (p : Addr) (n : Int) (c : Addr), vs = [.ref p, .int n] ∧ BagC H p c ∧ 0 < n ∧ n.natAbs < 2 ^ 200 ∧ ∀ H' r, But p H H' → BagC H' p c → 0 ≤ r → r < n → Q (.int r) H'
def spOf (K : PySem.W.Frag) : Sp := fun vs H Q _ => ∃ (p l : Addr) (xs : List V) (c : Addr), vs = [.ref p, .ref l] ∧ BagC H p c ∧ SqL K H l xs ∧ l ≠ p ∧ xs ≠ [] ∧ xs.length ≤ 1000 ∧ ∀ H' x, But p H H' → BagC H' p c → x ∈ xs → Q x H'
theorem ints_get {ns : List Int} {i : Nat} {y : V} (hi : (ns.map V.int)[i]? = some y) : ∃ u, ns[i]? = some u ∧ y = V.int u := by
  rw [List.getElem?_map] at hi
  cases e : ns[i]? with
  | none => rw [e] at hi; cases hi
  | some u => rw [e] at hi; exact ⟨u, rfl, (Option.some.inj hi).symm⟩
theorem cut_ints (ns : List Int) (lo hi : Option Int) (h : ns.length ≤ 63) : ∃ cs : List Int, cutV (ns.map V.int) lo hi = cs.map V.int ∧ cs.length ≤ 63 := by
  unfold cutV
  rw [← List.map_drop, ← List.map_take]
  refine ⟨_, rfl, ?_⟩
  rw [List.length_take, List.length_drop]
  omega
section
variable {P : Program} {w : World} {K : PySem.W.Frag} {mg : Str → Option Value} {base : Heap}
theorem scBag : FnScope ["_law_script", "_law_cells", "_law_mark", "_law_cell"] ["_law_script"] (defScope sBag) := ⟨rfl, rfl, rfl, by decide +kernel, rfl, by decide +kernel, by decide +kernel⟩
theorem ok_bag {f : Addr} {fd : FuncData} (F : Fun K "_law_bag" "_law_bag" sBag f fd) (tLen : mg "len" = none) (tInt : mg "int" = none) : FnOk P w K mg base CX0 1 f fd ["_law_script"] (spBag K) := by
  refine F.ok scBag (fun vs H Q E h => ?_) (fun cdv A outer s H vs Q E hr h => ?_)
  · obtain ⟨a, ns, rfl, _⟩ := h
    rfl
  · obtain ⟨a, ns, rfl, hS, hlen, k⟩ := h
    refine ⟨_, pss_cons (ps_setLc (i := 1) (own := [("_law_cell", 3)]) (g := gName 3) (tt := tYes) rfl scBag.nd rfl rfl (sw_true rfl rfl rfl (by decide +kernel)) (pi_list (pe_slice sl_list (pv 0) po_none (po_some pe_int))) (blkOk_by (N := ["_law_script", "_law_cells", "_law_mark", "_law_cell"]) (sc := defScope sBag) (by decide +kernel)) (fun _ _ _ _ _ => pg_name (i := 3) scBag.nd rfl (Or.inl rfl)) (fun _ _ _ _ _ => pts_nil) (fun _ _ _ _ _ => pe_callTy call_int1 (by rfl) tInt (by decide +kernel) (pa_cons (pv 3) pa_nil)))
      (pss_cons (ps_set (i := 2) scBag.nd rfl (Or.inl rfl) (pe_op op_add pe_int (pe_op op_mul pe_int (pe_callB call_len_seq (by rfl) tLen PySem.boot_len (pa_cons (pv 1) pa_nil)))))
      (pss_cons (ps_for PassesOwn.never rfl (pi_list (pv 1)) (pg_name (i := 3) scBag.nd rfl (Or.inl rfl))
        (pss_one (ps_set (i := 2) scBag.nd rfl (Or.inl rfl) (pe_op op_mod (pe_callTy call_int1 (by rfl) tInt (by decide +kernel) (pa_cons (pe_op op_add (pe_op op_mul (pv 2) pe_int) (pv 3)) pa_nil)) pe_int))))
      (pss_one (ps_ret (pe_lst (pa_cons (pv 1) (pa_cons pe_int (pa_cons pe_int (pa_cons (pv 2) pa_nil))))))))), ?_⟩
    refine ⟨_, rfl, 63, rfl, a, _, rfl, hS, fun p hp => ?_⟩
    obtain ⟨cs, ecs, hcs⟩ := cut_ints ns none (some 63) hlen
    rw [ecs]
    have s1 : Same H (upd H p (.lst (cs.map V.int))) := (Same.refl H).new hp
    refine ⟨_, rfl, ⟨_, SqL.of upd_same⟩, fun D hD => lc_list (K := K) (a := p) (xs := cs.map V.int) (fun i H' => Same (upd H p (.lst (cs.map V.int))) H' ∧ H' D = some (.lst ((cs.map V.int).take i))) ⟨(Same.refl _).new hD, upd_same⟩ (fun i H' _ q => .inl (.inl (q.1 _ _ upd_same))) ?_ ?_⟩
    · intro i y H' hi q
      obtain ⟨u, hu, rfl⟩ := ints_get hi
      have hl : i < 63 := by
        have := (List.getElem?_eq_some_iff.mp hu).1
        omega
      refine ⟨rfl, ⟨_, rfl, .inl ⟨_, rfl, _, q.2, ?_, q.1.own hD, ?_⟩⟩⟩
      · rw [List.length_take]
        exact Nat.lt_of_le_of_lt (Nat.min_le_left _ _) (Nat.lt_trans hl (by decide))
      · rw [upd_same, List.take_add_one, hi]
        rfl
    · intro H1 q
      obtain ⟨q1, q2⟩ := q
      rw [List.take_length] at q2
      have s2 : Same H H1 := s1.trans q1
      have nD : H D = none := s1.free hD
      refine ⟨_, rfl, D, _, rfl, .inl (SqL.of q2), _, _, rfl, rfl, .inl ⟨by decide, by decide⟩, _, _, rfl, rfl, ?_⟩
      refine ⟨_, rfl, D, rfl, ⟨_, SqL.of q2⟩, for_list (K := K) (a := D) (xs := cs.map V.int) (fun i σ H' => ∃ (m : Int) (v : Option V), σ = [some (.ref a), some (.ref D), some (.int m), v] ∧ H' = H1) ⟨_, _, rfl, rfl⟩ ?_ ?_ ?_⟩
      · rintro i σ H' _ ⟨m, v, rfl, rfl⟩
        exact SqL.of q2
      · rintro i y σ H' hi ⟨m, v, rfl, rfl⟩
        obtain ⟨u, hu, rfl⟩ := ints_get hi
        exact ⟨_, rfl, _, _, rfl, rfl, .inr ⟨by decide, by decide⟩, _, rfl, _, _, rfl, rfl, .inl ⟨_, rfl, _, _, rfl, rfl, by show (0 : Int) < 2147483477; decide, _, _, rfl, rfl⟩⟩
      · rintro σ H' ⟨m, v, rfl, rfl⟩
        refine ⟨_, rfl, _, rfl, by show 4 ≤ sizeLine; decide, fun l hl => ?_⟩
        have nDl : D ≠ l := ne_of_none q2 hl
        exact k _ l (s2.new hl) (s2.free hl) ⟨D, cs, 0, 0, m, upd_same, by rw [upd_ne nDl]; exact q2, by decide, hcs⟩
theorem scDraw : FnScope ["_law_bag_here", "_law_many", "_law_cell", "_law_first", "_law_second", "_law_digit"] ["_law_bag_here", "_law_many"] (defScope sDraw) := ⟨rfl, rfl, rfl, by decide +kernel, rfl, by decide +kernel, by decide +kernel⟩
theorem atI_nat' {xs : List V} {i : Int} {j : Nat} {v : V} (e : i = (j : Int)) (h : xs[j]? = some v) : atI xs i = some v := at_of e h
theorem ok_draw {f : Addr} {fd : FuncData} (F : Fun K "_law_draw" "_law_draw" sDraw f fd) (tLen : mg "len" = none) (tInt : mg "int" = none) : FnOk P w K mg base CX0 1 f fd ["_law_bag_here", "_law_many"] spDraw := by
  refine F.ok scDraw (fun vs H Q E h => ?_) (fun cdv A outer s H vs Q E hr h => ?_)
  · obtain ⟨p, n, c, rfl, _⟩ := h
    rfl
  · obtain ⟨p, n, c, rfl, ⟨cs, i, d, m, hp, hc, hi, hcs⟩, hn, hn2, k⟩ := h
    have nd := scDraw.nd
    refine ⟨_, Evl.pss_cut (ps_if (pt_cmpR op_lt (pe_ix ix_list (pv 0) pe_int (fun _ _ => rfl)) pe_int (nomark _))
        (pss_cons (ps_asg (pe_op op_add (pe_ix ix_list (pv 0) pe_int (fun _ _ => rfl)) pe_int) (pg_sub (pv 0) pe_int set_list))
        (pss_cons (ps_set (i := 2) nd rfl (Or.inl rfl) (pe_op op_add (pe_ix ix_list (pv 0) pe_int (fun _ _ => rfl)) (pe_op op_mul (pe_ix ix_list (pv 0) pe_int (fun _ _ => rfl)) pe_int)))
        (Evl.pss_cut (ps_if (pt_cmpR op_le (pe_ix ix_list (pv 0) pe_int (fun _ _ => rfl)) (pe_callB call_len_seq (by rfl) tLen PySem.boot_len (pa_cons (pe_ix ix_list (pv 0) pe_int (fun _ _ => rfl)) pa_nil)) (nomark _))
          (pss_one (ps_set (i := 2) nd rfl (Or.inl rfl) (pe_ix ix_list (pe_ix ix_list (pv 0) pe_int (fun _ _ => rfl)) (pe_op op_sub (pe_ix ix_list (pv 0) pe_int (fun _ _ => rfl)) pe_int) (fun _ _ => rfl)))) pss_nil)
        (pss_cons (ps_if (PW.pt (pw_or (pt_cmpR op_gt (pe_ix ix_list (pv 0) pe_int (fun _ _ => rfl)) (pe_callB call_len_seq (by rfl) tLen PySem.boot_len (pa_cons (pe_ix ix_list (pv 0) pe_int (fun _ _ => rfl)) pa_nil)) (nomark _)) (pw_or1 (pt_cmpR op_lt (pv 2) (pe_op op_pow pe_int pe_int) (nomark _)))))
          (pss_cons (ps_set (i := 3) nd rfl (Or.inl rfl) (pe_op op_mod (pe_callTy call_int1 (by rfl) tInt (by decide +kernel) (pa_cons (pe_op op_add (pe_op op_add (pe_op op_mul (pv 2) pe_int) (pe_op op_mul (pe_ix ix_list (pv 0) pe_int (fun _ _ => rfl)) pe_int)) (pe_ix ix_list (pv 0) pe_int (fun _ _ => rfl))) pa_nil)) pe_int))
          (pss_cons (ps_set (i := 4) nd rfl (Or.inl rfl) (pe_op op_mod (pe_callTy call_int1 (by rfl) tInt (by decide +kernel) (pa_cons (pe_op op_add (pe_op op_mul (pv 3) (pv 3)) (pe_op op_mul (pe_ix ix_list (pv 0) pe_int (fun _ _ => rfl)) pe_int)) pa_nil)) pe_int))
          (pss_one (ps_ret (pe_op op_mod (pe_op op_fdiv (pe_op op_mod (pe_callTy call_int1 (by rfl) tInt (by decide +kernel) (pa_cons (pe_op op_add (pe_op op_mul (pv 4) pe_int) (pv 3)) pa_nil)) pe_int) pe_int) (pv 1)))))) pss_nil)
        (pss_one (ps_asg (pv 2) (pg_sub (pv 0) pe_int set_list))))))) pss_nil)
      (pss_cons (ps_set (i := 5) nd rfl (Or.inl rfl) (pe_op op_mod (pe_callTy call_int1 (by rfl) tInt (by decide +kernel) (pa_cons (pe_ix ix_list (pv 0) pe_int (fun _ _ => rfl)) pa_nil)) (pv 1)))
      (pss_cons (ps_asg (pe_op op_fdivW (pe_callTy call_int1 (by rfl) tInt (by decide +kernel) (pa_cons (pe_ix ix_list (pv 0) pe_int (fun _ _ => rfl)) pa_nil)) (pv 1)) (pg_sub (pv 0) pe_int set_list))
      (pss_one (ps_ret (pv 5))))), ?_⟩
    have ncp : c ≠ p := ne_of hc hp (fun z => by cases cs with | nil => cases z | cons x xs => cases z)
    have e18 : (10 : Int) ^ (18 : Int).toNat = 1000000000000000000 := by decide
    refine ⟨fun σ' H' => ∃ (x y z : Option V) (i' d' : Int), σ' = [some (.ref p), some (.int n), x, y, z, none] ∧ But p H H' ∧ H' p = some (.lst [.ref c, .int i', .int d', .int m]) ∧ 0 ≤ i', ?_, ?_⟩
    · refine ⟨_, rfl, p, _, _, _, rfl, rfl, SqL.of hp, rfl, _, _, rfl, rfl, _, rfl, ite2 (fun _ => ?_) (fun _ => ?_)⟩
      · refine ⟨_, rfl, p, _, _, _, rfl, rfl, SqL.of hp, rfl, _, _, rfl, rfl, _, rfl, p, _, _, 1, rfl, rfl, hp, rfl, ?_⟩
        have b1 : But p H (upd H p (.lst [.ref c, .int (i + 1), .int d, .int m])) := (But.refl p H).upd
        generalize hH : upd H p (.lst [.ref c, .int (i + 1), .int d, .int m]) = H1 at b1
        have hp1 : H1 p = some (.lst [.ref c, .int (i + 1), .int d, .int m]) := by rw [← hH]; exact upd_same
        have hc1 : H1 c = some (.lst (cs.map V.int)) := b1 c _ ncp hc
        show tSeq _ _ _ _ (upd H p (.lst [.ref c, .int (i + 1), .int d, .int m]))
        rw [hH]
        refine ⟨_, rfl, p, _, _, _, rfl, rfl, SqL.of hp1, rfl, _, rfl, p, _, _, _, rfl, rfl, SqL.of hp1, rfl, _, _, rfl, rfl, .inr ⟨by decide, by decide⟩, _, _, rfl, rfl, ?_⟩
        refine ⟨fun σ' H' => ∃ (x : Int), σ' = [some (.ref p), some (.int n), some (.int x), none, none, none] ∧ H' = H1, ?_, ?_⟩
        · refine ⟨_, rfl, p, _, _, _, rfl, rfl, SqL.of hp1, rfl, _, rfl, p, _, _, _, rfl, rfl, SqL.of hp1, rfl, c, _, rfl, .inl (SqL.of hc1), _, _, rfl, rfl, _, rfl, ite2 (fun hle => ?_) (fun _ => ⟨_, rfl, rfl⟩)⟩
          have hle := of_decide_eq_true hle
          rw [List.length_map] at hle
          have hlt : i.toNat < cs.length := by omega
          refine ⟨_, rfl, p, _, _, _, rfl, rfl, SqL.of hp1, rfl, _, rfl, p, _, _, _, rfl, rfl, SqL.of hp1, rfl, _, _, rfl, rfl, c, _, _, .int cs[i.toNat], rfl, rfl, SqL.of hc1, atI_nat' (j := i.toNat) (by omega) (by rw [List.getElem?_map, List.getElem?_eq_getElem hlt]; rfl), ?_⟩
          exact ⟨_, rfl, rfl⟩
        · rintro σ' H' ⟨x, rfl, rfl⟩
          refine ⟨_, rfl, p, _, _, _, rfl, rfl, SqL.of hp1, rfl, _, rfl, p, _, _, _, rfl, rfl, SqL.of hp1, rfl, c, _, rfl, .inl (SqL.of hc1), _, _, rfl, rfl, _, rfl, ite2 (fun _ => iteT ?_) (fun _ => ⟨_, rfl, _, _, rfl, rfl, ⟨by decide, by decide, by decide⟩, _, _, rfl, rfl, _, rfl, ite2 (fun _ => ?_) (fun _ => ?_)⟩)⟩
          iterate 2
            refine ⟨_, rfl, _, _, rfl, rfl, .inr ⟨by decide, by decide⟩, _, rfl, p, _, _, _, rfl, rfl, SqL.of hp1, rfl, _, _, rfl, rfl, .inr ⟨by decide, by decide⟩, _, _, rfl, rfl, _, rfl, p, _, _, _, rfl, rfl, SqL.of hp1, rfl, _, _, rfl, rfl, .inl ⟨_, rfl, _, _, rfl, rfl, by show (0 : Int) < 2147483629; decide, ?_⟩⟩
            generalize x * 42061 + (i + 1) * 37021 + m = y
            have y0 := Int.emod_nonneg y (show (2147483629 : Int) ≠ 0 by decide)
            have y1 := Int.emod_lt_of_pos y (show (0 : Int) < 2147483629 by decide)
            refine ⟨_, rfl, _, rfl, _, _, rfl, rfl, .inl ⟨by omega, by omega⟩, _, rfl, p, _, _, _, rfl, rfl, SqL.of hp1, rfl, _, _, rfl, rfl, .inr ⟨by decide, by decide⟩, _, _, rfl, rfl, .inl ⟨_, rfl, _, _, rfl, rfl, by show (0 : Int) < 998244353; decide, ?_⟩⟩
            refine ⟨_, rfl, _, _, rfl, rfl, .inr ⟨by decide, by decide⟩, _, rfl, _, _, rfl, rfl, .inl ⟨_, rfl, _, _, rfl, rfl, by show (0 : Int) < 2147483587; decide, _, _, rfl, rfl, ⟨by decide, by decide⟩, _, rfl, _, _, rfl, rfl, hn, ?_⟩⟩
            exact k _ _ b1 ⟨cs, _, _, _, hp1, hc1, by omega, hcs⟩ (Int.emod_nonneg _ (by omega)) (Int.emod_lt_of_pos _ hn)
          exact ⟨_, rfl, _, rfl, p, _, _, 2, rfl, rfl, hp1, rfl, _, _, _, i + 1, x, rfl, b1.upd, upd_same, by omega⟩
      · exact ⟨none, none, none, i, d, rfl, But.refl p H, hp, hi⟩
    · rintro σ' H' ⟨x, y, z, i', d', rfl, b1, hp1, hi1⟩
      refine ⟨_, rfl, p, _, _, _, rfl, rfl, SqL.of hp1, rfl, .inl ⟨_, rfl, _, rfl, _, _, rfl, rfl, hn, ?_⟩⟩
      refine ⟨_, rfl, p, _, _, _, rfl, rfl, SqL.of hp1, rfl, .inl ⟨_, rfl, _, rfl, _, _, rfl, rfl, wide_div hn hn2 (by decide) (by decide), _, rfl, p, _, _, 2, rfl, rfl, hp1, rfl, ?_⟩⟩
      exact ⟨_, rfl, k _ _ b1.upd ⟨cs, i', _, m, upd_same, by rw [upd_ne ncp]; exact b1 c _ ncp hc, hi1, hcs⟩ (Int.emod_nonneg _ (by omega)) (Int.emod_lt_of_pos _ hn)⟩
theorem but_seq {K : PySem.W.Frag} {H H' : Hp} {p a : Addr} {xs : List V} (e : But p H H') (n : a ≠ p) (h : SqL K H a xs) : SqL K H' a xs := by
  rcases h with (h | ⟨o, h⟩) | h
  · exact .inl (.inl (e _ _ n h))
  · exact .inl (.inr ⟨o, e _ _ n h⟩)
  · exact .inr h
theorem scOf : FnScope ["_law_bag_here", "_law_some"] ["_law_bag_here", "_law_some"] (defScope sOf) := ⟨rfl, rfl, rfl, by decide +kernel, rfl, by decide +kernel, by decide +kernel⟩
theorem ok_of {f fD : Addr} {fd fdD : FuncData} (F : Fun K "_law_of" "_law_of" sOf f fd) (G : FnOk P w K mg base CX0 1 fD fdD ["_law_bag_here", "_law_many"] spDraw) (mD : mg "_law_draw" = some (.ref fD)) (kD : PySem.W.keepIn K (.ref fD) = true) (bD : Binds K fdD ["_law_bag_here", "_law_many"] []) (tLen : mg "len" = none) : FnOk P w K mg base CX0 2 f fd ["_law_bag_here", "_law_some"] (spOf K) := by
  refine F.ok scOf (fun vs H Q E h => ?_) (fun cdv A outer s H vs Q E hr h => ?_)
  · obtain ⟨p, l, xs, c, rfl, _⟩ := h
    rfl
  · obtain ⟨p, l, xs, c, rfl, hb, hl, nlp, hx, hz, k⟩ := h
    refine ⟨_, pss_one (ps_ret (pe_ix ix_list (pv 1) (pe_call G hr rfl mD kD bD .nil pass0 (pa_cons (pv 0) (pa_cons (pe_callB call_len_seq (by rfl) tLen PySem.boot_len (pa_cons (pv 1) pa_nil)) pa_nil))) (fun _ _ => rfl))), ?_⟩
    have h0 : 0 < xs.length := List.length_pos_iff.mpr hx
    refine ⟨_, rfl, _, rfl, _, rfl, l, _, rfl, .inl hl, p, _, c, rfl, hb, by omega, ?_, fun H' r b1 b2 r0 r1 => ?_⟩
    · have : (2:Nat) ^ 200 > 1000 := by decide
      omega
    · have hr : r.toNat < xs.length := by omega
      exact ⟨l, xs, r, xs[r.toNat], rfl, rfl, but_seq b1 nlp hl, at_of (j := r.toNat) (by omega) (List.getElem?_eq_getElem hr), k _ _ b1 b2 (List.getElem_mem hr)⟩
/-! comprehensions over what is walked in a known number of turns -/
theorem lc_any {J : It} {n : Nat} {g : TG} {tt : TT} {te : TE} {vs : List Nat} {σ : L2.St} {H1 : Hp} {D : Addr} {Qd : Hp → Prop} (Pv : Nat → Hp → Prop) (h0 : Pv 0 (upd H1 D (.lst [])))
    (hs : ∀ i H, i < n → Pv i H → J.go i H ∧ ∀ x H', J.yld i H x H' → g x (wipe σ vs) H' fun σ2 H2 => wipe σ2 vs = wipe σ vs ∧ tt σ2 H2 fun b H3 => if b = true then te σ2 H3 fun y H4 => ∃ acc, H4 D = some (.lst acc) ∧ acc.length < sizeLine ∧ Pv (i + 1) (upd H4 D (.lst (acc ++ [y]))) else Pv (i + 1) H3)
    (hd : ∀ H, Pv n H → J.stop n H ∧ Qd H) : ∃ W : Nat → Nat → Hp → Prop, (∃ m, W 0 m (upd H1 D (.lst []))) ∧ ∀ i m H, W i m H → (J.stop i H ∧ Qd H) ∨ (J.go i H ∧ ∃ Nx : Hp → Prop, (∀ H', Nx H' → ∃ m', m' < m ∧ W (i + 1) m' H') ∧ ∀ x H', J.yld i H x H' → g x (wipe σ vs) H' fun σ2 H2 => wipe σ2 vs = wipe σ vs ∧ tt σ2 H2 fun b H3 =>
      if b = true then te σ2 H3 fun y H4 => ∃ acc, H4 D = some (.lst acc) ∧ acc.length < sizeLine ∧ Nx (upd H4 D (.lst (acc ++ [y]))) else Nx H3) := by
  refine ⟨fun i m H => m + i = n ∧ Pv i H, ⟨n, rfl, h0⟩, fun i m H ⟨e, p⟩ => ?_⟩
  rcases Nat.lt_or_ge i n with l | l
  · obtain ⟨q1, q2⟩ := hs i H l p
    exact .inr ⟨q1, Pv (i + 1), fun H' p' => ⟨n - (i + 1), by omega, by omega, p'⟩, q2⟩
  · obtain rfl : i = n := by omega
    exact .inl (hd H p)
theorem go_zipL {K : PySem.W.Frag} {a b : Addr} {xs ys : List V} {H : Hp} {i : Nat} (hl : xs.length = ys.length) (h : i < xs.length) (h1 : SqL K H a xs) (h2 : SqL K H b ys) : (Itz K a b).go i H ∧ ∀ v H', (Itz K a b).yld i H v H' → ∃ T x y, v = .ref T ∧ H T = none ∧ H' = upd H T (.tup [x, y]) ∧ xs[i]? = some x ∧ ys[i]? = some y :=
  ⟨⟨xs, ys, _, _, h1, h2, List.getElem?_eq_getElem h, List.getElem?_eq_getElem (hl ▸ h)⟩, fun v H' ⟨T, x, y, e1, hT, e2, f1, f2⟩ => ⟨T, x, y, e1, hT, e2, f1 _ h1, f2 _ h2⟩⟩
theorem go_zipT {K : PySem.W.Frag} {a b : Addr} {xs ys : List V} {H : Hp} {i : Nat} (hl : xs.length = ys.length) (h : i < xs.length) (h1 : SqT K H a xs) (h2 : SqT K H b ys) : (RZ.ItzT K a b).go i H ∧ ∀ v H', (RZ.ItzT K a b).yld i H v H' → ∃ T x y, v = .ref T ∧ H T = none ∧ H' = upd H T (.tup [x, y]) ∧ xs[i]? = some x ∧ ys[i]? = some y :=
  ⟨⟨xs, ys, _, _, h1, h2, List.getElem?_eq_getElem h, List.getElem?_eq_getElem (hl ▸ h)⟩, fun v H' ⟨T, x, y, e1, hT, e2, f1, f2⟩ => ⟨T, x, y, e1, hT, e2, f1 _ h1, f2 _ h2⟩⟩
/-! data, by depth -/
inductive Shal : Nat → PyData → Prop where
  | non {n} : Shal n .none
  | bl {n} (b : Bool) : Shal n (.bool b)
  | int {n} (i : Int) : Shal n (.int i)
  | str {n} (z : Str) : Shal n (.str z)
  | lst {n} {ds : List PyData} (h : ∀ d, d ∈ ds → Shal n d) (l : ds.length ≤ 1000) : Shal (n + 1) (.list ds)
  | tup {n} {ds : List PyData} (h : ∀ d, d ∈ ds → Shal n d) (l : ds.length ≤ 1000) : Shal (n + 1) (.tuple ds)
theorem same_t {K : PySem.W.Frag} {H H' : Hp} {a : Addr} {xs : List V} (e : Same H H') (h : SqT K H a xs) : SqT K H' a xs := by
  rcases h with (h | ⟨o, h⟩) | h
  · exact .inl (.inl (e _ _ h))
  · exact .inl (.inr ⟨o, e _ _ h⟩)
  · exact .inr h
mutual
theorem dp_same {K : PySem.W.Frag} {H H' : Hp} (e : Same H H') : ∀ (d : PyData) (v : V), Dp K H v d → Dp K H' v d
  | .none, v, h => by cases h; exact .non
  | .bool b, v, h => by cases h; exact .bl b
  | .int i, v, h => by cases h; exact .int i
  | .str z, v, h => by cases h; exact .str z
  | .list ds, v, h => by
    cases h with
    | lst h1 h2 => exact .lst (e.seq h1) (dpAll_same e ds _ h2)
  | .tuple ds, v, h => by
    cases h with
    | tup h1 h2 => exact .tup (same_t e h1) (dpAll_same e ds _ h2)
  | .dict kvs, v, h => by cases h
theorem dpAll_same {K : PySem.W.Frag} {H H' : Hp} (e : Same H H') : ∀ (ds : List PyData) (vs : List V), DpAll K H vs ds → DpAll K H' vs ds
  | [], vs, h => by cases h; exact .nil
  | d :: ds, vs, h => by
    cases h with
    | cons h1 h2 => exact .cons (dp_same e d _ h1) (dpAll_same e ds _ h2)
end
theorem dpAll_len {K : PySem.W.Frag} {H : Hp} : ∀ (ds : List PyData) (vs : List V), DpAll K H vs ds → vs.length = ds.length
  | [], vs, h => by cases h; rfl
  | d :: ds, vs, h => by
    cases h with
    | cons h1 h2 => rw [List.length_cons, List.length_cons, dpAll_len ds _ h2]
theorem dpAll_get {K : PySem.W.Frag} {H : Hp} : ∀ (ds : List PyData) (vs : List V) (i : Nat) (v : V), DpAll K H vs ds → vs[i]? = some v → ∃ d, ds[i]? = some d ∧ Dp K H v d
  | [], vs, i, v, h, e => by cases h; cases e
  | d :: ds, vs, 0, v, h, e => by
    cases h with
    | cons h1 h2 => cases e; exact ⟨d, rfl, h1⟩
  | d :: ds, vs, i + 1, v, h, e => by
    cases h with
    | cons h1 h2 => exact dpAll_get ds _ i v h2 e
theorem sqL_ty {K : PySem.W.Frag} {H : Hp} {a : Addr} {xs : List V} (h : SqL K H a xs) : TyX K H (.ref a) (.type "list") := by
  rcases h with (h | ⟨o, h⟩) | ⟨o, its, n, h, hc, _⟩
  · exact .base (.lst h)
  · exact .base (.frz h)
  · exact .kList h hc
theorem sqT_ty {K : PySem.W.Frag} {H : Hp} {a : Addr} {xs : List V} (h : SqT K H a xs) : TyX K H (.ref a) (.type "tuple") := by
  rcases h with (h | ⟨o, h⟩) | ⟨o, its, n, h, hc, _⟩
  · exact .base (.tup h)
  · exact .fTuple h
  · exact .kTuple h hc
def spSame (K : PySem.W.Frag) (n : Nat) : Sp := fun vs H Q _ => ∃ (x y : V) (d : PyData) (m : Nat), vs = [x, y] ∧ Dp K H x d ∧ Dp K H y d ∧ n = m + 1 ∧ Shal m d ∧ ∀ H', Same H H' → Q (.bl true) H'
/-- what the laws ask of the built-in names -/
structure Blt (mg : Str → Option Value) : Prop where
  len : mg "len" = none
  int : mg "int" = none
  isi : mg "isinstance" = none
  bool : mg "bool" = none
  str : mg "str" = none
  list : mg "list" = none
  tuple : mg "tuple" = none
  all : mg "all" = none
  zip : mg "zip" = none
theorem scSame : FnScope ["_law_found", "_law_due", "_law_one", "_law_two"] ["_law_found", "_law_due"] (defScope sSame) := ⟨rfl, rfl, rfl, by decide +kernel, rfl, by decide +kernel, by decide +kernel⟩
theorem ok_same_step {n : Nat} {f : Addr} {fd : FuncData} (F : Fun K "_law_same" "_law_same" sSame f fd) (G : FnOk P w K mg base CX0 n f fd ["_law_found", "_law_due"] (spSame K n)) (mS : mg "_law_same" = some (.ref f)) (bS : Binds K fd ["_law_found", "_law_due"] []) (B : Blt mg) :
    FnOk P w K mg base CX0 (n + 1) f fd ["_law_found", "_law_due"] (spSame K (n + 1)) := by
  refine F.ok scSame (fun vs H Q E h => ?_) (fun cdv A outer s H vs Q E hr h => ?_)
  · obtain ⟨x, y, d, m, rfl, _⟩ := h
    rfl
  · obtain ⟨x, y, d, m, rfl, hx, hy, hnm, hs, k⟩ := h
    obtain rfl : n = m := Nat.succ.inj hnm
    refine ⟨_, pss_cons (ps_if (pt_cmp (pc_isN (pv 1))) (pss_one (ps_ret (pe_cmp (pc_isN (pv 0)) rfl))) pss_nil)
      (pss_cons (ps_if (PW.pt (pw_or (pt_val (pe_callB call_isi (by rfl) B.isi (by decide +kernel) (pa_cons (pv 1) (pa_cons (pe_bltn (v := .ty "bool") (by rfl) B.bool (by decide +kernel) rfl) pa_nil)))) (pw_or1 (pt_val (pe_callB call_isi (by rfl) B.isi (by decide +kernel) (pa_cons (pv 0) (pa_cons (pe_bltn (v := .ty "bool") (by rfl) B.bool (by decide +kernel) rfl) pa_nil)))))))
        (pss_one (ps_ret (pe_and (pe_callB call_isi (by rfl) B.isi (by decide +kernel) (pa_cons (pv 1) (pa_cons (pe_bltn (v := .ty "bool") (by rfl) B.bool (by decide +kernel) rfl) pa_nil))) (pe_and (pe_callB call_isi (by rfl) B.isi (by decide +kernel) (pa_cons (pv 0) (pa_cons (pe_bltn (v := .ty "bool") (by rfl) B.bool (by decide +kernel) rfl) pa_nil))) (pe_one (pe_cmpR op_eq (pv 0) (pv 1) (nomark _))))))) pss_nil)
      (pss_cons (ps_if (pt_val (pe_callB call_isiT (by rfl) B.isi (by decide +kernel) (pa_cons (pv 1) (pa_cons (pe_tup (pa_cons (pe_bltn (v := .ty "int") (by rfl) B.int (by decide +kernel) rfl) (pa_cons (pe_bltn (v := .ty "str") (by rfl) B.str (by decide +kernel) rfl) pa_nil))) pa_nil))))
        (pss_one (ps_ret (pe_and (pe_callB call_isiT (by rfl) B.isi (by decide +kernel) (pa_cons (pv 0) (pa_cons (pe_tup (pa_cons (pe_bltn (v := .ty "int") (by rfl) B.int (by decide +kernel) rfl) (pa_cons (pe_bltn (v := .ty "str") (by rfl) B.str (by decide +kernel) rfl) pa_nil))) pa_nil)))
          (pe_and (pe_cmpR op_eq (pe_callB call_isi (by rfl) B.isi (by decide +kernel) (pa_cons (pv 0) (pa_cons (pe_bltn (v := .ty "int") (by rfl) B.int (by decide +kernel) rfl) pa_nil))) (pe_callB call_isi (by rfl) B.isi (by decide +kernel) (pa_cons (pv 1) (pa_cons (pe_bltn (v := .ty "int") (by rfl) B.int (by decide +kernel) rfl) pa_nil))) (nomark _)) (pe_one (pe_cmpR op_eq (pv 0) (pv 1) (nomark _))))))) pss_nil)
      (pss_cons (ps_if (PW.pt (pw_or (pt_cmpR op_ne (pe_callB call_isi (by rfl) B.isi (by decide +kernel) (pa_cons (pv 1) (pa_cons (pe_bltn (v := .ty "list") (by rfl) B.list (by decide +kernel) rfl) pa_nil))) (pe_callB call_isi (by rfl) B.isi (by decide +kernel) (pa_cons (pv 0) (pa_cons (pe_bltn (v := .ty "list") (by rfl) B.list (by decide +kernel) rfl) pa_nil))) (nomark _)) (pw_or1 (pt_cmpR op_ne (pe_callB call_isi (by rfl) B.isi (by decide +kernel) (pa_cons (pv 1) (pa_cons (pe_bltn (v := .ty "tuple") (by rfl) B.tuple (by decide +kernel) rfl) pa_nil))) (pe_callB call_isi (by rfl) B.isi (by decide +kernel) (pa_cons (pv 0) (pa_cons (pe_bltn (v := .ty "tuple") (by rfl) B.tuple (by decide +kernel) rfl) pa_nil))) (nomark _)))))
        (pss_one (ps_ret pe_bl)) pss_nil)
      (pss_one (ps_ret (pe_and (pe_cmpR op_eq (pe_callB call_len_seq (by rfl) B.len PySem.boot_len (pa_cons (pv 0) pa_nil)) (pe_callB call_len_seq (by rfl) B.len PySem.boot_len (pa_cons (pv 1) pa_nil)) (nomark _))
        (pe_one (pe_callB (cr_all rfl) (by rfl) B.all (by decide +kernel) (pa_cons
          (pe_lc (own := [("_law_one", 2), ("_law_two", 3)]) (g := gTup K 2 (gCons (gName 2) (gCons (gName 3) gNil))) (tt := tYes) rfl scSame.nd (RZ.pi_zipA (by rfl) B.zip (pa_cons (pv 0) (pa_cons (pv 1) pa_nil))) (blkOk_by (N := ["_law_found", "_law_due", "_law_one", "_law_two"]) (sc := defScope sSame) (by decide +kernel))
            (fun _ _ _ _ _ => pg_tup rfl (pgs_cons (pg_name (i := 2) scSame.nd rfl (.inl rfl) (hf := Or.inr rfl)) (pgs_cons (pg_name (i := 3) scSame.nd rfl (.inl rfl) (hf := Or.inr rfl)) pgs_nil))) (fun _ _ _ _ _ => pts_nil) (fun _ _ _ _ _ => pe_call G (hr.mono (by omega)) rfl mS F.kp bS .nil pass0 (pa_cons (pv 2) (pa_cons (pv 3) pa_nil)))) pa_nil))))))))), ?_⟩
    cases hs with
    | non =>
      cases hx; cases hy
      exact ⟨_, rfl, true, rfl, iteT ⟨_, rfl, k _ (Same.refl _)⟩⟩
    | bl b =>
      cases hx; cases hy
      refine ⟨_, rfl, false, rfl, iteF ?_⟩
      refine ⟨_, rfl, _, _, .type "bool", .type "bool", true, rfl, .ty _, .base (.bl b), kit_ty (by decide +kernel), true, rfl, iteT (iteT ?_)⟩
      refine ⟨_, rfl, _, _, .type "bool", .type "bool", true, rfl, .ty _, .base (.bl b), kit_ty (by decide +kernel), true, rfl, iteT ?_⟩
      refine ⟨_, rfl, _, _, .type "bool", .type "bool", true, rfl, .ty _, .base (.bl b), kit_ty (by decide +kernel), true, rfl, iteT ?_⟩
      refine ⟨_, rfl, _, rfl, rfl, ?_⟩
      rw [decide_eq_true rfl]
      exact k _ (Same.refl _)
    | int i =>
      cases hx; cases hy
      refine ⟨_, rfl, false, rfl, iteF ?_⟩
      refine ⟨_, rfl, _, _, .type "int", .type "bool", false, rfl, .ty _, .base (.int i), kit_ty (by decide +kernel), false, rfl, iteF ?_⟩
      refine ⟨_, rfl, _, _, .type "int", .type "bool", false, rfl, .ty _, .base (.int i), kit_ty (by decide +kernel), false, rfl, iteF ?_⟩
      refine ⟨_, rfl, by show 2 ≤ sizeLine; decide, fun t ht => ⟨_, t, _, .type "int", [.type "int", .type "str"], true, rfl, upd_same, .cons (.ty _) (.cons (.ty _) .nil), .base (.int i), kitAny_cons (b := true) (kit_ty (by decide +kernel)) (fun z => nomatch z) (fun _ => rfl), true, rfl, iteT ?_⟩⟩
      refine ⟨_, rfl, by show 2 ≤ sizeLine; decide, fun u hu => ⟨_, u, _, .type "int", [.type "int", .type "str"], true, rfl, upd_same, .cons (.ty _) (.cons (.ty _) .nil), .base (.int i), kitAny_cons (b := true) (kit_ty (by decide +kernel)) (fun z => nomatch z) (fun _ => rfl), true, rfl, iteT ?_⟩⟩
      refine ⟨_, rfl, _, _, .type "int", .type "int", true, rfl, .ty _, .base (.int i), kit_ty (by decide +kernel), ?_⟩
      refine ⟨_, rfl, _, _, .type "int", .type "int", true, rfl, .ty _, .base (.int i), kit_ty (by decide +kernel), rfl, true, rfl, iteT ?_⟩
      refine ⟨_, rfl, _, rfl, rfl, ?_⟩
      rw [decide_eq_true rfl]
      exact k _ (((Same.refl _).new ht).new hu)
    | str z =>
      cases hx; cases hy
      refine ⟨_, rfl, false, rfl, iteF ?_⟩
      refine ⟨_, rfl, _, _, .type "str", .type "bool", false, rfl, .ty _, .base (.str z), kit_ty (by decide +kernel), false, rfl, iteF ?_⟩
      refine ⟨_, rfl, _, _, .type "str", .type "bool", false, rfl, .ty _, .base (.str z), kit_ty (by decide +kernel), false, rfl, iteF ?_⟩
      refine ⟨_, rfl, by show 2 ≤ sizeLine; decide, fun t ht => ⟨_, t, _, .type "str", [.type "int", .type "str"], true, rfl, upd_same, .cons (.ty _) (.cons (.ty _) .nil), .base (.str z), kitAny_cons (b := false) (kit_ty (by decide +kernel)) (fun _ => kitAny_cons (b := true) (kit_ty (by decide +kernel)) (fun z => nomatch z) (fun _ => rfl)) (fun z => nomatch z), true, rfl, iteT ?_⟩⟩
      refine ⟨_, rfl, by show 2 ≤ sizeLine; decide, fun u hu => ⟨_, u, _, .type "str", [.type "int", .type "str"], true, rfl, upd_same, .cons (.ty _) (.cons (.ty _) .nil), .base (.str z), kitAny_cons (b := false) (kit_ty (by decide +kernel)) (fun _ => kitAny_cons (b := true) (kit_ty (by decide +kernel)) (fun z => nomatch z) (fun _ => rfl)) (fun z => nomatch z), true, rfl, iteT ?_⟩⟩
      refine ⟨_, rfl, _, _, .type "str", .type "int", false, rfl, .ty _, .base (.str z), kit_ty (by decide +kernel), ?_⟩
      refine ⟨_, rfl, _, _, .type "str", .type "int", false, rfl, .ty _, .base (.str z), kit_ty (by decide +kernel), rfl, true, rfl, iteT ?_⟩
      refine ⟨_, rfl, _, rfl, rfl, ?_⟩
      rw [decide_eq_true rfl]
      exact k _ (((Same.refl _).new ht).new hu)
    | lst h l =>
      cases hx with
      | lst h1 h2 =>
      cases hy with
      | lst h3 h4 =>
      rename_i ds a xs b ys
      have ex := dpAll_len _ _ h2
      have ey := dpAll_len _ _ h4
      refine ⟨_, rfl, false, rfl, iteF ?_⟩
      refine ⟨_, rfl, _, _, .type "list", .type "bool", false, rfl, .ty _, sqL_ty h3, kit_ty (by decide +kernel), false, rfl, iteF ?_⟩
      refine ⟨_, rfl, _, _, .type "list", .type "bool", false, rfl, .ty _, sqL_ty h1, kit_ty (by decide +kernel), false, rfl, iteF ?_⟩
      refine ⟨_, rfl, by show 2 ≤ sizeLine; decide, fun t ht => ⟨_, t, _, .type "list", [.type "int", .type "str"], false, rfl, upd_same, .cons (.ty _) (.cons (.ty _) .nil), sqL_ty (((Same.refl _).new ht).seq h3), kitAny_cons (b := false) (kit_ty (by decide +kernel)) (fun _ => kitAny_cons (b := false) (kit_ty (by decide +kernel)) (fun _ => rfl) (fun z => nomatch z)) (fun z => nomatch z), false, rfl, iteF ?_⟩⟩
      have s1 : Same H (upd H t (.tup [.ty "int", .ty "str"])) := (Same.refl _).new ht
      have k : ∀ H', Same (upd H t (.tup [.ty "int", .ty "str"])) H' → Q (.bl true) H' := fun H' e => k H' (s1.trans e)
      have h2 := dpAll_same s1 _ _ h2
      have h4 := dpAll_same s1 _ _ h4
      have h1 := s1.seq h1
      have h3 := s1.seq h3
      generalize upd H t (.tup [.ty "int", .ty "str"]) = H1 at h1 h2 h3 h4 k ⊢
      refine ⟨_, rfl, _, _, .type "list", .type "list", true, rfl, .ty _, sqL_ty h3, kit_ty (by decide +kernel), ?_⟩
      refine ⟨_, rfl, _, _, .type "list", .type "list", true, rfl, .ty _, sqL_ty h1, kit_ty (by decide +kernel), rfl, false, rfl, iteF ?_⟩
      refine ⟨_, rfl, _, _, .type "list", .type "tuple", false, rfl, .ty _, sqL_ty h3, kit_ty (by decide +kernel), ?_⟩
      refine ⟨_, rfl, _, _, .type "list", .type "tuple", false, rfl, .ty _, sqL_ty h1, kit_ty (by decide +kernel), rfl, false, rfl, iteF ?_⟩
      refine ⟨_, rfl, a, xs, rfl, .inl h1, _, rfl, b, ys, rfl, .inl h3, rfl, true, by rw [ex, ey]; exact congrArg V.bl (decide_eq_true rfl), iteT ?_⟩
      refine ⟨_, rfl, _, rfl, a, b, xs, ys, rfl, .inl ⟨h1, h3, fun D hD => lc_any (n := xs.length) (fun i H' => Same H1 H' ∧ H' D = some (.lst ((List.replicate i true).map V.bl))) ⟨(Same.refl _).new hD, upd_same⟩ ?_ ?_⟩⟩
      · intro i H' hix q
        refine ⟨(go_zipL (by rw [ex, ey]) hix ((q.1).seq h1) ((q.1).seq h3)).1, fun v Hv yv => ?_⟩
        obtain ⟨T, x, y, rfl, hT, rfl, hx, hy⟩ := (go_zipL (by rw [ex, ey]) hix ((q.1).seq h1) ((q.1).seq h3)).2 v Hv yv
        obtain ⟨d, hd, dx⟩ := dpAll_get _ _ _ _ h2 hx
        obtain ⟨d', hd', dy⟩ := dpAll_get _ _ _ _ h4 hy
        cases hd.symm.trans hd'
        have hi : i < ds.length := (List.getElem?_eq_some_iff.mp hd).1
        have hsd := h d (List.mem_of_getElem? hd)
        have nD : D ≠ T := ne_of_none q.2 hT
        refine ⟨T, _, rfl, .inl (.inl upd_same), rfl, x, [y], rfl, y, [], rfl, rfl, rfl, ?_⟩
        have sT : Same H' (upd H' T (.tup [x, y])) := (Same.refl _).new hT
        refine ⟨_, rfl, _, rfl, x, y, d, _, rfl, dp_same (q.1.trans sT) _ _ dx, dp_same (q.1.trans sT) _ _ dy, rfl, hsd, fun H2 e2 => ⟨_, e2 _ _ (sT _ _ q.2), ?_, ((q.1.trans sT).trans e2).own hD, ?_⟩⟩
        · rw [List.length_map, List.length_replicate]
          exact Nat.lt_of_lt_of_le (Nat.lt_of_lt_of_le hi l) (by decide)
        · rw [upd_same, List.replicate_succ', List.map_append]
          rfl
      · intro H' q
        refine ⟨⟨xs, ys, (q.1).seq h1, (q.1).seq h3, .inl (Nat.le_refl _)⟩, ?_⟩
        refine ⟨D, _, rfl, SqL.of q.2, ?_⟩
        have e : (List.replicate xs.length true).all id = true := by
          rw [List.all_eq_true]
          intro z hz
          rw [List.eq_of_mem_replicate hz]
          rfl
        show Q (.bl ((List.replicate xs.length true).all id)) H'
        rw [e]
        exact k _ q.1
    | tup h l =>
      cases hx with
      | tup h1 h2 =>
      cases hy with
      | tup h3 h4 =>
      rename_i ds a xs b ys
      have ex := dpAll_len _ _ h2
      have ey := dpAll_len _ _ h4
      refine ⟨_, rfl, false, rfl, iteF ?_⟩
      refine ⟨_, rfl, _, _, .type "tuple", .type "bool", false, rfl, .ty _, sqT_ty h3, kit_ty (by decide +kernel), false, rfl, iteF ?_⟩
      refine ⟨_, rfl, _, _, .type "tuple", .type "bool", false, rfl, .ty _, sqT_ty h1, kit_ty (by decide +kernel), false, rfl, iteF ?_⟩
      refine ⟨_, rfl, by show 2 ≤ sizeLine; decide, fun t ht => ⟨_, t, _, .type "tuple", [.type "int", .type "str"], false, rfl, upd_same, .cons (.ty _) (.cons (.ty _) .nil), sqT_ty (same_t ((Same.refl _).new ht) h3), kitAny_cons (b := false) (kit_ty (by decide +kernel)) (fun _ => kitAny_cons (b := false) (kit_ty (by decide +kernel)) (fun _ => rfl) (fun z => nomatch z)) (fun z => nomatch z), false, rfl, iteF ?_⟩⟩
      have s1 : Same H (upd H t (.tup [.ty "int", .ty "str"])) := (Same.refl _).new ht
      have k : ∀ H', Same (upd H t (.tup [.ty "int", .ty "str"])) H' → Q (.bl true) H' := fun H' e => k H' (s1.trans e)
      have h2 := dpAll_same s1 _ _ h2
      have h4 := dpAll_same s1 _ _ h4
      have h1 := same_t s1 h1
      have h3 := same_t s1 h3
      generalize upd H t (.tup [.ty "int", .ty "str"]) = H1 at h1 h2 h3 h4 k ⊢
      refine ⟨_, rfl, _, _, .type "tuple", .type "list", false, rfl, .ty _, sqT_ty h3, kit_ty (by decide +kernel), ?_⟩
      refine ⟨_, rfl, _, _, .type "tuple", .type "list", false, rfl, .ty _, sqT_ty h1, kit_ty (by decide +kernel), rfl, false, rfl, iteF ?_⟩
      refine ⟨_, rfl, _, _, .type "tuple", .type "tuple", true, rfl, .ty _, sqT_ty h3, kit_ty (by decide +kernel), ?_⟩
      refine ⟨_, rfl, _, _, .type "tuple", .type "tuple", true, rfl, .ty _, sqT_ty h1, kit_ty (by decide +kernel), rfl, false, rfl, iteF ?_⟩
      refine ⟨_, rfl, a, xs, rfl, .inr h1, _, rfl, b, ys, rfl, .inr h3, rfl, true, by rw [ex, ey]; exact congrArg V.bl (decide_eq_true rfl), iteT ?_⟩
      refine ⟨_, rfl, _, rfl, a, b, xs, ys, rfl, .inr ⟨h1, h3, fun D hD => lc_any (n := xs.length) (fun i H' => Same H1 H' ∧ H' D = some (.lst ((List.replicate i true).map V.bl))) ⟨(Same.refl _).new hD, upd_same⟩ ?_ ?_⟩⟩
      · intro i H' hix q
        refine ⟨(go_zipT (by rw [ex, ey]) hix (same_t (q.1) h1) (same_t (q.1) h3)).1, fun v Hv yv => ?_⟩
        obtain ⟨T, x, y, rfl, hT, rfl, hx, hy⟩ := (go_zipT (by rw [ex, ey]) hix (same_t (q.1) h1) (same_t (q.1) h3)).2 v Hv yv
        obtain ⟨d, hd, dx⟩ := dpAll_get _ _ _ _ h2 hx
        obtain ⟨d', hd', dy⟩ := dpAll_get _ _ _ _ h4 hy
        cases hd.symm.trans hd'
        have hi : i < ds.length := (List.getElem?_eq_some_iff.mp hd).1
        have hsd := h d (List.mem_of_getElem? hd)
        have nD : D ≠ T := ne_of_none q.2 hT
        refine ⟨T, _, rfl, .inl (.inl upd_same), rfl, x, [y], rfl, y, [], rfl, rfl, rfl, ?_⟩
        have sT : Same H' (upd H' T (.tup [x, y])) := (Same.refl _).new hT
        refine ⟨_, rfl, _, rfl, x, y, d, _, rfl, dp_same (q.1.trans sT) _ _ dx, dp_same (q.1.trans sT) _ _ dy, rfl, hsd, fun H2 e2 => ⟨_, e2 _ _ (sT _ _ q.2), ?_, ((q.1.trans sT).trans e2).own hD, ?_⟩⟩
        · rw [List.length_map, List.length_replicate]
          exact Nat.lt_of_lt_of_le (Nat.lt_of_lt_of_le hi l) (by decide)
        · rw [upd_same, List.replicate_succ', List.map_append]
          rfl
      · intro H' q
        refine ⟨⟨xs, ys, same_t (q.1) h1, same_t (q.1) h3, .inl (Nat.le_refl _)⟩, ?_⟩
        refine ⟨D, _, rfl, SqL.of q.2, ?_⟩
        have e : (List.replicate xs.length true).all id = true := by
          rw [List.all_eq_true]
          intro z hz
          rw [List.eq_of_mem_replicate hz]
          rfl
        show Q (.bl ((List.replicate xs.length true).all id)) H'
        rw [e]
        exact k _ q.1
theorem ok_same {f : Addr} {fd : FuncData} (F : Fun K "_law_same" "_law_same" sSame f fd) (mS : mg "_law_same" = some (.ref f)) (bS : Binds K fd ["_law_found", "_law_due"] []) (B : Blt mg) : ∀ n, FnOk P w K mg base CX0 n f fd ["_law_found", "_law_due"] (spSame K n)
  | 0 => by
    have no : ∀ vs H Q E, ¬ spSame K 0 vs H Q E := fun vs H Q E ⟨x, y, d, m, _, _, _, h, _⟩ => by omega
    exact ⟨fun vs H Q E h => absurd h (no vs H Q E), fun A outer s H args us vs Q E _ _ _ _ h => absurd h (no vs H Q E)⟩
  | n + 1 => ok_same_step F (ok_same F mS bS B n) mS bS B
end
end Own

namespace Own
open PySem L2
abbrev sCopied : Stmt := topT 3
/-! what stands in H' and not in H; without D -/
def newr (H H' : Hp) : Hp := fun b => match H b with | none => H' b | some _ => none
def cut (D : Addr) (G : Hp) : Hp := fun b => if b = D then none else G b
theorem newr_at {H H' : Hp} {b : Addr} (h : H b = none) : newr H H' b = H' b := by unfold newr; rw [h]
theorem newr_some {H H' : Hp} {b : Addr} {o : HO} (h : newr H H' b = some o) : H b = none ∧ H' b = some o := by
  unfold newr at h
  cases e : H b with
  | none => rw [e] at h; exact ⟨rfl, h⟩
  | some u => rw [e] at h; cases h
theorem newr_mono {H H1 H2 : Hp} (e : Same H1 H2) : Same (newr H H1) (newr H H2) := fun b o h => by
  obtain ⟨h1, h2⟩ := newr_some h
  rw [newr_at h1]; exact e _ _ h2
theorem newr_old {H H1 H2 : Hp} (e : Same H H1) : Same (newr H1 H2) (newr H H2) := fun b o h => by
  obtain ⟨h1, h2⟩ := newr_some h
  rw [newr_at (e.free h1)]; exact h2
theorem newr_in {H H' : Hp} : Same (newr H H') H' := fun _ _ h => (newr_some h).2
theorem cut_in {D : Addr} {G : Hp} : Same (cut D G) G := fun b o h => by
  unfold cut at h
  split at h
  · cases h
  · exact h
theorem cut_mono {D : Addr} {G G' : Hp} (e : Same G G') : Same (cut D G) (cut D G') := fun b o h => by
  unfold cut at h ⊢
  split at h
  · cases h
  · rename_i n; rw [if_neg n]; exact e _ _ h
theorem cut_step {H H3 H4 : Hp} {D : Addr} {o : HO} (e : Same H H3) (hD : H3 D = some o) : Same (newr H3 H4) (cut D (newr H H4)) := fun b u h => by
  obtain ⟨h1, h2⟩ := newr_some h
  unfold cut
  rw [if_neg (fun z => by rw [z, hD] at h1; cases h1), newr_at (e.free h1)]
  exact h2
theorem cut_upd {H H4 : Hp} {D : Addr} {o : HO} : Same (cut D (newr H H4)) (cut D (newr H (upd H4 D o))) := fun b u h => by
  unfold cut at h ⊢
  split at h
  · cases h
  · rename_i n
    obtain ⟨h1, h2⟩ := newr_some h
    rw [if_neg n, newr_at h1, upd_ne n]; exact h2
theorem dpAll_snoc {K : PySem.W.Frag} {H : Hp} {d : PyData} {v : V} : ∀ (ds : List PyData) (vs : List V), DpAll K H vs ds → Dp K H v d → DpAll K H (vs ++ [v]) (ds ++ [d])
  | [], vs, h, k => by cases h; exact .cons k .nil
  | e :: ds, vs, h, k => by
    cases h with
    | cons h1 h2 => exact .cons h1 (dpAll_snoc ds _ h2 k)
def spCopied (K : PySem.W.Frag) (n : Nat) : Sp := fun vs H Q _ => ∃ (x : V) (d : PyData) (m : Nat), vs = [x] ∧ Dp K H x d ∧ n = m + 1 ∧ Shal m d ∧ ∀ H' y, Same H H' → Dp K (newr H H') y d → Q y H'
section
variable {P : Program} {w : World} {K : PySem.W.Frag} {mg : Str → Option Value} {base : Heap}
theorem scCopied : FnScope ["value", "item"] ["value"] (defScope sCopied) := ⟨rfl, rfl, rfl, by decide +kernel, rfl, by decide +kernel, by decide +kernel⟩
theorem ok_copied_step {n : Nat} {f : Addr} {fd : FuncData} (F : Fun K "copied" "copied" sCopied f fd) (G : FnOk P w K mg base CX0 n f fd ["value"] (spCopied K n)) (mC : mg "copied" = some (.ref f)) (bC : Binds K fd ["value"] []) (B : Blt mg) :
    FnOk P w K mg base CX0 (n + 1) f fd ["value"] (spCopied K (n + 1)) := by
  refine F.ok scCopied (fun vs H Q E h => ?_) (fun cdv A outer s H vs Q E hr h => ?_)
  · obtain ⟨x, d, m, rfl, _⟩ := h
    rfl
  · obtain ⟨x, d, m, rfl, hx, hnm, hs, k⟩ := h
    obtain rfl : n = m := Nat.succ.inj hnm
    refine ⟨_, pss_cons (ps_if (pt_val (pe_callB call_isi (by rfl) B.isi (by decide +kernel) (pa_cons (pv 0) (pa_cons (pe_bltn (v := .ty "list") (by rfl) B.list (by decide +kernel) rfl) pa_nil))))
        (pss_one (ps_ret (pe_lc (own := [("item", 1)]) (g := gName 1) (tt := tYes) rfl scCopied.nd (pi_list (pv 0)) (blkOk_by (N := ["value", "item"]) (sc := defScope sCopied) (by decide +kernel)) (fun _ _ _ _ _ => pg_name (i := 1) scCopied.nd rfl (Or.inl rfl)) (fun _ _ _ _ _ => pts_nil)
          (fun _ _ _ _ _ => pe_call G (hr.mono (by omega)) rfl mC F.kp bC .nil pass0 (pa_cons (pv 1) pa_nil))))) pss_nil)
      (pss_cons (ps_if (pt_val (pe_callB call_isi (by rfl) B.isi (by decide +kernel) (pa_cons (pv 0) (pa_cons (pe_bltn (v := .ty "tuple") (by rfl) B.tuple (by decide +kernel) rfl) pa_nil))))
        (pss_one (ps_ret (pe_callTy call_tuple_of (by rfl) B.tuple (by decide +kernel) (pa_cons (pe_lc (own := [("item", 1)]) (g := gName 1) (tt := tYes) rfl scCopied.nd (pi_tup (pv 0)) (blkOk_by (N := ["value", "item"]) (sc := defScope sCopied) (by decide +kernel)) (fun _ _ _ _ _ => pg_name (i := 1) scCopied.nd rfl (Or.inl rfl)) (fun _ _ _ _ _ => pts_nil)
          (fun _ _ _ _ _ => pe_call G (hr.mono (by omega)) rfl mC F.kp bC .nil pass0 (pa_cons (pv 1) pa_nil))) pa_nil)))) pss_nil)
      (pss_one (ps_ret (pv 0)))), ?_⟩
    cases hs with
    | non =>
      cases hx
      exact ⟨_, rfl, _, _, .type "NoneType", .type "list", false, rfl, .ty _, .base .non, kit_ty (by decide +kernel), false, rfl, iteF ⟨_, rfl, _, _, .type "NoneType", .type "tuple", false, rfl, .ty _, .base .non, kit_ty (by decide +kernel), false, rfl, iteF ⟨_, rfl, k _ _ (Same.refl _) .non⟩⟩⟩
    | bl b =>
      cases hx
      exact ⟨_, rfl, _, _, .type "bool", .type "list", false, rfl, .ty _, .base (.bl b), kit_ty (by decide +kernel), false, rfl, iteF ⟨_, rfl, _, _, .type "bool", .type "tuple", false, rfl, .ty _, .base (.bl b), kit_ty (by decide +kernel), false, rfl, iteF ⟨_, rfl, k _ _ (Same.refl _) (.bl b)⟩⟩⟩
    | int i =>
      cases hx
      exact ⟨_, rfl, _, _, .type "int", .type "list", false, rfl, .ty _, .base (.int i), kit_ty (by decide +kernel), false, rfl, iteF ⟨_, rfl, _, _, .type "int", .type "tuple", false, rfl, .ty _, .base (.int i), kit_ty (by decide +kernel), false, rfl, iteF ⟨_, rfl, k _ _ (Same.refl _) (.int i)⟩⟩⟩
    | str z =>
      cases hx
      exact ⟨_, rfl, _, _, .type "str", .type "list", false, rfl, .ty _, .base (.str z), kit_ty (by decide +kernel), false, rfl, iteF ⟨_, rfl, _, _, .type "str", .type "tuple", false, rfl, .ty _, .base (.str z), kit_ty (by decide +kernel), false, rfl, iteF ⟨_, rfl, k _ _ (Same.refl _) (.str z)⟩⟩⟩
    | lst h l =>
      cases hx with
      | lst h1 h2 =>
      rename_i ds a xs
      have ex := dpAll_len _ _ h2
      refine ⟨_, rfl, _, _, .type "list", .type "list", true, rfl, .ty _, sqL_ty h1, kit_ty (by decide +kernel), true, rfl, iteT ?_⟩
      refine ⟨_, rfl, a, rfl, ⟨_, h1⟩, fun D hD => lc_list (K := K) (a := a) (xs := xs) (fun i H' => Same H H' ∧ ∃ ys, H' D = some (.lst ys) ∧ ys.length = i ∧ DpAll K (cut D (newr H H')) ys (ds.take i)) ⟨(Same.refl _).new hD, [], upd_same, rfl, .nil⟩ (fun i H' _ q => q.1.seq h1) ?_ ?_⟩
      · rintro i y H' hi ⟨s1, ys, hD1, hyl, hys⟩
        obtain ⟨e, he, de⟩ := dpAll_get _ _ _ _ h2 hi
        have hil : i < ds.length := (List.getElem?_eq_some_iff.mp he).1
        refine ⟨rfl, ⟨_, rfl, y, e, _, rfl, dp_same s1 _ _ de, rfl, h e (List.mem_of_getElem? he), fun H2 z e2 dz => ⟨ys, e2 _ _ hD1, ?_, (s1.trans e2).own hD, ys ++ [z], upd_same, by rw [List.length_append, hyl]; rfl, ?_⟩⟩⟩
        · rw [hyl]; exact Nat.lt_of_lt_of_le (Nat.lt_of_lt_of_le hil l) (by decide)
        · rw [List.take_add_one, he]
          exact dpAll_snoc _ _ (dpAll_same ((cut_mono (newr_mono e2)).trans cut_upd) _ _ hys) (dp_same ((cut_step s1 hD1).trans cut_upd) _ _ dz)
      · rintro H' ⟨s1, ys, hD1, hyl, hys⟩
        rw [ex, List.take_length] at hys
        exact k _ _ s1 (.lst (SqL.of (by rw [newr_at hD]; exact hD1)) (dpAll_same cut_in _ _ hys))
    | tup h l =>
      cases hx with
      | tup h1 h2 =>
      rename_i ds a xs
      have ex := dpAll_len _ _ h2
      refine ⟨_, rfl, _, _, .type "tuple", .type "list", false, rfl, .ty _, sqT_ty h1, kit_ty (by decide +kernel), false, rfl, iteF ?_⟩
      refine ⟨_, rfl, _, _, .type "tuple", .type "tuple", true, rfl, .ty _, sqT_ty h1, kit_ty (by decide +kernel), true, rfl, iteT ?_⟩
      refine ⟨_, rfl, a, rfl, ⟨_, h1⟩, fun D hD => lc_tup (K := K) (a := a) (xs := xs) (fun i H' => Same H H' ∧ ∃ ys, H' D = some (.lst ys) ∧ ys.length = i ∧ DpAll K (cut D (newr H H')) ys (ds.take i)) ⟨(Same.refl _).new hD, [], upd_same, rfl, .nil⟩ (fun i H' _ q => same_t q.1 h1) ?_ ?_⟩
      · rintro i y H' hi ⟨s1, ys, hD1, hyl, hys⟩
        obtain ⟨e, he, de⟩ := dpAll_get _ _ _ _ h2 hi
        have hil : i < ds.length := (List.getElem?_eq_some_iff.mp he).1
        refine ⟨rfl, ⟨_, rfl, y, e, _, rfl, dp_same s1 _ _ de, rfl, h e (List.mem_of_getElem? he), fun H2 z e2 dz => ⟨ys, e2 _ _ hD1, ?_, (s1.trans e2).own hD, ys ++ [z], upd_same, by rw [List.length_append, hyl]; rfl, ?_⟩⟩⟩
        · rw [hyl]; exact Nat.lt_of_lt_of_le (Nat.lt_of_lt_of_le hil l) (by decide)
        · rw [List.take_add_one, he]
          exact dpAll_snoc _ _ (dpAll_same ((cut_mono (newr_mono e2)).trans cut_upd) _ _ hys) (dp_same ((cut_step s1 hD1).trans cut_upd) _ _ dz)
      · rintro H' ⟨s1, ys, hD1, hyl, hys⟩
        rw [ex, List.take_length] at hys
        refine ⟨D, ys, rfl, .inl ⟨SqL.of hD1, fun T hT => k _ _ (s1.new hT) (.tup (SqT.of (by rw [newr_at (s1.free hT)]; exact upd_same)) (dpAll_same (cut_in.trans (newr_mono ((Same.refl _).new hT))) _ _ hys))⟩⟩
theorem ok_copied {f : Addr} {fd : FuncData} (F : Fun K "copied" "copied" sCopied f fd) (mC : mg "copied" = some (.ref f)) (bC : Binds K fd ["value"] []) (B : Blt mg) : ∀ n, FnOk P w K mg base CX0 n f fd ["value"] (spCopied K n)
  | 0 => by
    have no : ∀ vs H Q E, ¬ spCopied K 0 vs H Q E := fun vs H Q E ⟨x, d, m, _, _, h, _⟩ => by omega
    exact ⟨fun vs H Q E h => absurd h (no vs H Q E), fun A outer s H args us vs Q E _ _ _ _ h => absurd h (no vs H Q E)⟩
  | n + 1 => ok_copied_step F (ok_copied F mC bC B n) mC bC B
end
end Own

namespace Own
open PySem L2
/-- X(e): an exception of the class at C, its code, its attribute -/
def spInit1 (K : PySem.W.Frag) (C : Addr) (cname attr : Str) : Sp := fun vs H Q _ => ∃ (a : Addr) (H1 : Hp) (x : V) (d : PyData), vs = [.ref a, x] ∧ H1 a = none ∧ H = upd H1 a (exo a C none) ∧ Dp K H1 x d ∧ Shal 2 d ∧ ∀ (H' : Hp) (dd : Addr) (y : V), Same H1 H' → H1 dd = none → H' a = some (exo a C (some dd)) → H' dd = some (exd dd [(attr, y), ("code", .str cname)]) → Dp K (newr H1 H') y d → Q .non H'
def spInit0 (C : Addr) (cname : Str) : Sp := fun vs H Q _ => ∃ (a : Addr) (H1 : Hp), vs = [.ref a] ∧ H1 a = none ∧ H = upd H1 a (exo a C none) ∧ ∀ (H' : Hp) (dd : Addr), Same H1 H' → H' a = some (exo a C (some dd)) → H' dd = some (exd dd [("code", .str cname)]) → Q .non H'
theorem init_read1 {K : PySem.W.Frag} {C : Addr} {cname attr : Str} {N : List Str} {vs : List V} {H : Hp} {Q : VK} {E : XK} (T : ExK K C) (n1 : PySem.W.findIn K (.ref C) "code" = some none) (n2 : PySem.W.findIn K (.ref C) attr = some none) (h : spInit1 K C cname attr vs H Q E) (hN : N.length = 2) :
    tSeq (tStx K "code" (tVar 0) (tC (.str cname))) (tStx K attr (tVar 0) (tCall (spCopied K 3) [] E0 (tCons (tVar 1) tNil))) { nx := fun _ H' => Q .non H', rt := Q } (start N vs) H := by
  obtain ⟨a, H1, x, d, rfl, ha, rfl, hx, hs, k⟩ := h
  obtain ⟨n, m, rfl⟩ : ∃ n m, N = [n, m] := match N, hN with | [n, m], _ => ⟨n, m, rfl⟩
  refine ⟨_, rfl, a, C, rfl, T, n1, .inl ⟨upd_same, fun dd hd hne => ?_⟩⟩
  have hd1 : H1 dd = none := by rw [upd_ne hne] at hd; exact hd
  have s1 : Same H1 (upd (upd (upd H1 a (exo a C none)) dd (exd dd [("code", .str cname)])) a (exo a C (some dd))) := fun b o e => by
    rw [upd_ne (ne_of_none e ha), upd_ne (ne_of_none e hd1), upd_ne (ne_of_none e ha)]; exact e
  have e1 : (upd (upd (upd H1 a (exo a C none)) dd (exd dd [("code", .str cname)])) a (exo a C (some dd))) a = some (exo a C (some dd)) := upd_same
  have e2 : (upd (upd (upd H1 a (exo a C none)) dd (exd dd [("code", .str cname)])) a (exo a C (some dd))) dd = some (exd dd [("code", .str cname)]) := by rw [upd_ne hne]; exact upd_same
  generalize upd (upd (upd H1 a (exo a C none)) dd (exd dd [("code", .str cname)])) a (exo a C (some dd)) = H2 at s1 e1 e2 ⊢
  refine ⟨_, rfl, x, d, _, rfl, dp_same s1 _ _ hx, rfl, hs, fun H3 y e3 hy => ⟨_, rfl, a, C, rfl, T, n2, .inr ⟨dd, _, e3 _ _ e1, e3 _ _ e2, (by show 1 ≤ 900; decide), ?_⟩⟩⟩
  refine k _ dd y ((s1.trans e3).own hd1) hd1 (by rw [upd_ne hne.symm]; exact e3 _ _ e1) upd_same (dp_same (fun b o q => ?_) _ _ hy)
  obtain ⟨q1, q2⟩ := newr_some q
  rw [newr_at (s1.free q1), upd_ne (fun z => by rw [z, e2] at q1; cases q1)]
  exact q2
theorem init_read0 {K : PySem.W.Frag} {C : Addr} {cname : Str} {N : List Str} {vs : List V} {H : Hp} {Q : VK} {E : XK} (T : ExK K C) (n1 : PySem.W.findIn K (.ref C) "code" = some none) (h : spInit0 C cname vs H Q E) (hN : N.length = 1) :
    tStx K "code" (tVar 0) (tC (.str cname)) { nx := fun _ H' => Q .non H', rt := Q } (start N vs) H := by
  obtain ⟨a, H1, rfl, ha, rfl, k⟩ := h
  obtain ⟨n, rfl⟩ : ∃ n, N = [n] := match N, hN with | [n], _ => ⟨n, rfl⟩
  refine ⟨_, rfl, a, C, rfl, T, n1, .inl ⟨upd_same, fun dd hd hne => ?_⟩⟩
  have hd1 : H1 dd = none := by rw [upd_ne hne] at hd; exact hd
  refine k _ dd (fun b o e => ?_) upd_same (by rw [upd_ne hne]; exact upd_same)
  rw [upd_ne (ne_of_none e ha), upd_ne (ne_of_none e hd1), upd_ne (ne_of_none e ha)]; exact e
section
variable {P : Program} {w : World} {K : PySem.W.Frag} {mg : Str → Option Value} {base : Heap}
abbrev sI0 : Stmt := inClass (topT 7) 0
theorem scI0 : FnScope ["self", "given"] ["self", "given"] (defScope sI0) := ⟨rfl, rfl, rfl, by decide +kernel, rfl, by decide +kernel, by decide +kernel⟩
theorem ok_i0 {f fC C : Addr} {fd fdC : FuncData} (F : Fun K "__init__" "WrongCount.__init__" sI0 f fd) (G : FnOk P w K mg base CX0 3 fC fdC ["value"] (spCopied K 3)) (mC : mg "copied" = some (.ref fC)) (kC : PySem.W.keepIn K (.ref fC) = true) (bC : Binds K fdC ["value"] []) (T : ExK K C) (n1 : PySem.W.findIn K (.ref C) "code" = some none) (n2 : PySem.W.findIn K (.ref C) "given" = some none) :
    FnOk P w K mg base CX0 4 f fd ["self", "given"] (spInit1 K C "WrongCount" "given") :=
  F.ok scI0 (fun vs H Q E ⟨a, H1, x, d, e, _⟩ => by rw [e]; rfl) (fun cdv A outer s H vs Q E hr h => ⟨_, pss_cons (ps_stx (pv 0) pe_str) (pss_one (ps_stx (pv 0) (pe_call G hr rfl mC kC bC .nil pass0 (pa_cons (pv 1) pa_nil)))), init_read1 T n1 n2 h rfl⟩)
abbrev sI1 : Stmt := inClass (topT 8) 0
theorem scI1 : FnScope ["self", "given"] ["self", "given"] (defScope sI1) := ⟨rfl, rfl, rfl, by decide +kernel, rfl, by decide +kernel, by decide +kernel⟩
theorem ok_i1 {f fC C : Addr} {fd fdC : FuncData} (F : Fun K "__init__" "InvalidNumber.__init__" sI1 f fd) (G : FnOk P w K mg base CX0 3 fC fdC ["value"] (spCopied K 3)) (mC : mg "copied" = some (.ref fC)) (kC : PySem.W.keepIn K (.ref fC) = true) (bC : Binds K fdC ["value"] []) (T : ExK K C) (n1 : PySem.W.findIn K (.ref C) "code" = some none) (n2 : PySem.W.findIn K (.ref C) "given" = some none) :
    FnOk P w K mg base CX0 4 f fd ["self", "given"] (spInit1 K C "InvalidNumber" "given") :=
  F.ok scI1 (fun vs H Q E ⟨a, H1, x, d, e, _⟩ => by rw [e]; rfl) (fun cdv A outer s H vs Q E hr h => ⟨_, pss_cons (ps_stx (pv 0) pe_str) (pss_one (ps_stx (pv 0) (pe_call G hr rfl mC kC bC .nil pass0 (pa_cons (pv 1) pa_nil)))), init_read1 T n1 n2 h rfl⟩)
abbrev sI2 : Stmt := inClass (topT 9) 0
theorem scI2 : FnScope ["self", "given"] ["self", "given"] (defScope sI2) := ⟨rfl, rfl, rfl, by decide +kernel, rfl, by decide +kernel, by decide +kernel⟩
theorem ok_i2 {f fC C : Addr} {fd fdC : FuncData} (F : Fun K "__init__" "InvalidWord.__init__" sI2 f fd) (G : FnOk P w K mg base CX0 3 fC fdC ["value"] (spCopied K 3)) (mC : mg "copied" = some (.ref fC)) (kC : PySem.W.keepIn K (.ref fC) = true) (bC : Binds K fdC ["value"] []) (T : ExK K C) (n1 : PySem.W.findIn K (.ref C) "code" = some none) (n2 : PySem.W.findIn K (.ref C) "given" = some none) :
    FnOk P w K mg base CX0 4 f fd ["self", "given"] (spInit1 K C "InvalidWord" "given") :=
  F.ok scI2 (fun vs H Q E ⟨a, H1, x, d, e, _⟩ => by rw [e]; rfl) (fun cdv A outer s H vs Q E hr h => ⟨_, pss_cons (ps_stx (pv 0) pe_str) (pss_one (ps_stx (pv 0) (pe_call G hr rfl mC kC bC .nil pass0 (pa_cons (pv 1) pa_nil)))), init_read1 T n1 n2 h rfl⟩)
abbrev sI4 : Stmt := inClass (topT 10) 0
theorem scI4 : FnScope ["self", "given"] ["self", "given"] (defScope sI4) := ⟨rfl, rfl, rfl, by decide +kernel, rfl, by decide +kernel, by decide +kernel⟩
theorem ok_i4 {f fC C : Addr} {fd fdC : FuncData} (F : Fun K "__init__" "InvalidPoint.__init__" sI4 f fd) (G : FnOk P w K mg base CX0 3 fC fdC ["value"] (spCopied K 3)) (mC : mg "copied" = some (.ref fC)) (kC : PySem.W.keepIn K (.ref fC) = true) (bC : Binds K fdC ["value"] []) (T : ExK K C) (n1 : PySem.W.findIn K (.ref C) "code" = some none) (n2 : PySem.W.findIn K (.ref C) "given" = some none) :
    FnOk P w K mg base CX0 4 f fd ["self", "given"] (spInit1 K C "InvalidPoint" "given") :=
  F.ok scI4 (fun vs H Q E ⟨a, H1, x, d, e, _⟩ => by rw [e]; rfl) (fun cdv A outer s H vs Q E hr h => ⟨_, pss_cons (ps_stx (pv 0) pe_str) (pss_one (ps_stx (pv 0) (pe_call G hr rfl mC kC bC .nil pass0 (pa_cons (pv 1) pa_nil)))), init_read1 T n1 n2 h rfl⟩)
end
end Own

namespace Own
open PySem L2 PySem.HandSPX
/-! ### data stands while the sequences stand -/
def IsSq (o : HO) : Prop := ∃ xs, o = .lst xs ∨ o = .tup xs ∨ (∃ ob, o = .frz ob (.lst xs)) ∨ ∃ ob, o = .frz ob (.tup xs)
def Seqs (H H' : Hp) : Prop := ∀ b o, IsSq o → H b = some o → H' b = some o
theorem Seqs.of {H H' : Hp} (e : Same H H') : Seqs H H' := fun b o _ h => e b o h
theorem Seqs.trans {H H1 H2 : Hp} (a : Seqs H H1) (b : Seqs H1 H2) : Seqs H H2 := fun c o n h => b c o n (a c o n h)
theorem seqs_l {K : PySem.W.Frag} {H H' : Hp} {a : Addr} {xs : List V} (e : Seqs H H') (h : SqL K H a xs) : SqL K H' a xs := by
  rcases h with (h | ⟨o, h⟩) | h
  · exact .inl (.inl (e _ _ ⟨xs, .inl rfl⟩ h))
  · exact .inl (.inr ⟨o, e _ _ ⟨xs, .inr (.inr (.inl ⟨o, rfl⟩))⟩ h⟩)
  · exact .inr h
theorem seqs_t {K : PySem.W.Frag} {H H' : Hp} {a : Addr} {xs : List V} (e : Seqs H H') (h : SqT K H a xs) : SqT K H' a xs := by
  rcases h with (h | ⟨o, h⟩) | h
  · exact .inl (.inl (e _ _ ⟨xs, .inr (.inl rfl)⟩ h))
  · exact .inl (.inr ⟨o, e _ _ ⟨xs, .inr (.inr (.inr ⟨o, rfl⟩))⟩ h⟩)
  · exact .inr h
mutual
theorem dp_seqs {K : PySem.W.Frag} {H H' : Hp} (e : Seqs H H') : ∀ (d : PyData) (v : V), Dp K H v d → Dp K H' v d
  | .none, v, h => by cases h; exact .non
  | .bool b, v, h => by cases h; exact .bl b
  | .int i, v, h => by cases h; exact .int i
  | .str z, v, h => by cases h; exact .str z
  | .list ds, v, h => by
    cases h with
    | lst h1 h2 => exact .lst (seqs_l e h1) (dpAll_seqs e ds _ h2)
  | .tuple ds, v, h => by
    cases h with
    | tup h1 h2 => exact .tup (seqs_t e h1) (dpAll_seqs e ds _ h2)
  | .dict kvs, v, h => by cases h
theorem dpAll_seqs {K : PySem.W.Frag} {H H' : Hp} (e : Seqs H H') : ∀ (ds : List PyData) (vs : List V), DpAll K H vs ds → DpAll K H' vs ds
  | [], vs, h => by cases h; exact .nil
  | d :: ds, vs, h => by
    cases h with
    | cons h1 h2 => exact .cons (dp_seqs e d _ h1) (dpAll_seqs e ds _ h2)
end
theorem exo_sq {e C : Addr} {d : Option Addr} : ¬ IsSq (exo e C d) := by
  rintro ⟨xs, h | h | ⟨ob, h⟩ | ⟨ob, h⟩⟩
  · have z : HO.ext _ = HO.lst xs := h
    cases z
  · exact exo_tup h
  · exact exo_frz h
  · exact exo_frz h
theorem exd_sq {e : Addr} {fs : List (Str × V)} : ¬ IsSq (exd e fs) := by
  rintro ⟨xs, h | h | ⟨ob, h⟩ | ⟨ob, h⟩⟩
  · have z : HO.ext _ = HO.lst xs := h
    cases z
  · exact exd_tup h
  · have z : HO.ext _ = HO.frz ob (.lst xs) := h
    cases z
  · have z : HO.ext _ = HO.frz ob (.tup xs) := h
    cases z
/-! ### an error that leaves a def -/
/-- at dd the fields of an error cname with attr = d; else all stands -/
def ErrOut (K : PySem.W.Frag) (H H' : Hp) (dd : Addr) (cname attr : Str) (d : PyData) : Prop := Same H H' ∧ H dd = none ∧ ∃ (fs : List (Str × V)) (y : V), H' dd = some (.xd fs) ∧ fs.lookup ("code" : Str) = some (V.str cname) ∧ fs.lookup attr = some y ∧ Dp K (newr H H') y d
theorem ErrOut.pre {K : PySem.W.Frag} {H H0 H' : Hp} {dd : Addr} {cname attr : Str} {d : PyData} (e : ErrOut K H0 H' dd cname attr d) (s : Same H H0) : ErrOut K H H' dd cname attr d := by
  obtain ⟨h1, h2, fs, y, h3, h4, h5, h6⟩ := e
  exact ⟨s.trans h1, s.free h2, fs, y, h3, h4, h5, dp_same (newr_old s) _ _ h6⟩
structure ErrC (P : Program) (w : World) (K : PySem.W.Frag) (mg : Str → Option Value) (base : Heap) (cname attr : Str) (C : Addr) : Prop where
  T : ExK K C
  m : mg cname = some (.ref C)
  ex : ∃ f fd, PySem.W.findIn K (.ref C) "__init__" = some (some (.ref f)) ∧ PySem.W.typeIn K (.ref f) = some (.type "function") ∧ FnOk P w K mg base CX0 4 f fd ["self", attr] (spInit1 K C cname attr) ∧ Binds K fd ["self", attr] []
  ne : (("code" : Str) == attr) = false
section
variable {X : Cx} {cname attr : Str} {C : Addr} {e : Expr} {ta : TA} {p pos : Pos}
def tErr (K : PySem.W.Frag) (C : Addr) (cname attr : Str) (ta : TA) : L2.St → Hp → XK → Prop := fun σ H Q => ta σ H fun vs H1 => ∃ x d, vs = [x] ∧ Dp K H1 x d ∧ Shal 2 d ∧ ∀ dd H', ErrOut K H1 H' dd cname attr d → Q (.ref C) (some dd) H'
theorem pmk_err (c : ErrC X.prog X.w X.K X.mg X.base cname attr C) (hr : Room 5 X.A) (hg : Gl X cname) (ha : PA X [e] ta)
    (hta : ∀ σ H (R R' : List V → Hp → Prop), (∀ vs H1, R vs H1 → R' vs H1) → ta σ H R → ta σ H R')
    (hdb : (cname == ("__debug__" : Str)) = false := by decide) (he : starEach [e] X.env = (false, eval e X.env) :: starEach [] X.env := by rfl) (hpl : (backTo pos (starEach [] X.env)).any (·.1) = false := by rfl) :
    L2.PMk X (.Call (.Name cname p) [e] [] pos) (tErr X.K C cname attr ta) := by
  obtain ⟨f, fd, ic, ti, G, b⟩ := c.ex
  intro pins s σ H Q I h
  refine pmk_mkx c.T ic ti G hr b pass0 hg c.m ha hdb he hpl pins s σ H Q I (hta σ H _ _ (fun vs H1 q => ?_) h)
  obtain ⟨x, d, rfl, hx, hs, k⟩ := q
  refine ⟨by show 1 ≤ 1000; decide, fun a ha => ⟨a, H1, x, d, rfl, ha, rfl, hx, hs, fun H' dd y sm nd ea ed hy => ⟨rfl, dd, _, ea, ed, nd, k dd _ ⟨fun b o hb => ?_, nd, _, y, upd_same, ?_, ?_, dp_seqs (fun b o n hb => ?_) _ _ hy⟩⟩⟩⟩
  · rw [upd_ne (ne_of_none hb nd), del_ne (ne_of_none hb ha)]
    exact sm _ _ hb
  · show (List.lookup ("code" : Str) [(attr, y), (("code" : Str), V.str cname)]) = _
    simp only [List.lookup, c.ne]
    rfl
  · show (List.lookup attr [(attr, y), (("code" : Str), V.str cname)]) = _
    simp [List.lookup]
  · obtain ⟨hb0, hb⟩ := newr_some hb
    have n1 : b ≠ dd := fun z => by rw [z, ed] at hb; cases hb; exact exd_sq n
    have n2 : b ≠ a := fun z => by rw [z, ea] at hb; cases hb; exact exo_sq n
    rw [newr_at hb0, upd_ne n1, del_ne n2]
    exact hb
end
end Own

namespace Own
open PySem L2 PySem.HandSPX
theorem vals_mem_r : ∀ {xs : List V} {us : List Value}, Vals xs us → ∀ {u : Value}, u ∈ us → ∃ z, z ∈ xs ∧ RelV z u
  | _, _, .nil, u, hu => by cases hu
  | y :: xs, w :: us, .cons r t, u, hu => by
    rcases List.mem_cons.mp hu with rfl | hu
    · exact ⟨y, List.mem_cons_self .., r⟩
    · obtain ⟨z, hz, rz⟩ := vals_mem_r t hu
      exact ⟨z, List.mem_cons_of_mem _ hz, rz⟩
/-! ### v not in words, v any value, the words texts -/
def rNotInL (K : PySem.W.Frag) : V → V → Hp → VK → Prop := fun x y H Q => ∃ (l p : Addr) (ys xs : List V), x = .ref l ∧ SqL K H l ys ∧ y = .ref p ∧ SqT K H p xs ∧ (∀ z ∈ xs, ∃ s : Str, z = .str s) ∧ Q (.bl true) H
def rNotInA (K : PySem.W.Frag) : V → V → Hp → VK → Prop := fun x y H Q => rIn K true x y H Q ∨ rNotInL K x y H Q
theorem op_notInA {X : Cx} (hu : X.A.units + 64 < cLine) : OpR X (compareOp .NotIn) (rNotInA X.K) := by
  intro pins s σ H x y v u Q I rx ry h
  rcases h with h | ⟨l, p, ys, xs, rfl, hl, rfl, hq, hs, q⟩
  · exact op_notIn_seq pins s σ H x y v u Q I rx ry h
  · cases ry
    obtain rfl : v = Value.ref l := rx
    obtain ⟨iy, ry', ply, hzy⟩ := I.list hl
    obtain ⟨its, r, pl, hz⟩ := I.tuple hq
    refine SeqAt.notIn_tupleAt (fun _ => false) pl (fun w hw => ?_) ⟨.bl _, H, I, rfl, ?_⟩
    · have hw' : w ∈ its := by simpa using hw
      obtain ⟨z, hz', rz⟩ := vals_mem_r r hw'
      obtain ⟨z', rfl⟩ := hs z hz'
      obtain ⟨t, rfl⟩ := rz
      exact SeqAt.EqAt.str_list _ _ ply.isList (by have h := hu; show X.A.units + _ < cLine; omega)
    · rw [show its.toArray.any (fun _ => false) = false by simp]
      exact q
/-! ### the checks, any values -/
def spNumD (K : PySem.W.Frag) : Sp := fun vs H Q _ => ∃ (v : V) (d : PyData) (lo hi : Int), vs = [v, .int lo, .int hi] ∧ Dp K H v d ∧ Q (.bl (numB d lo hi)) H
def spCkN (K : PySem.W.Frag) (cN : Addr) : Sp := fun vs H Q E => ∃ (v : V) (d : PyData) (lo hi : Int), vs = [v, .int lo, .int hi] ∧ Dp K H v d ∧ Shal 2 d ∧ (numB d lo hi = true → Q .non H) ∧ (numB d lo hi = false → ∀ dd H', ErrOut K H H' dd "InvalidNumber" "given" d → E (.ref cN) (some dd) H')
def wordB : PyData → List Str → Bool
  | .str z, ws => ws.any fun w => w == z
  | _, _ => false
def spCkW (K : PySem.W.Frag) (cW : Addr) : Sp := fun vs H Q E => ∃ (v : V) (d : PyData) (t : Addr) (ws : List Str), vs = [v, .ref t] ∧ SqT K H t (ws.map V.str) ∧ Dp K H v d ∧ Shal 2 d ∧ (∀ ds, d ≠ .tuple ds) ∧ (wordB d ws = true → Q .non H) ∧ (wordB d ws = false → ∀ dd H', ErrOut K H H' dd "InvalidWord" "given" d → E (.ref cW) (some dd) H')
def firstBad (ds : List PyData) (lo hi : Int) : Option PyData := ds.find? fun d => !numB d lo hi
def spCkR (K : PySem.W.Frag) (cC cN : Addr) : Sp := fun vs H Q E => ∃ (t : Addr) (xs : List V) (ds : List PyData) (most : Int), vs = [.ref t, .int most] ∧ SqT K H t xs ∧ DpAll K H xs ds ∧ (∀ d ∈ ds, Shal 2 d) ∧
  (¬ (1 ≤ xs.length ∧ xs.length ≤ 3) → ∀ dd H', ErrOut K H H' dd "WrongCount" "given" (.int xs.length) → E (.ref cC) (some dd) H') ∧
  (1 ≤ xs.length ∧ xs.length ≤ 3 → (∀ d, firstBad ds 1 most = some d → ∀ dd H', ErrOut K H H' dd "InvalidNumber" "given" d → E (.ref cN) (some dd) H') ∧ (firstBad ds 1 most = none → Q .non H))
section
variable {P : Program} {w : World} {K : PySem.W.Frag} {mg : Str → Option Value} {base : Heap}
theorem ok_numD {f : Addr} {fd : FuncData} (F : Fun K "is_number" "is_number" sNum f fd) (zI : mg "isinstance" = none) (zB : mg "bool" = none) (zN : mg "int" = none) : FnOk P w K mg base CX0 1 f fd ["value", "least", "most"] (spNumD K) := by
  refine F.ok scNum (fun vs H Q E h => ?_) (fun cdv A outer s H vs Q E hr h => ?_)
  · obtain ⟨v, d, lo, hi, rfl, _⟩ := h
    rfl
  · obtain ⟨v, d, lo, hi, rfl, hd, k⟩ := h
    refine ⟨_, pss_cons (ps_if (PW.pt (pw_or (pt_val (pe_callB call_isi (by rfl) zI (by decide +kernel) (pa_cons (pv 0) (pa_cons (pe_bltn (v := .ty "bool") (by rfl) zB (by decide +kernel) rfl) pa_nil)))) (pw_or1 (pt_not (pt_val (pe_callB call_isi (by rfl) zI (by decide +kernel) (pa_cons (pv 0) (pa_cons (pe_bltn (v := .ty "int") (by rfl) zN (by decide +kernel) rfl) pa_nil))))))))
      (pss_one (ps_ret pe_bl)) pss_nil) (pss_one (ps_ret (pe_chain op_le op_le (pv 1) (pv 0) (pv 2)))), ?_⟩
    cases hd with
    | non => exact ⟨_, rfl, _, _, .type "NoneType", .type "bool", false, rfl, .ty _, .base .non, kit_ty (by decide +kernel), false, rfl, iteF ⟨_, rfl, _, _, .type "NoneType", .type "int", false, rfl, .ty _, .base .non, kit_ty (by decide +kernel), false, rfl, iteT k⟩⟩
    | bl b => exact ⟨_, rfl, _, _, .type "bool", .type "bool", true, rfl, .ty _, .base (.bl b), kit_ty (by decide +kernel), true, rfl, iteT (iteT k)⟩
    | str z => exact ⟨_, rfl, _, _, .type "str", .type "bool", false, rfl, .ty _, .base (.str z), kit_ty (by decide +kernel), false, rfl, iteF ⟨_, rfl, _, _, .type "str", .type "int", false, rfl, .ty _, .base (.str z), kit_ty (by decide +kernel), false, rfl, iteT k⟩⟩
    | lst h1 h2 => exact ⟨_, rfl, _, _, .type "list", .type "bool", false, rfl, .ty _, sqL_ty h1, kit_ty (by decide +kernel), false, rfl, iteF ⟨_, rfl, _, _, .type "list", .type "int", false, rfl, .ty _, sqL_ty h1, kit_ty (by decide +kernel), false, rfl, iteT k⟩⟩
    | tup h1 h2 => exact ⟨_, rfl, _, _, .type "tuple", .type "bool", false, rfl, .ty _, sqT_ty h1, kit_ty (by decide +kernel), false, rfl, iteF ⟨_, rfl, _, _, .type "tuple", .type "int", false, rfl, .ty _, sqT_ty h1, kit_ty (by decide +kernel), false, rfl, iteT k⟩⟩
    | int n =>
      refine ⟨_, rfl, _, _, .type "int", .type "bool", false, rfl, .ty _, .base (.int n), kit_ty (by decide +kernel), false, rfl, iteF ?_⟩
      refine ⟨_, rfl, _, _, .type "int", .type "int", true, rfl, .ty _, .base (.int n), kit_ty (by decide +kernel), true, rfl, iteF ?_⟩
      have k' : Q (.bl (decide (lo ≤ n) && decide (n ≤ hi))) H := k
      refine ⟨_, rfl, _, rfl, _, _, rfl, rfl, _, rfl, ite2 (fun c => ⟨_, rfl, _, _, rfl, rfl, ?_⟩) (fun c => ?_)⟩
      · rw [c] at k'; exact k'
      · rw [Bool.eq_false_iff.mpr c] at k'; exact k'
theorem ok_ckN {f fN cN : Addr} {fd fdN : FuncData} (F : Fun K "check_number" "check_number" sCkNum f fd) (GN : FnOk P w K mg base CX0 1 fN fdN ["value", "least", "most"] (spNumD K)) (mN : mg "is_number" = some (.ref fN)) (kN : PySem.W.keepIn K (.ref fN) = true) (bN : Binds K fdN ["value", "least", "most"] [])
    (c : ErrC P w K mg base "InvalidNumber" "given" cN) : FnOk P w K mg base (L2.CX P w) 6 f fd ["value", "least", "most"] (spCkN K cN) := by
  refine F.okX scCkNum (fun vs H Q E h => ?_) (fun cdv A outer s H vs Q E hr h => ?_)
  · obtain ⟨v, d, lo, hi, rfl, _⟩ := h
    rfl
  · obtain ⟨v, d, lo, hi, rfl, hd, hs, k1, k2⟩ := h
    refine ⟨_, pss_one (ps_if (pt_not (pt_val (pe_call GN (hr.mono (by decide)) rfl mN kN bN .nil pass0 (pa_cons (pv 0) (pa_cons (pv 1) (pa_cons (pv 2) pa_nil)))))) (pss_one (ps_raise rfl (takes_of rfl rfl rfl rfl) (pmk_err c hr (by rfl) (pa_cons (pv 0) pa_nil) (fun σ H R R' f ⟨x, h, q⟩ => ⟨x, h, f _ _ q⟩)))) pss_nil), ?_⟩
    refine ⟨_, rfl, _, rfl, _, rfl, v, d, lo, hi, rfl, hd, _, rfl, ite2 (fun c => ?_) (fun c => ?_)⟩
    · have c' : numB d lo hi = false := by simpa using c
      exact ⟨_, rfl, v, d, rfl, hd, hs, fun dd H' eo => k2 c' dd H' eo⟩
    · exact k1 (by simpa using c)
theorem str_inV (z : Str) : ∀ ws : List Str, inV (.str z) (ws.map V.str) = wordB (.str z) ws := fun ws => by
  show (ws.map V.str).any (fun y => eqV y (.str z)) = ws.any fun w => w == z
  rw [List.any_map]
  rfl
theorem all_flat : ∀ ws : List Str, (ws.map V.str).all flatV = true
  | [] => rfl
  | _ :: ws => by rw [List.map_cons, List.all_cons, all_flat ws]; rfl
theorem flat_no {x : V} (h : ∀ w : Str, eqV (.str w) x = false) : ∀ ws : List Str, inV x (ws.map V.str) = false := fun ws => by
  show (ws.map V.str).any (fun y => eqV y x) = false
  rw [List.any_map, List.any_eq_false]
  intro w _
  show ¬ eqV (.str w) x = true
  rw [h w]
  exact Bool.false_ne_true
theorem ok_ckW {f cW : Addr} {fd : FuncData} (F : Fun K "check_word" "check_word" sCkWord f fd) (c : ErrC P w K mg base "InvalidWord" "given" cW) : FnOk P w K mg base (L2.CX P w) 6 f fd ["value", "words"] (spCkW K cW) := by
  refine F.okX scCkWord (fun vs H Q E h => ?_) (fun cdv A outer s H vs Q E hr h => ?_)
  · obtain ⟨v, d, t, ws, rfl, _⟩ := h
    rfl
  · obtain ⟨v, d, t, ws, rfl, ht, hd, hs, nt, k1, k2⟩ := h
    refine ⟨_, pss_one (ps_if (pt_cmpR (op_notInA hr.units) (pv 0) (pv 1) (by rfl)) (pss_one (ps_raise rfl (takes_of rfl rfl rfl rfl) (pmk_err c hr (by rfl) (pa_cons (pv 0) pa_nil) (fun σ H R R' f ⟨x, h, q⟩ => ⟨x, h, f _ _ q⟩)))) pss_nil), ?_⟩
    have done : wordB d ws = false → ∀ dd H', ErrOut K H H' dd "InvalidWord" "given" d → E (.ref cW) (some dd) H' := k2
    refine ⟨_, rfl, _, rfl, ?_⟩
    have raise_ : wordB d ws = false → tErr K cW "InvalidWord" "given" (tCons (tVar 0) tNil) (start ["value", "words"] [v, .ref t]) H (fun cls d H' => E cls d H') := fun c => ⟨_, rfl, v, d, rfl, hd, hs, fun dd H' eo => k2 c dd H' eo⟩
    cases hd with
    | str z =>
      refine .inl ⟨t, _, rfl, .inr ht, rfl, all_flat ws, _, rfl, ?_⟩
      show if (!inV (.str z) (ws.map V.str)) = true then _ else _
      rw [str_inV]
      refine ite2 (fun c => ?_) (fun c => ?_)
      · exact raise_ (by simpa using c)
      · exact k1 (by simpa using c)
    | non => exact .inl ⟨t, _, rfl, .inr ht, rfl, all_flat ws, _, rfl, by
        show if (!inV .non (ws.map V.str)) = true then _ else _
        rw [flat_no (by intro w; rfl)]
        exact iteT (raise_ rfl)⟩
    | bl b => exact .inl ⟨t, _, rfl, .inr ht, rfl, all_flat ws, _, rfl, by
        show if (!inV (.bl b) (ws.map V.str)) = true then _ else _
        rw [flat_no (by intro w; rfl)]
        exact iteT (raise_ rfl)⟩
    | int i => exact .inl ⟨t, _, rfl, .inr ht, rfl, all_flat ws, _, rfl, by
        show if (!inV (.int i) (ws.map V.str)) = true then _ else _
        rw [flat_no (by intro w; rfl)]
        exact iteT (raise_ rfl)⟩
    | lst h1 h2 => exact .inr ⟨_, t, _, _, rfl, h1, rfl, ht, fun z hz => by obtain ⟨w, _, rfl⟩ := List.mem_map.mp hz; exact ⟨w, rfl⟩, _, rfl, iteT (raise_ rfl)⟩
    | tup h1 h2 => exact absurd rfl (nt _)
end
end Own

namespace Own
open PySem L2 PySem.HandSPX
theorem dpAll_get2 {K : PySem.W.Frag} {H : Hp} : ∀ {xs : List V} {ds : List PyData} {i : Nat} {x : V}, DpAll K H xs ds → xs[i]? = some x → ∃ d, ds[i]? = some d ∧ Dp K H x d
  | _, _, _, _, .nil, h => by cases h
  | _, _, 0, _, .cons h t, e => by cases e; exact ⟨_, rfl, h⟩
  | _, _, i + 1, _, .cons h t, e => dpAll_get2 (i := i) t e
theorem firstBad_at {ds : List PyData} {lo hi : Int} {i : Nat} {d : PyData} (hi' : ds[i]? = some d) (hp : ∀ (j : Nat) (d' : PyData), j < i → ds[j]? = some d' → numB d' lo hi = true) (hb : numB d lo hi = false) : firstBad ds lo hi = some d := by
  unfold firstBad
  induction ds generalizing i with
  | nil => cases hi'
  | cons e r ih =>
    cases i with
    | zero =>
      cases hi'
      rw [List.find?_cons_of_pos (by rw [hb]; rfl)]
    | succ i =>
      have h0 := hp 0 e (Nat.succ_pos _) rfl
      rw [List.find?_cons_of_neg (by rw [h0]; simp)]
      exact ih hi' fun j d' hj e' => hp (j + 1) d' (Nat.succ_lt_succ hj) e'
theorem firstBad_none {ds : List PyData} {lo hi : Int} (hp : ∀ (j : Nat) (d' : PyData), ds[j]? = some d' → numB d' lo hi = true) : firstBad ds lo hi = none := by
  unfold firstBad
  rw [List.find?_eq_none]
  intro d hd
  obtain ⟨j, hj⟩ := List.getElem?_of_mem hd
  rw [hp j d hj]
  simp
section
variable {P : Program} {w : World} {K : PySem.W.Frag} {mg : Str → Option Value} {base : Heap}
theorem ok_ckR {f fN cC cN : Addr} {fd fdN : FuncData} {tk : Tok} (F : Fun K "check_rooms" "check_rooms" sCkRooms f fd) (GN : FnOk P w K mg base (L2.CX P w) 6 fN fdN ["value", "least", "most"] (spCkN K cN)) (mN : mg "check_number" = some (.ref fN)) (kN : PySem.W.keepIn K (.ref fN) = true) (bN : Binds K fdN ["value", "least", "most"] []) (zL : mg "len" = none) (mB : mg "MOST_BELTS" = some (.int 3 tk))
    (c : ErrC P w K mg base "WrongCount" "given" cC) : FnOk P w K mg base (L2.CX P w) 7 f fd ["rooms", "most"] (spCkR K cC cN) := by
  refine F.okX scCkRooms (fun vs H Q E h => ?_) (fun cdv A outer s H vs Q E hr h => ?_)
  · obtain ⟨t, xs, ds, most, rfl, _⟩ := h
    rfl
  · obtain ⟨t, xs, ds, most, rfl, ht, hd, hs, k1, k2⟩ := h
    refine ⟨_, pss_cons (ps_if (pt_not (pt_chain op_le op_le pe_int (pe_callB call_len_seq (by rfl) zL PySem.boot_len (pa_cons (pv 0) pa_nil)) (pe_glob (v := .int 3) (by rfl) mB ⟨_, rfl⟩)))
        (pss_one (ps_raise rfl (takes_of rfl rfl rfl rfl) (pmk_err c (hr.mono (by decide)) (by rfl) (pa_cons (pe_callB call_len_seq (by rfl) zL PySem.boot_len (pa_cons (pv 0) pa_nil)) pa_nil) (fun σ H R R' f ⟨x, h, p, ys, h1, h2, q⟩ => ⟨x, h, p, ys, h1, h2, f _ _ q⟩)))) pss_nil)
      (pss_one (ps_for (passes_of rfl) rfl (pi_tup (pv 0)) (pg_name (i := 2) scCkRooms.nd rfl (Or.inl rfl)) (pss_one (ps_expr (pe_call GN hr rfl mN kN bN .nil (passes_call (takes_of rfl rfl rfl rfl) (fun _ _ _ _ h => h)) (pa_cons (pv 2) (pa_cons pe_int (pa_cons (pv 1) pa_nil)))))))), ?_⟩
    refine ⟨_, rfl, t, _, rfl, .inr ht, _, _, rfl, rfl, _, rfl, ite2 (fun c1 => ⟨_, _, rfl, rfl, _, rfl, ite2 (fun c2 => ?_) (fun c2 => ?_)⟩) (fun c1 => ?_)⟩
    · have c2' : ¬ ((xs.length : Int) ≤ 3) := by simpa using c2
      have hb : ¬ (1 ≤ xs.length ∧ xs.length ≤ 3) := by omega
      exact ⟨_, rfl, t, xs, rfl, .inr ht, _, _, rfl, .int _, .int _, k1 hb⟩
    · have c1' : (1 : Int) ≤ xs.length := of_decide_eq_true c1
      have c2' : (xs.length : Int) ≤ 3 := by simpa using c2
      obtain ⟨k3, k4⟩ := k2 (by omega)
      refine ⟨_, rfl, t, rfl, ⟨_, ht⟩, for_tup (K := K) (a := t) (xs := xs) (fun i σ H' => ∃ v : Option V, σ = [some (.ref t), some (.int most), v] ∧ H' = H ∧ ∀ (j : Nat) (d' : PyData), j < i → ds[j]? = some d' → numB d' 1 most = true) ⟨_, rfl, rfl, fun j d' hj => absurd hj (Nat.not_lt_zero _)⟩ ?_ ?_ ?_⟩
      · rintro i σ H' _ ⟨v, rfl, rfl, _⟩
        exact ht
      · rintro i y σ H' hi ⟨v, rfl, rfl, hp⟩
        obtain ⟨d, hdi, hdy⟩ := dpAll_get2 hd hi
        refine ⟨_, rfl, _, rfl, y, d, 1, most, rfl, hdy, hs d (List.mem_of_getElem? hdi), fun hb => ⟨_, rfl, rfl, fun j d' hj hd' => ?_⟩, fun hb dd H' eo => k3 d (firstBad_at hdi hp hb) dd H' eo⟩
        rcases Nat.lt_succ_iff_lt_or_eq.mp hj with hj | rfl
        · exact hp j d' hj hd'
        · rw [hdi] at hd'
          cases hd'
          exact hb
      · rintro σ H' ⟨v, rfl, rfl, hp⟩
        exact k4 (firstBad_none fun j d' hj => by
          refine hp j d' ?_ hj
          have hlen := dpAll_len _ _ hd
          have := (List.getElem?_eq_some_iff.mp hj).1
          omega)
    · have c1' : ¬ ((1 : Int) ≤ xs.length) := by simpa using c1
      have hb : ¬ (1 ≤ xs.length ∧ xs.length ≤ 3) := by omega
      exact ⟨false, rfl, iteT ⟨_, rfl, t, xs, rfl, .inr ht, _, _, rfl, .int _, .int _, k1 hb⟩⟩
end
end Own

/-! law-independent: a for over a list or a tuple; t[i:] and t.index of a tuple of the program's own; sorted(t) -/
namespace Own
open PySem PySem.Spec PyProof.Rows L2 PySem.HandSPX
def iOr (a b : TI) : TI := fun σ H R => a σ H R ∨ b σ H R
theorem pi_or {X : Cx} {tg e : Expr} {a b : TI} (ha : PI X tg e a) (hb : PI X tg e b) : PI X tg e (iOr a b) :=
  ⟨fun pins s σ H R I h => h.elim (fun q => ha.run pins s σ H R I q) fun q => hb.run pins s σ H R I q⟩
/-- a list or a tuple -/
def Sq (K : PySem.W.Frag) (H : Hp) (a : Addr) (xs : List V) : Prop := SqL K H a xs ∨ SqT K H a xs
theorem sq_seqs {K : PySem.W.Frag} {H H' : Hp} {a : Addr} {xs : List V} (e : Seqs H H') (h : Sq K H a xs) : Sq K H' a xs := h.elim (fun q => .inl (seqs_l e q)) fun q => .inr (seqs_t e q)
def iSq (K : PySem.W.Frag) (t : TE) : TI := iOr (iList K t) (iTup K t)
theorem pi_sq {X : Cx} {tg e : Expr} {t : TE} (h : PE X e t) : PI X tg e (iSq X.K t) := pi_or (pi_list h) (pi_tup h)
theorem for_sq {K : PySem.W.Frag} {k : Nat} {a : Addr} {xs : List V} {g : TG} {tb : TS} {D : Ends} {σ : L2.St} {H0 H : Hp} (hv : σ[k]? = some (some (.ref a))) (hq : Sq K H0 a xs) (e0 : Seqs H0 H) (Pv : Nat → L2.St → Hp → Prop) (h0 : Pv 0 σ H)
    (kp : ∀ i σ' H', i ≤ xs.length → Pv i σ' H' → Seqs H0 H') (hs : ∀ i x σ H, xs[i]? = some x → Pv i σ H → g x σ H fun σ2 H2 => tb { D with nx := Pv (i + 1), ct := Pv (i + 1), bk := D.nx } σ2 H2) (hd : ∀ σ H, Pv xs.length σ H → D.nx σ H) :
    tFor (iSq K (tVar k)) g tb D σ H := by
  rcases hq with hq | hq
  · exact .inl ⟨_, hv, a, rfl, ⟨xs, seqs_l e0 hq⟩, for_list Pv h0 (fun i σ' H' hi p => seqs_l (kp i σ' H' hi p) hq) hs hd⟩
  · exact .inr ⟨_, hv, a, rfl, ⟨xs, seqs_t e0 hq⟩, for_tup Pv h0 (fun i σ' H' hi p => seqs_t (kp i σ' H' hi p) hq) hs hd⟩
/-! ### tuples of one's own, known to hold no dict -/
def tyTup (K : PySem.W.Frag) (x : V) (H : Hp) : Prop := ∃ p, x = .ref p ∧ ((∃ o, K.lookup p = some o ∧ o.cls = .type "tuple" ∧ o.dict = none) ∨ ∃ ob u, H p = some (.frz ob u) ∧ ob.cls = .type "tuple" ∧ ob.dict = none)
theorem ty_tup {X : Cx} : TyOk X "tuple" (tyTup X.K) := by
  intro pins σ H s x v I r ty
  obtain ⟨p, rfl, ⟨o, hk, hc, hd⟩ | ⟨ob, u, hk, hc, hd⟩⟩ := ty
  · cases r
    refine ⟨⟨o, I.kIn p o hk, hc⟩, fun a e => ?_⟩
    cases e
    exact ⟨o, I.kIn _ o hk, hd⟩
  · cases r
    have e1 : s.heap.get? p = some ob := (I.hok p _ hk).1
    refine ⟨⟨ob, e1, hc⟩, fun a e => ?_⟩
    cases e
    exact ⟨ob, e1, hd⟩
/-- t[lo:hi], not the whole; the new one holds no dict -/
def rSlF (K : PySem.W.Frag) : V → Option Int → Option Int → Hp → VK → Prop := fun x lo hi H Q => ∃ a xs, x = .ref a ∧ SqT K H a xs ∧
  ¬ (HT.sIx xs.length 0 lo = 0 ∧ HT.sIx xs.length xs.length hi = xs.length) ∧ ∀ p ob, H p = none → ob.cls = .type "tuple" → ob.dict = none → Q (.ref p) (upd H p (.frz ob (.tup (cutV xs lo hi))))
theorem sl_tupF {X : Cx} : SlR X (rSlF X.K) := by
  intro pins s σ H x v vl vu lo hi sl Q I rx hs pl pu h
  obtain ⟨a, xs, rfl, hx, hw, q⟩ := h
  cases rx
  obtain ⟨its, r, ht, hz⟩ := I.tuple hx
  have hlen : its.toArray.size = xs.length := by rw [List.size_toArray]; exact r.length.symm
  refine ⟨"tuple", _, PyProof.Rows.slot_tuple_getitem.lookup, ht.typeIs, ?_⟩
  refine HT.getItem_tuple_cut ht hs pl pu (by rw [hlen]; exact hw) ?_ (by rw [hlen]; exact hz)
  rw [hlen]
  refine ⟨.ref s.heap.objs.size, _, I.laid (t' := s.toks) (o := .frz _ (.tup (cutV xs lo hi))) (fun b ob q => Heap.get?_push_of_some _ q) (Nat.le_refl _) ⟨Heap.get?_push_size _ rfl, ?_⟩, rfl, q _ _ (I.hok.fresh (Nat.le_refl _)) rfl rfl⟩
  exact ⟨Nat.le_trans (cutV_length xs lo hi) hz, _, (r.drop (HT.sIx xs.length 0 lo)).take (HT.sIx xs.length xs.length hi - HT.sIx xs.length 0 lo), IsTup.new _ _⟩
theorem cut_tail (xs : List V) (j : Nat) (hj : j < xs.length) : cutV xs (some ((j : Int) + 1)) none = xs.drop (j + 1) ∧ ¬ (HT.sIx xs.length 0 (some ((j : Int) + 1)) = 0 ∧ HT.sIx xs.length xs.length none = xs.length) := by
  have e : HT.sIx xs.length 0 (some ((j : Int) + 1)) = j + 1 := by
    have := HT.sIx_nat xs.length 0 (j + 1)
    rw [show (((j + 1 : Nat)) : Int) = (j : Int) + 1 by omega] at this
    rw [this]
    omega
  refine ⟨?_, by rw [e]; omega⟩
  unfold cutV
  rw [e, HT.sIx_none]
  refine List.take_of_length_le ?_
  rw [List.length_drop]
  omega
/-! ### sorted of a tuple of ints -/
section
variable {prog : Program} {w : World} {A : Around} {E : Value → Shared → Prop} {s : Shared}
theorem collect_tupN {l : Addr} {vs : List Value} {Q : List Value → Shared → Prop} (hl : IsTup s.heap l vs.toArray)
    (h : Q vs { s with heap := (s.heap.push (seqObj "list" #[] 0)).update s.heap.objs.size (Obj.mapSeq (· ++ vs.toArray)) }) (hsz : vs.length ≤ sizeLine) :
    wpAny (model prog w) A (collect (.ref l)) Q E s := by
  obtain ⟨o, ho, hc, n, hd⟩ := id hl
  have h0 : (s.heap.push (seqObj "list" #[] 0)).get? s.heap.objs.size = some (seqObj "list" #[] 0) := Heap.get?_push_size _ rfl
  have h1 : (s.heap.push (seqObj "list" #[] 0)).get? l = some o := Heap.get?_push_of_some _ ho
  unfold collect
  refine wpAny_bind (wpAny_runValue (codeAny_builtin entry_proto_collect' ?_))
  refine wpAny_bind (wpAny_newList (wpAny_pure ⟨Code.quiet_builtin _ (by decide +kernel), codeAny_builtin entry_list_iadd' ?_⟩))
  show wpAny _ _ (Builtin.List.listExtendWith (.ref s.heap.objs.size) (.ref l) (.ref s.heap.objs.size)) _ _ { s with heap := s.heap.push (seqObj "list" #[] 0) }
  unfold Builtin.List.listExtendWith
  refine wpAny_bind (wpAny_typeOf (T := "tuple") ⟨o, h1, hc⟩ ?_)
  have ht : (Value.type "tuple" == Value.type "tuple") = true := by rfl
  rw [if_pos (by rw [ht]; simp)]
  refine wpAny_bind (listItems_at h1 hd ?_)
  refine wpAny_bind (listItems_at (xs := #[]) (n := 0) h0 rfl ?_)
  rw [if_neg (by simp)]
  refine wpAny_bind (listUpdate_at (xs := #[]) (n := 0) h0 rfl ?_ (Nat.zero_le _) (by show (#[] ++ vs.toArray).size ≤ sizeLine + 1; simp only [Array.size_append, List.size_toArray, List.length_nil]; omega))
  refine wpAny_pure ?_
  refine wpAny_bind (wpAny_load (get?_update_seq h0 _) ?_)
  show wpAny _ _ (pure ((#[] : Array Value) ++ vs.toArray).toList) Q E _
  rw [show ((#[] : Array Value) ++ vs.toArray).toList = vs by simp]
  exact wpAny_pure h
end
end Own

namespace Own
open PySem PySem.Spec PyProof.Rows L2 PySem.HandSPX SrtO
section
variable {prog : Program} {w : World} {A : Around} {E : Value → Shared → Prop} {s : Shared}
theorem sorted_tupI {l : Addr} {vs : List Value} {ns : List Int} {Q : Value → Shared → Prop} (hl : IsTup s.heap l vs.toArray) (hz : vs.length ≤ sizeLine) (hi : IntsAre vs ns)
    (h : ∀ out : List Value, Srtd ltIv out → Stb ltIv out vs → Q (.ref (s.heap.objs.size + 1)) { s with heap := sortedAll s.heap vs out.toArray }) :
    wpAny (model prog w) A (call (.builtin "sorted") [.ref l]) Q E s := by
  refine Calls.call_function_entry kind_sorted plain_sorted entry_sorted (args_sorted1 _) ?_
  unfold Builtin.«sorted»
  refine wpAny_bind (m := checkCount "sorted" 1 1 _) (wpAny_pure ?_)
  refine wpAny_bind (collect_tupN hl ?_ hz)
  refine wpAny_bind (wpAny_newList ?_ hz)
  have e1 : ((s.heap.push (seqObj "list" #[] 0)).update s.heap.objs.size (Obj.mapSeq (· ++ vs.toArray))).objs.size = s.heap.objs.size + 1 := by
    rw [Heap.size_update, size_push']
  have e2 : (((s.heap.push (seqObj "list" #[] 0)).update s.heap.objs.size (Obj.mapSeq (· ++ vs.toArray))).push (seqObj "list" vs.toArray 0)).get? (s.heap.objs.size + 1) = some (seqObj "list" vs.toArray 0) := by
    rw [← e1]; exact Heap.get?_push_size _ rfl
  show wpAny _ _ _ _ _ { s with heap := ((s.heap.push (seqObj "list" #[] 0)).update s.heap.objs.size (Obj.mapSeq (· ++ vs.toArray))).push (seqObj "list" vs.toArray 0) }
  rw [e1]
  refine wpAny_bind (wpAny_holding (wpAny_call_entry slot_list_sort ⟨_, e2, rfl⟩ entry_list_sort (list_sort_ord swo_int e2 hz (fun h2 => ints_sortable hi h2) fun out hs hb => ⟨_, rfl, ?_⟩) (args_list_sort _)))
  exact wpAny_pure ⟨_, rfl, h out hs hb⟩
end
/-- sorted(t), t a tuple of ints -/
def rSortedIT (K : PySem.W.Frag) : List V → Hp → VK → Prop := fun vs H Q => ∃ (a : Addr) (ns : List Int), vs = [V.ref a] ∧ SqT K H a (ns.map V.int) ∧
  ∀ (ns' : List Int) (p : Addr), ns'.Perm ns → ns'.Pairwise (· ≤ ·) → H p = none → Q (.ref p) (upd H p (.lst (ns'.map V.int)))
theorem cr_sortedIT {X : Cx} : CallR X (.builtin "sorted") (rSortedIT X.K) := by
  intro pins s σ H vs us Q I r h
  obtain ⟨a, ns, rfl, hs, q⟩ := h
  obtain ⟨its, rv, hl, hz⟩ := I.tuple hs
  rw [Vals.ref1 r]
  have hi := rv.ints
  refine sorted_tupI hl (by rw [← rv.length]; exact hz) hi fun out h1 h2 => ?_
  obtain ⟨k1, k2, k3⟩ := ints_out hi h1 h2
  obtain ⟨ep, he'⟩ := PyProof.Rows.sortedAll_at s.heap its out.toArray
  have hlen : ((out.map iv).map V.int).length ≤ sizeLine := by
    rw [List.length_map, k2.length_eq]
    rw [List.length_map] at hz
    exact hz
  exact ⟨.ref _, upd H (s.heap.objs.size + 1) (.lst ((out.map iv).map V.int)), I.laid (t' := s.toks) (fun _ _ => PyProof.Rows.sortedAll_old) (Nat.le_succ _) ⟨hlen, out, ep, vals_of_ints k1, he'⟩, rfl, q _ _ k2 k3 (I.hok.fresh (Nat.le_succ _))⟩
def CallR.or {X : Cx} {f : Value} {r r' : List V → Hp → VK → Prop} (a : CallR X f r) (b : CallR X f r') : CallR X f fun vs H Q => r vs H Q ∨ r' vs H Q :=
  fun pins s σ H vs us Q I rv h => h.elim (fun q => a pins s σ H vs us Q I rv q) fun q => b pins s σ H vs us Q I rv q
end Own

namespace Own
open PySem L2 PySem.HandSPX
/-! ### check_scans -/
abbrev sScans : Stmt := topT 28
abbrev sSlips : Stmt := topT 29
abbrev sSlipW : Stmt := topT 30
abbrev sStretch : Stmt := topT 31
def dInt : PyData → Int
  | .int n => n
  | _ => 0
def scanOk (hi : Int) (seen : List Int) (d : PyData) : Bool := numB d 1 hi && !inV (.int (dInt d)) (seen.map V.int)
/-- the first scan that is refused -/
def badScan (hi : Int) : List Int → List PyData → Option PyData
  | _, [] => none
  | seen, d :: r => if scanOk hi seen d = true then badScan hi (seen ++ [dInt d]) r else some d
theorem badScan_cons (hi : Int) (seen : List Int) (d : PyData) (r : List PyData) : badScan hi seen (d :: r) = if scanOk hi seen d = true then badScan hi (seen ++ [dInt d]) r else some d := rfl
def spCkS (K : PySem.W.Frag) (cP : Addr) : Sp := fun vs H Q E => ∃ (a : Addr) (xs : List V) (ds : List PyData) (last : Int), vs = [.ref a, .int last] ∧ Sq K H a xs ∧ DpAll K H xs ds ∧ (∀ d ∈ ds, Shal 2 d) ∧ xs.length ≤ sizeLine ∧
  (badScan (last - 1) [] ds = none → ∀ H', Same H H' → Q .non H') ∧
  (∀ d, badScan (last - 1) [] ds = some d → ∀ dd H', ErrOut K H H' dd "InvalidPoint" "given" d → E (.ref cP) (some dd) H')
theorem drop_at {α : Type} {l : List α} {i : Nat} {x : α} (h : l[i]? = some x) : l.drop i = x :: l.drop (i + 1) := by
  obtain ⟨hi, rfl⟩ := List.getElem?_eq_some_iff.mp h
  exact List.drop_eq_getElem_cons hi
theorem numB_int {d : PyData} {lo hi : Int} (h : numB d lo hi = true) : ∃ n, d = .int n := by
  cases d <;> first | exact ⟨_, rfl⟩ | cases h
theorem flat_ints (ns : List Int) : (ns.map V.int).all flatV = true := by
  rw [List.all_map]
  exact List.all_eq_true.mpr fun _ _ => rfl
section
variable {P : Program} {w : World} {K : PySem.W.Frag} {mg : Str → Option Value} {base : Heap}
theorem scScans : FnScope ["scans", "last", "seen", "point"] ["scans", "last"] (defScope sScans) := ⟨rfl, rfl, rfl, by decide +kernel, rfl, by decide +kernel, by decide +kernel⟩
theorem ok_ckS {f fN cP : Addr} {fd fdN : FuncData} (F : Fun K "check_scans" "check_scans" sScans f fd) (GN : FnOk P w K mg base CX0 1 fN fdN ["value", "least", "most"] (spNumD K)) (mN : mg "is_number" = some (.ref fN)) (kN : PySem.W.keepIn K (.ref fN) = true) (bN : Binds K fdN ["value", "least", "most"] [])
    (c : ErrC P w K mg base "InvalidPoint" "given" cP) : FnOk P w K mg base (L2.CX P w) 6 f fd ["scans", "last"] (spCkS K cP) := by
  refine F.okX scScans (fun vs H Q E h => ?_) (fun cdv A outer s H vs Q E hr h => ?_)
  · obtain ⟨a, xs, ds, last, rfl, _⟩ := h
    rfl
  · obtain ⟨a, xs, ds, last, rfl, hq, hd, hs, hz, k1, k2⟩ := h
    refine ⟨_, pss_cons (ps_set (i := 2) scScans.nd rfl (Or.inl rfl) (pe_lst pa_nil))
      (pss_one (ps_for (passes_of rfl) rfl (pi_sq (pv 0)) (pg_name (i := 3) scScans.nd rfl (Or.inl rfl))
        (pss_cons (ps_if (PW.pt (pw_or (pt_not (pt_val (pe_call GN (hr.mono (by decide)) rfl mN kN bN .nil pass0 (pa_cons (pv 3) (pa_cons pe_int (pa_cons (pe_sub (pv 1) pe_int) pa_nil)))))) (pw_or1 (pt_cmpR op_in_seq (pv 3) (pv 2) (by rfl)))))
          (pss_one (ps_raise rfl (takes_of rfl rfl rfl rfl) (pmk_err c hr (by rfl) (pa_cons (pv 3) pa_nil) (fun σ H R R' f ⟨x, h, q⟩ => ⟨x, h, f _ _ q⟩)))) pss_nil)
        (pss_one (ps_expr (pe_bm PySem.F.plainAttrs_list PySem.F.slot_list_append PySem.F.type_list_append mt_append (pv 2) (pa_cons (pv 3) pa_nil))))))), ?_⟩
    refine ⟨Nat.zero_le _, fun S hS => ?_⟩
    have sm : ∀ ns : List V, Same H (upd H S (.lst ns)) := fun ns b o e => by rw [upd_ne (ne_of_none e hS)]; exact e
    refine for_sq (K := K) (a := a) (xs := xs) (H0 := H) rfl hq (Seqs.of (sm [])) (fun i σ H' => ∃ (v : Option V) (ns : List Int), σ = [some (.ref a), some (.int last), some (.ref S), v] ∧ H' = upd H S (.lst (ns.map V.int)) ∧ ns.length = i ∧ badScan (last - 1) [] ds = badScan (last - 1) ns (ds.drop i)) ⟨_, [], rfl, rfl, rfl, rfl⟩ ?_ ?_ ?_
    · rintro i σ H' _ ⟨v, ns, rfl, rfl, _⟩
      exact Seqs.of (sm _)
    · rintro i y σ H' hi ⟨v, ns, rfl, rfl, hl, hb⟩
      obtain ⟨d, hdi, hdy⟩ := dpAll_get2 hd hi
      have hdy' : Dp K (upd H S (.lst (ns.map V.int))) y d := dp_same (sm _) _ _ hdy
      rw [drop_at hdi] at hb
      have bad : scanOk (last - 1) ns d = false → tErr K cP "InvalidPoint" "given" (tCons (tVar 3) tNil) [some (.ref a), some (.int last), some (.ref S), some y] (upd H S (.lst (ns.map V.int))) (fun cls d H' => E cls d H') := fun hn => by
        refine ⟨_, rfl, y, d, rfl, hdy', hs d (List.mem_of_getElem? hdi), fun dd H' eo => k2 d ?_ dd H' (eo.pre (sm _))⟩
        rw [hb]
        unfold badScan
        rw [hn]
        rfl
      refine ⟨_, rfl, _, rfl, _, _, rfl, rfl, y, d, 1, last - 1, rfl, hdy', _, rfl, ite2 (fun c1 => ?_) (fun c1 => ?_)⟩
      · refine iteT (bad ?_)
        unfold scanOk
        rw [show numB d 1 (last - 1) = false by simpa using c1]
        rfl
      · have c1' : numB d 1 (last - 1) = true := by simpa using c1
        obtain ⟨n, rfl⟩ := numB_int c1'
        cases hdy
        refine ⟨_, rfl, _, rfl, S, ns.map V.int, rfl, .inl (SqL.of upd_same), rfl, flat_ints ns, _, rfl, ite2 (fun c2 => ?_) (fun c2 => ?_)⟩
        · refine bad ?_
          unfold scanOk
          rw [c1', show inV (.int (dInt (.int n))) (ns.map V.int) = true from c2]
          rfl
        · have c2' : inV (.int n) (ns.map V.int) = false := by simpa using c2
          have hlt : i < xs.length := (List.getElem?_eq_some_iff.mp hi).1
          refine ⟨_, rfl, .inl ⟨rfl, _, SqL.of upd_same⟩, _, rfl, S, ns.map V.int, _, rfl, rfl, upd_same, by rw [List.length_map]; omega, ?_⟩
          refine ⟨_, ns ++ [n], rfl, ?_, by rw [List.length_append, hl]; rfl, ?_⟩
          · rw [upd_upd, List.map_append]
            rfl
          · rw [hb]
            show badScan (last - 1) ns (.int n :: _) = _
            rw [badScan_cons, if_pos (show scanOk (last - 1) ns (.int n) = true by unfold scanOk; rw [c1', show inV (.int (dInt (.int n))) (ns.map V.int) = false from c2']; rfl)]
            rfl
    · rintro σ H' ⟨v, ns, rfl, rfl, hl, hb⟩
      refine k1 ?_ _ (sm _)
      rw [hb, List.drop_of_length_le (by rw [dpAll_len _ _ hd]; exact Nat.le_refl _)]
      unfold badScan
      rfl
end
end Own

namespace Own
open PySem L2 PySem.HandSPX
/-! ### check_slips -/
def slipsOk : PyData → Bool
  | .tuple [x, y] => numB x 0 3 && numB y 1 6
  | _ => false
def spCkP (K : PySem.W.Frag) (cN : Addr) : Sp := fun vs H Q E => ∃ (v : V) (d : PyData), vs = [v] ∧ Dp K H v d ∧ Shal 2 d ∧ (slipsOk d = true → Q .non H) ∧ (slipsOk d = false → ∀ dd H', ErrOut K H H' dd "InvalidNumber" "given" d → E (.ref cN) (some dd) H')
section
variable {P : Program} {w : World} {K : PySem.W.Frag} {mg : Str → Option Value} {base : Heap}
theorem scSlips : FnScope ["slips"] ["slips"] (defScope sSlips) := ⟨rfl, rfl, rfl, by decide +kernel, rfl, by decide +kernel, by decide +kernel⟩
theorem ok_ckP {f fN cN : Addr} {fd fdN : FuncData} {t1 t2 : Tok} (F : Fun K "check_slips" "check_slips" sSlips f fd) (GN : FnOk P w K mg base CX0 1 fN fdN ["value", "least", "most"] (spNumD K)) (mN : mg "is_number" = some (.ref fN)) (kN : PySem.W.keepIn K (.ref fN) = true) (bN : Binds K fdN ["value", "least", "most"] [])
    (zI : mg "isinstance" = none) (zT : mg "tuple" = none) (zL : mg "len" = none) (mS : mg "MOST_SLIPS" = some (.int 3 t1)) (mA : mg "MOST_AMONG" = some (.int 6 t2))
    (c : ErrC P w K mg base "InvalidNumber" "given" cN) : FnOk P w K mg base (L2.CX P w) 6 f fd ["slips"] (spCkP K cN) := by
  refine F.okX scSlips (fun vs H Q E h => ?_) (fun cdv A outer s H vs Q E hr h => ?_)
  · obtain ⟨v, d, rfl, _⟩ := h
    rfl
  · obtain ⟨v, d, rfl, hd, hs, k1, k2⟩ := h
    refine ⟨_, pss_cons (ps_if (PW.pt (pw_or (pt_not (pt_val (pe_callB call_isi (by rfl) zI (by decide +kernel) (pa_cons (pv 0) (pa_cons (pe_bltn (v := .ty "tuple") (by rfl) zT (by decide +kernel) rfl) pa_nil))))) (pw_or1 (pt_cmpR op_ne (pe_callB call_len_seq (by rfl) zL PySem.boot_len (pa_cons (pv 0) pa_nil)) pe_int (by rfl)))))
        (pss_one (ps_raise rfl (takes_of rfl rfl rfl rfl) (pmk_err c hr (by rfl) (pa_cons (pv 0) pa_nil) (fun σ H R R' f ⟨x, h, q⟩ => ⟨x, h, f _ _ q⟩)))) pss_nil)
      (pss_one (ps_if (PW.pt (pw_or (pt_not (pt_val (pe_call GN (hr.mono (by decide)) rfl mN kN bN .nil pass0 (pa_cons (pe_ix ix_tup (pv 0) pe_int (fun _ _ => rfl)) (pa_cons pe_int (pa_cons (pe_glob (v := .int 3) (by rfl) mS ⟨_, rfl⟩) pa_nil))))))
          (pw_or1 (pt_not (pt_val (pe_call GN (hr.mono (by decide)) rfl mN kN bN .nil pass0 (pa_cons (pe_ix ix_tup (pv 0) pe_int (fun _ _ => rfl)) (pa_cons pe_int (pa_cons (pe_glob (v := .int 6) (by rfl) mA ⟨_, rfl⟩) pa_nil)))))))))
        (pss_one (ps_raise rfl (takes_of rfl rfl rfl rfl) (pmk_err c hr (by rfl) (pa_cons (pv 0) pa_nil) (fun σ H R R' f ⟨x, h, q⟩ => ⟨x, h, f _ _ q⟩)))) pss_nil)), ?_⟩
    have bad : slipsOk d = false → tErr K cN "InvalidNumber" "given" (tCons (tVar 0) tNil) (start ["slips"] [v]) H (fun cls d H' => E cls d H') := fun hn => ⟨_, rfl, v, d, rfl, hd, hs, fun dd H' eo => k2 hn dd H' eo⟩
    cases hd with
    | non => exact ⟨_, rfl, _, _, .type "NoneType", .type "tuple", false, rfl, .ty _, .base .non, kit_ty (by decide +kernel), false, rfl, iteT (iteT (bad rfl))⟩
    | bl b => exact ⟨_, rfl, _, _, .type "bool", .type "tuple", false, rfl, .ty _, .base (.bl b), kit_ty (by decide +kernel), false, rfl, iteT (iteT (bad rfl))⟩
    | int n => exact ⟨_, rfl, _, _, .type "int", .type "tuple", false, rfl, .ty _, .base (.int n), kit_ty (by decide +kernel), false, rfl, iteT (iteT (bad rfl))⟩
    | str z => exact ⟨_, rfl, _, _, .type "str", .type "tuple", false, rfl, .ty _, .base (.str z), kit_ty (by decide +kernel), false, rfl, iteT (iteT (bad rfl))⟩
    | lst h1 h2 => exact ⟨_, rfl, _, _, .type "list", .type "tuple", false, rfl, .ty _, sqL_ty h1, kit_ty (by decide +kernel), false, rfl, iteT (iteT (bad rfl))⟩
    | @tup a xs ds h1 h2 =>
      have hlen := dpAll_len _ _ h2
      refine ⟨_, rfl, _, _, .type "tuple", .type "tuple", true, rfl, .ty _, sqT_ty h1, kit_ty (by decide +kernel), true, rfl, iteF ?_⟩
      refine ⟨_, rfl, a, xs, rfl, .inr h1, rfl, _, rfl, ite2 (fun c1 => ?_) (fun c1 => ?_)⟩
      · refine bad ?_
        match ds, hlen with
        | [], _ => rfl
        | [_], _ => rfl
        | _ :: _ :: _ :: _, _ => rfl
        | [_, _], hl =>
          rw [hl] at c1
          exact absurd c1 (by simp)
      · have e2 : xs.length = 2 := by
          have q : V.int (xs.length : Int) = V.int 2 := by simpa using c1
          have q' : (xs.length : Int) = 2 := V.int.inj q
          omega
        obtain ⟨x, y, rfl⟩ : ∃ x y, xs = [x, y] := match xs, e2 with | [x, y], _ => ⟨x, y, rfl⟩
        clear c1 e2 hlen
        obtain ⟨d1, d2, rfl, g1, g2⟩ : ∃ d1 d2, ds = [d1, d2] ∧ Dp K H x d1 ∧ Dp K H y d2 := by
          cases h2 with
          | cons g1 t =>
            cases t with
            | cons g2 t2 => cases t2; exact ⟨_, _, rfl, g1, g2⟩
        have a0 : atI [x, y] 0 = some x := rfl
        have a1 : atI [x, y] 1 = some y := rfl
        refine ⟨_, rfl, a, [x, y], 0, x, rfl, rfl, h1, a0, x, d1, 0, 3, rfl, g1, _, rfl, ite2 (fun c2 => ?_) (fun c2 => ?_)⟩
        · refine iteT (bad ?_)
          have q : numB d1 0 3 = false := by simpa using c2
          show (numB d1 0 3 && numB d2 1 6) = false
          rw [q]
          rfl
        · have q : numB d1 0 3 = true := by simpa using c2
          refine ⟨_, rfl, a, [x, y], 1, y, rfl, rfl, h1, a1, y, d2, 1, 6, rfl, g2, _, rfl, ite2 (fun c3 => ?_) (fun c3 => ?_)⟩
          · refine bad ?_
            have q3 : numB d2 1 6 = false := by simpa using c3
            show (numB d1 0 3 && numB d2 1 6) = false
            rw [q, q3]
            rfl
          · have q3 : numB d2 1 6 = true := by simpa using c3
            refine k1 ?_
            show (numB d1 0 3 && numB d2 1 6) = true
            rw [q, q3]
            rfl
end
end Own

namespace Own
open PySem L2 PySem.HandSPX
section
variable {P : Program} {w : World} {K : PySem.W.Frag} {mg : Str → Option Value} {base : Heap}
/-! ### check_stretch -/
def strOk : PyData → Bool
  | .none => true
  | d => numB d 1 12
def spCkT (K : PySem.W.Frag) (cN : Addr) : Sp := fun vs H Q E => ∃ (v : V) (d : PyData), vs = [v] ∧ Dp K H v d ∧ Shal 2 d ∧ (strOk d = true → Q .non H) ∧ (strOk d = false → ∀ dd H', ErrOut K H H' dd "InvalidNumber" "given" d → E (.ref cN) (some dd) H')
theorem scStretch : FnScope ["stretch"] ["stretch"] (defScope sStretch) := ⟨rfl, rfl, rfl, by decide +kernel, rfl, by decide +kernel, by decide +kernel⟩
theorem ok_ckT {f fN cN : Addr} {fd fdN : FuncData} {t1 : Tok} (F : Fun K "check_stretch" "check_stretch" sStretch f fd) (GN : FnOk P w K mg base (L2.CX P w) 6 fN fdN ["value", "least", "most"] (spCkN K cN)) (mN : mg "check_number" = some (.ref fN)) (kN : PySem.W.keepIn K (.ref fN) = true) (bN : Binds K fdN ["value", "least", "most"] [])
    (mS : mg "MOST_STRETCH" = some (.int 12 t1)) : FnOk P w K mg base (L2.CX P w) 7 f fd ["stretch"] (spCkT K cN) := by
  refine F.okX scStretch (fun vs H Q E h => ?_) (fun cdv A outer s H vs Q E hr h => ?_)
  · obtain ⟨v, d, rfl, _⟩ := h
    rfl
  · obtain ⟨v, d, rfl, hd, hs, k1, k2⟩ := h
    refine ⟨_, pss_one (ps_if (pt_cmp (pc_notN (pv 0))) (pss_one (ps_expr (pe_call GN hr rfl mN kN bN .nil (passes_call (takes_of rfl rfl rfl rfl) (fun _ _ _ _ h => h)) (pa_cons (pv 0) (pa_cons pe_int (pa_cons (pe_glob (v := .int 12) (by rfl) mS ⟨_, rfl⟩) pa_nil)))))) pss_nil), ?_⟩
    refine ⟨_, rfl, _, rfl, ?_⟩
    by_cases hn : d = .none
    · subst hn
      cases hd
      exact iteF (k1 rfl)
    · have e : strOk d = numB d 1 12 := by cases d <;> first | exact absurd rfl hn | rfl
      have hv : decide (v = .non) = false := decide_eq_false fun z => by
        subst z
        cases hd
        exact hn rfl
      rw [hv]
      exact iteT ⟨_, rfl, v, d, 1, 12, rfl, hd, hs, fun q => k1 (e.trans q), fun q => k2 (e.trans q)⟩
end
end Own

namespace Own
open PySem L2 PySem.HandSPX
/-! ### check_slip_words -/
def slipW : List Str := ["missed", "twice", "swapped"]
def afterW (z : Str) : List Str → List Str
  | [] => []
  | w :: r => if w = z then r else afterW z r
def tailW : PyData → List Str → List Str
  | .str z, ws => afterW z ws
  | _, ws => ws
/-- the first word that is refused -/
def badWord : List Str → List PyData → Option PyData
  | _, [] => none
  | ws, d :: r => if wordB d ws = true then badWord (tailW d ws) r else some d
theorem badWord_cons (ws : List Str) (d : PyData) (r : List PyData) : badWord ws (d :: r) = if wordB d ws = true then badWord (tailW d ws) r else some d := rfl
theorem after_at {z : Str} : ∀ {ws : List Str}, wordB (.str z) ws = true → ∃ j, j < ws.length ∧ ws[j]? = some z ∧ (∀ m, m < j → ws[m]? ≠ some z) ∧ ws.drop (j + 1) = afterW z ws
  | [], h => by cases h
  | w :: r, h => by
    unfold afterW
    by_cases e : w = z
    · rw [if_pos e]
      exact ⟨0, Nat.succ_pos _, by rw [e]; rfl, fun m hm => absurd hm (Nat.not_lt_zero _), rfl⟩
    · rw [if_neg e]
      have h' : wordB (.str z) r = true := by
        have q : ((w == z) || r.any fun w => w == z) = true := h
        have n : (w == z) = false := beq_false_of_ne e
        rw [n] at q
        exact q
      obtain ⟨j, h1, h2, h3, h4⟩ := after_at h'
      refine ⟨j + 1, Nat.succ_lt_succ h1, h2, fun m hm => ?_, h4⟩
      cases m with
      | zero => exact fun q => e (Option.some.inj q)
      | succ m => exact h3 m (Nat.lt_of_succ_lt_succ hm)
def spCkSW (K : PySem.W.Frag) (cW : Addr) : Sp := fun vs H Q E => ∃ (a : Addr) (xs : List V) (ds : List PyData), vs = [.ref a] ∧ Sq K H a xs ∧ DpAll K H xs ds ∧ (∀ d ∈ ds, Shal 2 d ∧ ∀ es, d ≠ .tuple es) ∧
  (badWord slipW ds = none → ∀ H', Same H H' → Q .non H') ∧
  (∀ d, badWord slipW ds = some d → ∀ dd H', ErrOut K H H' dd "InvalidWord" "given" d → E (.ref cW) (some dd) H')
/-- a tuple of the top that holds no dict -/
def KD (K : PySem.W.Frag) (a : Addr) : Prop := ∃ o, K.lookup a = some o ∧ o.cls = .type "tuple" ∧ o.dict = none
section
variable {P : Program} {w : World} {K : PySem.W.Frag} {mg : Str → Option Value} {base : Heap}
theorem scSlipW : FnScope ["words", "left", "word"] ["words"] (defScope sSlipW) := ⟨rfl, rfl, rfl, by decide +kernel, rfl, by decide +kernel, by decide +kernel⟩
theorem ok_ckSW {f fN cW tS : Addr} {fd fdN : FuncData} (F : Fun K "check_slip_words" "check_slip_words" sSlipW f fd) (GN : FnOk P w K mg base (L2.CX P w) 6 fN fdN ["value", "words"] (spCkW K cW)) (mN : mg "check_word" = some (.ref fN)) (kN : PySem.W.keepIn K (.ref fN) = true) (bN : Binds K fdN ["value", "words"] [])
    (mS : mg "SLIP_WORDS" = some (.ref tS)) (hS : KT K tS (slipW.map V.str)) (hD : KD K tS) : FnOk P w K mg base (L2.CX P w) 7 f fd ["words"] (spCkSW K cW) := by
  refine F.okX scSlipW (fun vs H Q E h => ?_) (fun cdv A outer s H vs Q E hr h => ?_)
  · obtain ⟨a, xs, ds, rfl, _⟩ := h
    rfl
  · obtain ⟨a, xs, ds, rfl, hq, hd, hs, k1, k2⟩ := h
    refine ⟨_, pss_cons (ps_set (i := 1) scSlipW.nd rfl (Or.inl rfl) (pe_glob (v := .ref tS) (by rfl) mS rfl))
      (pss_one (ps_for (passes_of rfl) rfl (pi_sq (pv 0)) (pg_name (i := 2) scSlipW.nd rfl (Or.inl rfl))
        (pss_cons (ps_expr (pe_call GN hr rfl mN kN bN .nil (passes_call (takes_of rfl rfl rfl rfl) (fun _ _ _ _ h => h)) (pa_cons (pv 2) (pa_cons (pv 1) pa_nil))))
        (pss_one (ps_set (i := 1) scSlipW.nd rfl (Or.inl rfl) (pe_slice sl_tupF (pv 1) (po_some (pe_add (pe_mG ty_tup PySem.F.plainAttrs_tuple PySem.F.slot_tuple_index PySem.F.type_tuple_index mt_tup_index (pv 1) (pa_cons (pv 2) pa_nil)) pe_int)) po_none)))))), ?_⟩
    refine for_sq (K := K) (a := a) (xs := xs) (H0 := H) rfl hq (Seqs.of (Same.refl _)) (fun i σ H' => ∃ (v : Option V) (p : Addr) (ws : List Str), σ = [some (.ref a), some (.ref p), v] ∧ Same H H' ∧ SqT K H' p (ws.map V.str) ∧ tyTup K (.ref p) H' ∧ badWord slipW ds = badWord ws (ds.drop i)) ⟨_, tS, slipW, rfl, Same.refl _, .inr hS, ⟨tS, rfl, .inl hD⟩, rfl⟩ ?_ ?_ ?_
    · rintro i σ H' _ ⟨v, p, ws, rfl, sm, _⟩
      exact Seqs.of sm
    · rintro i y σ H' hi ⟨v, p, ws, rfl, sm, hp, ht, hb⟩
      obtain ⟨d, hdi, hdy⟩ := dpAll_get2 hd hi
      have hdy' : Dp K H' y d := dp_same sm _ _ hdy
      rw [drop_at hdi, badWord_cons] at hb
      obtain ⟨q1, q2⟩ := hs d (List.mem_of_getElem? hdi)
      refine ⟨_, rfl, _, rfl, y, d, p, ws, rfl, hp, hdy', q1, q2, fun g => ?_, fun g dd H'' eo => k2 d (by rw [hb, if_neg (by rw [g]; exact Bool.false_ne_true)]) dd H'' (eo.pre sm)⟩
      rw [if_pos g] at hb
      obtain ⟨z, rfl⟩ : ∃ z, d = .str z := by cases d <;> first | exact ⟨_, rfl⟩ | cases g
      cases hdy
      obtain ⟨j, j1, j2, j3, j4⟩ := after_at g
      have hl : (ws.map V.str).length = ws.length := List.length_map _
      obtain ⟨e1, e2⟩ := cut_tail (ws.map V.str) j (by rw [hl]; exact j1)
      refine ⟨_, rfl, _, rfl, ht, _, rfl, p, ws, z, j, rfl, rfl, hp, j2, j3, _, _, rfl, rfl, _, rfl, p, _, rfl, hp, e2, fun p' ob np cb db => ?_⟩
      refine ⟨_, p', afterW z ws, rfl, sm.new np, ?_, ⟨p', rfl, .inr ⟨ob, _, upd_same, cb, db⟩⟩, hb⟩
      rw [e1, ← List.map_drop, j4]
      exact .inl (.inr ⟨ob, upd_same⟩)
    · rintro σ H' ⟨v, p, ws, rfl, sm, _, _, hb⟩
      refine k1 ?_ _ sm
      rw [hb, List.drop_of_length_le (by rw [dpAll_len _ _ hd]; exact Nat.le_refl _)]
      unfold badWord
      rfl
end
end Own

namespace Own
open PySem L2 ClX PySem.HandSPX
abbrev sLI : Stmt := inClass (topT 27) 1
def errN : Nat → Str
  | 0 => "WrongCount"
  | 1 => "InvalidNumber"
  | 2 => "InvalidWord"
  | _ => "InvalidPoint"
/-- what is wrong with these values of a line, first -/
def lnErr (n : Nat) (ds dS : List PyData) (dP : PyData) (dW : List PyData) (dT : PyData) : Option (Nat × PyData) :=
  if ¬ (1 ≤ n ∧ n ≤ 3) then some (0, .int n) else
  match firstBad ds 1 3 with
  | some d => some (1, d)
  | none => match badScan ((n : Int) - 1) [] dS with
    | some d => some (3, d)
    | none => if slipsOk dP = false then some (1, dP) else
      match badWord slipW dW with
      | some d => some (2, d)
      | none => if strOk dT = false then some (1, dT) else none
/-- the attributes of a line -/
def lnf (t tS : Addr) (vP : V) (tW : Addr) (vT : V) : List (Str × V) := putF "_stretch" vT (putF "_words" (.ref tW) (putF "_slips" vP (putF "_scans" (.ref tS) (putF "_belts" (.ref t) []))))
/-- Line.__init__, any values -/
def spLn (K : PySem.W.Frag) (C : Addr) (cA : Nat → Addr) : Sp := fun vs H Q E => ∃ (x dx t aS aW : Addr) (xs xS xW : List V) (ds dS dW : List PyData) (vP vT : V) (dP dT : PyData), vs = [.ref x, .ref aS, vP, .ref aW, vT, .ref t] ∧ H x = some (.ins C dx []) ∧
  SqT K H t xs ∧ DpAll K H xs ds ∧ (∀ d ∈ ds, Shal 2 d) ∧ Sq K H aS xS ∧ DpAll K H xS dS ∧ (∀ d ∈ dS, Shal 2 d) ∧ xS.length ≤ sizeLine ∧ Sq K H aW xW ∧ DpAll K H xW dW ∧ (∀ d ∈ dW, Shal 2 d ∧ ∀ es, d ≠ .tuple es) ∧ Dp K H vP dP ∧ Shal 2 dP ∧ Dp K H vT dT ∧ Shal 2 dT ∧
  (∀ n d, lnErr xs.length ds dS dP dW dT = some (n, d) → ∀ dd H', ErrOut K H H' dd (errN n) "given" d → E (.ref (cA n)) (some dd) H') ∧
  (lnErr xs.length ds dS dP dW dT = none → ∀ (H' : Hp) (tS tW : Addr) (ns : List Int), H' x = some (.ins C dx (lnf t tS vP tW vT)) → (∀ b o, b ≠ x → H b = some o → H' b = some o) → ns.Perm (dS.map dInt) → ns.Pairwise (· ≤ ·) → SqT K H' tS (ns.map V.int) → SqT K H' tW xW → Q .non H')
theorem putF_len {f : Str} {y : V} : ∀ {k : Nat} {fs : List (Str × V)}, fs.length ≤ k → (putF f y fs).length ≤ k + 1
  | k, [], h => by show 1 ≤ k + 1; omega
  | k, (g, z) :: r, h => by
    unfold putF
    split
    · exact Nat.le_succ_of_le h
    · have h' : r.length + 1 ≤ k := h
      have q := putF_len (f := f) (y := y) (k := k - 1) (fs := r) (by omega)
      show (putF f y r).length + 1 ≤ k + 1
      omega
theorem putF_small {f : Str} {y : V} {k : Nat} {fs : List (Str × V)} (h : fs.length ≤ k) (hk : k < 900) : (putF f y fs).length < 1000 := by
  have := putF_len (f := f) (y := y) h
  omega
theorem scans_ints {K : PySem.W.Frag} {H : Hp} {hi : Int} : ∀ {ds : List PyData} {xs : List V} {seen : List Int}, badScan hi seen ds = none → DpAll K H xs ds → xs = (ds.map dInt).map V.int
  | [], xs, seen, _, h => by cases h; rfl
  | d :: ds, xs, seen, hb, h => by
    rw [badScan_cons] at hb
    by_cases g : scanOk hi seen d = true
    · rw [if_pos g] at hb
      cases h with
      | cons h1 h2 =>
        have g1 : numB d 1 hi = true := by
          unfold scanOk at g
          exact (Bool.and_eq_true_iff.mp g).1
        obtain ⟨n, rfl⟩ := numB_int g1
        cases h1
        rw [List.map_cons, List.map_cons, ← scans_ints hb h2]
        rfl
    · rw [if_neg g] at hb
      cases hb
theorem sq_sorted {K : PySem.W.Frag} {H : Hp} {a : Addr} {ns : List Int} {Q : VK} (h : Sq K H a (ns.map V.int)) (q : ∀ (ns' : List Int) (p : Addr), ns'.Perm ns → ns'.Pairwise (· ≤ ·) → H p = none → Q (.ref p) (upd H p (.lst (ns'.map V.int)))) : rSortedI K [.ref a] H Q ∨ rSortedIT K [.ref a] H Q :=
  h.elim (fun h => .inl ⟨a, ns, rfl, h, q⟩) fun h => .inr ⟨a, ns, rfl, h, q⟩
theorem ins_sq {C dx : Addr} {fs : List (Str × V)} : ¬ IsSq (.ins C dx fs) := by
  rintro ⟨xs, h | h | ⟨ob, h⟩ | ⟨ob, h⟩⟩ <;> cases h
section
variable {P : Program} {w : World} {K : PySem.W.Frag} {mg : Str → Option Value} {base : Heap}
/-- the checks, as they stand -/
structure CkL (P : Program) (w : World) (K : PySem.W.Frag) (mg : Str → Option Value) (base : Heap) (cA : Nat → Addr) : Prop where
  R : ∃ f fd, FnOk P w K mg base (L2.CX P w) 7 f fd ["rooms", "most"] (spCkR K (cA 0) (cA 1)) ∧ mg "check_rooms" = some (.ref f) ∧ PySem.W.keepIn K (.ref f) = true ∧ Binds K fd ["rooms", "most"] []
  S : ∃ f fd, FnOk P w K mg base (L2.CX P w) 6 f fd ["scans", "last"] (spCkS K (cA 3)) ∧ mg "check_scans" = some (.ref f) ∧ PySem.W.keepIn K (.ref f) = true ∧ Binds K fd ["scans", "last"] []
  Pp : ∃ f fd, FnOk P w K mg base (L2.CX P w) 6 f fd ["slips"] (spCkP K (cA 1)) ∧ mg "check_slips" = some (.ref f) ∧ PySem.W.keepIn K (.ref f) = true ∧ Binds K fd ["slips"] []
  W : ∃ f fd, FnOk P w K mg base (L2.CX P w) 7 f fd ["words"] (spCkSW K (cA 2)) ∧ mg "check_slip_words" = some (.ref f) ∧ PySem.W.keepIn K (.ref f) = true ∧ Binds K fd ["words"] []
  T : ∃ f fd, FnOk P w K mg base (L2.CX P w) 7 f fd ["stretch"] (spCkT K (cA 1)) ∧ mg "check_stretch" = some (.ref f) ∧ PySem.W.keepIn K (.ref f) = true ∧ Binds K fd ["stretch"] []
structure LnF (K : PySem.W.Frag) (mg : Str → Option Value) (C : Addr) : Prop where
  cl : Cls K C
  at_ : mg "Line" = some (.ref C)
  n1 : NoAttr K C "_belts"
  n2 : NoAttr K C "_scans"
  n3 : NoAttr K C "_slips"
  n4 : NoAttr K C "_words"
  n5 : NoAttr K C "_stretch"
  most : ∃ mc tk, CRead K C mc ∧ CVal K C mc "MOST" (.int 3) (.int 3 tk)
  zL : mg "len" = none
  zT : mg "tuple" = none
  zS : mg "sorted" = none
theorem scLI : FnScope ["self", "scans", "slips", "words", "stretch", "belts"] ["self", "scans", "slips", "words", "stretch", "belts"] (defScope sLI) := ⟨rfl, rfl, rfl, by decide +kernel, rfl, by decide +kernel, by decide +kernel⟩
theorem body_ln {C : Addr} {cA : Nat → Addr} {f : Addr} {qual : Str} {cdv : Value} {A : Around} {outer : List Env} {s : Shared} {H : Hp} {vs : List V} {Q : VK} {E : XK} (T : LnF K mg C) (c : CkL P w K mg base cA)
    (hr : Room 7 (A.deeper (PyProof.Rows.envOfC qual (defScope sLI) s.heap.objs.size f cdv))) (h : spLn K C cA vs H Q E) :
    ∃ t, PSs (cxOf (L2.CX P w) P w K mg base ["self", "scans", "slips", "words", "stretch", "belts"] qual (defScope sLI) f cdv A outer s H E) (defBody sLI) t ∧ t { nx := fun _ H' => Q .non H', rt := Q } (start ["self", "scans", "slips", "words", "stretch", "belts"] vs) H := by
  obtain ⟨x, dx, t, aS, aW, xs, xS, xW, ds, dS, dW, vP, vT, dP, dT, rfl, hx, ht, hds, hsh, hS, hdS, hsS, hzS, hW, hdW, hsW, hP, hsP, hT, hsT, kE, kQ⟩ := h
  obtain ⟨mc, tk, cr, cv⟩ := T.most
  obtain ⟨fR, gR, GR, mR, kR, bR⟩ := c.R
  obtain ⟨fS, gS, GS, mS, kS, bS⟩ := c.S
  obtain ⟨fP, gP, GP, mP, kP, bP⟩ := c.Pp
  obtain ⟨fW, gW, GW, mW, kW, bW⟩ := c.W
  obtain ⟨fT, gT, GT, mT, kT, bT⟩ := c.T
  have nd := scLI.nd
  have px : ∀ {N : List Str}, Passes (L2.CX P w) (cxOf (L2.CX P w) P w K mg base N qual (defScope sLI) f cdv A outer s H E) E := passes_call (takes_of rfl rfl rfl rfl) (fun _ _ _ _ h => h)
  refine ⟨_, (pss_cons (ps_expr (pe_call GR hr rfl mR kR bR .nil px (pa_cons (pv 5) (pa_cons (pe_cval (pe_glob (v := .ref C) (by rfl) T.at_ rfl)) pa_nil))))
    (pss_cons (ps_expr (pe_call GS (hr.mono (by decide)) rfl mS kS bS .nil px (pa_cons (pv 1) (pa_cons (pe_callB call_len_seq (by rfl) T.zL PySem.boot_len (pa_cons (pv 5) pa_nil)) pa_nil))))
    (pss_cons (ps_expr (pe_call GP (hr.mono (by decide)) rfl mP kP bP .nil px (pa_cons (pv 2) pa_nil)))
    (pss_cons (ps_expr (pe_call GW hr rfl mW kW bW .nil px (pa_cons (pv 3) pa_nil)))
    (pss_cons (ps_expr (pe_call GT hr rfl mT kT bT .nil px (pa_cons (pv 4) pa_nil)))
    (pss_cons (ps_fld (pv 0) (pv 5) rfl)
    (pss_cons (ps_fld (pv 0) (pe_callTy call_tuple_of (by rfl) T.zT (by decide +kernel) (pa_cons (pe_callB (CallR.or cr_sortedI cr_sortedIT) (by rfl) T.zS PyProof.Rows.boot_sorted (pa_cons (pv 1) pa_nil)) pa_nil)) rfl)
    (pss_cons (ps_fld (pv 0) (pv 2) rfl)
    (pss_cons (ps_fld (pv 0) (pe_callTy call_tuple_of (by rfl) T.zT (by decide +kernel) (pa_cons (pv 3) pa_nil)) rfl)
    (pss_one (ps_fld (pv 0) (pv 4) rfl))))))))))), ?_⟩
  unfold lnErr at kE kQ
  refine ⟨_, rfl, C, mc, _, _, rfl, cr, cv, t, xs, ds, 3, rfl, ht, hds, hsh, fun c1 => kE 0 _ (if_pos c1), fun c1 => ⟨fun b hb => kE 1 b (by rw [if_neg (fun z => z c1), hb]), fun hb => ?_⟩⟩
  rw [if_neg (fun z => z c1), hb] at kE kQ
  dsimp only at kE kQ
  refine ⟨_, rfl, _, rfl, t, xs, rfl, .inr ht, aS, xS, dS, (xs.length : Int), rfl, hS, hdS, hsS, hzS, fun g H1 s1 => ?_, fun d g dd H' eo => kE 3 d (by rw [g]) dd H' eo⟩
  rw [g] at kE kQ
  dsimp only at kE kQ
  refine ⟨_, rfl, vP, dP, rfl, dp_same s1 _ _ hP, hsP, fun g2 => ?_, fun g2 dd H' eo => kE 1 dP (by rw [if_pos g2]) dd H' (eo.pre s1)⟩
  rw [if_neg (by rw [g2]; simp)] at kE kQ
  refine ⟨_, rfl, aW, xW, dW, rfl, sq_seqs (Seqs.of s1) hW, dpAll_seqs (Seqs.of s1) _ _ hdW, hsW, fun g3 H2 s2 => ?_, fun d g dd H' eo => kE 2 d (by rw [g]) dd H' (eo.pre s1)⟩
  rw [g3] at kE kQ
  dsimp only at kE kQ
  have s12 := s1.trans s2
  refine ⟨_, rfl, vT, dT, rfl, dp_same s12 _ _ hT, hsT, fun g4 => ?_, fun g4 dd H' eo => kE 1 dT (if_pos g4) dd H' (eo.pre s12)⟩
  have kQ := kQ (if_neg (by rw [g4]; simp))
  have hx2 := s12 _ _ hx
  have up : ∀ (o : HO) (b : Addr) (u : HO), b ≠ x → H b = some u → upd H2 x o b = some u := fun o b u hb e => by rw [upd_ne hb]; exact s12 _ _ e
  have nx : ∀ (b : Addr) (u : HO), IsSq u → H b = some u → b ≠ x := fun b u n e z => by rw [z, hx] at e; cases e; exact ins_sq n
  refine ⟨_, rfl, _, rfl, x, C, dx, _, rfl, hx2, T.cl, T.n1, (by show 0 < 1000; decide), ?_⟩
  refine ⟨_, rfl, sq_sorted (ns := dS.map dInt) (by rw [← scans_ints g hdS]; exact sq_seqs (fun b o n e => up _ b o (nx b o n e) e) hS) fun ns p pm sr np => ⟨p, _, rfl, .inl ⟨SqL.of upd_same, fun q nq => ?_⟩⟩⟩
  have px_ : x ≠ p := fun z => by rw [← z, upd_same] at np; cases np
  have qx : x ≠ q := fun z => by rw [← z, upd_ne px_, upd_same] at nq; cases nq
  refine ⟨_, rfl, x, C, dx, _, rfl, by rw [upd_ne qx, upd_ne px_]; exact upd_same, T.cl, T.n2, putF_small (k := 0) (Nat.le_refl _) (by decide), ?_⟩
  refine ⟨_, rfl, _, rfl, x, C, dx, _, rfl, upd_same, T.cl, T.n3, putF_small (k := 1) (putF_len (k := 0) (Nat.le_refl _)) (by decide), ?_⟩
  refine ⟨_, rfl, ?_⟩
  have keep : ∀ (o1 o2 o3 : HO) (lp tq : HO) (b : Addr) (u : HO), b ≠ x → H b = some u → upd (upd (upd (upd (upd H2 x o1) p lp) q tq) x o2) x o3 b = some u := fun o1 o2 o3 lp tq b u hb e => by
    have e2 := s12 _ _ e
    have bp : b ≠ p := fun z => by
      rw [← z, upd_ne hb, e2] at np
      cases np
    have bq : b ≠ q := fun z => by
      rw [← z, upd_ne bp, upd_ne hb, e2] at nq
      cases nq
    rw [upd_ne hb, upd_ne hb, upd_ne bq, upd_ne bp, upd_ne hb]
    exact e2
  have hq0 : ∀ (o1 o2 o3 : HO) (lp tq : HO), upd (upd (upd (upd (upd H2 x o1) p lp) q tq) x o2) x o3 q = some tq := fun o1 o2 o3 lp tq => by
    rw [upd_ne qx.symm, upd_ne qx.symm]
    exact upd_same
  have fin : ∀ (G : Hp) (tW : Addr), (∀ (b : Addr) (u : HO), b ≠ x → H b = some u → G b = some u) → G q = some (.tup (ns.map V.int)) → G x = some (.ins C dx (putF "_slips" vP (putF "_scans" (.ref q) (putF "_belts" (.ref t) [])))) → (∀ o, SqT K (upd G x o) tW xW) →
      ∀ G' : Hp, G' = upd (upd G x (.ins C dx (putF "_words" (.ref tW) (putF "_slips" vP (putF "_scans" (.ref q) (putF "_belts" (.ref t) [])))))) x (.ins C dx (lnf t q vP tW vT)) → Q .non G' := fun G tW k1 k2 k3 k4 G' e => by
    subst e
    refine kQ _ q tW ns upd_same (fun b u hb e => ?_) pm sr (SqT.of (by rw [upd_ne qx.symm, upd_ne qx.symm]; exact k2)) (by rw [upd_upd]; exact k4 _)
    rw [upd_ne hb, upd_ne hb]
    exact k1 b u hb e
  have kp := keep (.ins C dx (putF "_belts" (.ref t) [])) (.ins C dx (putF "_scans" (.ref q) (putF "_belts" (.ref t) []))) (.ins C dx (putF "_slips" vP (putF "_scans" (.ref q) (putF "_belts" (.ref t) [])))) (.lst (ns.map V.int)) (.tup (ns.map V.int))
  have h0 := hq0 (.ins C dx (putF "_belts" (.ref t) [])) (.ins C dx (putF "_scans" (.ref q) (putF "_belts" (.ref t) []))) (.ins C dx (putF "_slips" vP (putF "_scans" (.ref q) (putF "_belts" (.ref t) [])))) (.lst (ns.map V.int)) (.tup (ns.map V.int))
  rcases hW with hW | hW
  · refine ⟨aW, xW, rfl, .inl ⟨seqs_l (fun b o n e => kp b o (nx b o n e) e) hW, fun r nr => ?_⟩⟩
    have rx : x ≠ r := fun z => by rw [← z, upd_same] at nr; cases nr
    refine ⟨_, rfl, x, C, dx, _, rfl, by rw [upd_ne rx]; exact upd_same, T.cl, T.n4, putF_small (k := 2) (putF_len (k := 1) (putF_len (k := 0) (Nat.le_refl _))) (by decide), ?_⟩
    refine ⟨_, rfl, _, rfl, x, C, dx, _, rfl, upd_same, T.cl, T.n5, putF_small (k := 3) (putF_len (k := 2) (putF_len (k := 1) (putF_len (k := 0) (Nat.le_refl _)))) (by decide), ?_⟩
    refine fin _ r (fun b u hb e => ?_) ?_ (by rw [upd_ne rx]; exact upd_same) (fun o => SqT.of (by rw [upd_ne rx.symm]; exact upd_same)) _ rfl
    · rw [upd_ne (fun z => by rw [← z, kp b u hb e] at nr; cases nr)]
      exact kp b u hb e
    · rw [upd_ne (fun z => by rw [← z, h0] at nr; cases nr)]
      exact h0
  · have hw : SqT K (upd (upd (upd (upd (upd H2 x (.ins C dx (putF "_belts" (.ref t) []))) p (.lst (ns.map V.int))) q (.tup (ns.map V.int))) x (.ins C dx (putF "_scans" (.ref q) (putF "_belts" (.ref t) [])))) x (.ins C dx (putF "_slips" vP (putF "_scans" (.ref q) (putF "_belts" (.ref t) []))))) aW xW := seqs_t (fun b o n e => kp b o (nx b o n e) e) hW
    refine ⟨aW, xW, rfl, .inr ⟨hw, ?_⟩⟩
    refine ⟨_, rfl, x, C, dx, _, rfl, upd_same, T.cl, T.n4, putF_small (k := 2) (putF_len (k := 1) (putF_len (k := 0) (Nat.le_refl _))) (by decide), ?_⟩
    refine ⟨_, rfl, _, rfl, x, C, dx, _, rfl, upd_same, T.cl, T.n5, putF_small (k := 3) (putF_len (k := 2) (putF_len (k := 1) (putF_len (k := 0) (Nat.le_refl _)))) (by decide), ?_⟩
    refine fin _ aW kp h0 upd_same (fun o => ?_) _ rfl
    rw [upd_upd]
    refine seqs_t (fun b u n e => ?_) hW
    have hb := nx b u n e
    have z := kp b u hb e
    rw [upd_ne hb] at z
    rw [upd_ne hb]
    exact z
end
end Own

namespace Own
open PySem L2 ClX PySem.HandSPX
/-- Line.__init__ as it stands behind the top, with its keyword-only defaults -/
structure LnInit (K : PySem.W.Frag) (f a0 a1 a2 : Addr) : Prop where
  ex : ∃ (oc : Value) (od : Option Addr) (D : Addr) (doc pm : Value) (an : Option Addr) (cdv ct : Value) (osl : Array (Option Value)), K.lookup f = some ⟨oc, od, .func (PySem.W.fnOf "__init__" "Line.__init__" (defArgs sLI) (defBody sLI) (defScope sLI) .none (.ref D) doc pm an cdv ct), osl⟩ ∧ PySem.W.codeIn K cdv "Line.__init__" = true ∧
    PySem.W.nsIn K D "scans" = some (some (.ref a0)) ∧ PySem.W.nsIn K D "slips" = some (some (.ref a1)) ∧ PySem.W.nsIn K D "words" = some (some (.ref a2)) ∧ PySem.W.nsIn K D "stretch" = some (some .none)
  k0 : KT K a0 []
  k1 : KT K a1 [.int 1, .int 4]
  k2 : KT K a2 (slipW.map V.str)
/-- ws put among mv at k -/
def mixAt {α : Type} (k : Nat) : List α → List α → List α := fun ws mv => mv.take k ++ ws ++ mv.drop k
theorem mixAt_vals {k : Nat} {ws mv : List V} {us vs : List Value} (r : Vals ws us) (m : Vals mv vs) : Vals (mixAt k ws mv) (mixAt k us vs) := ((m.take k).append r).append (m.drop k)
theorem mixAt_len {α : Type} {k n : Nat} {ws mv : List α} (h : ws.length + mv.length = n) : (mixAt k ws mv).length = n := by
  unfold mixAt
  rw [List.length_append, List.length_append, List.length_take, List.length_drop]
  omega
section
variable {P : Program} {w : World} {K : PySem.W.Frag} {mg : Str → Option Value} {base : Heap}
theorem ln_none {f C a0 a1 a2 : Addr} {cA : Nat → Addr} (I : LnInit K f a0 a1 a2) (T : LnF K mg C) (c : CkL P w K mg base cA) : FnSt P w K mg base (L2.CX P w) 8 f [] (fun zs => mixAt 0 zs [.ref a0, .ref a1, .ref a2, .non]) (spLn K C cA) := by
  obtain ⟨oc, od, D, doc, pm, an, cdv, ct, osl, lk, hcd, d1, d2, d3, d4⟩ := I.ex
  exact fn_starKwo (ms := [("scans", .ref a0), ("slips", .ref a1), ("words", .ref a2), ("stretch", .non)]) (g := mixAt 0) (gV := mixAt 0) (ps := ["scans", "slips", "words", "stretch"]) (pv := "belts") (p0 := "self") lk hcd scLI StX.cxUp
    (fun q hq => by
      simp only [List.mem_cons, List.not_mem_nil, or_false] at hq
      rcases hq with rfl | rfl | rfl | rfl
      · exact ⟨_, d1, rfl⟩
      · exact ⟨_, d2, rfl⟩
      · exact ⟨_, d3, rfl⟩
      · exact ⟨_, d4, rfl⟩) (fun r m => mixAt_vals r m) (fun ws mv l1 l2 => mixAt_len (by rw [l1, l2]; rfl))
    (fun a us ws mv l1 l2 => match ws, l1, mv, l2, us with
      | [], _, [_, _, _, _], _, [] => ⟨_, _, _, _, _, _, rfl, rfl, _, _, _, _, _, _, rfl, rfl, _, _, _, _, _, _, rfl, rfl, _, _, _, _, _, _, rfl, rfl, rfl⟩
      | [], _, [_, _, _, _], _, _ :: _ => ⟨_, _, _, _, _, _, rfl, rfl, _, _, _, _, _, _, rfl, rfl, _, _, _, _, _, _, rfl, rfl, _, _, _, _, _, _, rfl, rfl, rfl⟩)
    (fun A outer s H vs Q E hr h => body_ln T c hr h)
theorem ln_scans {f C a0 a1 a2 : Addr} {cA : Nat → Addr} (I : LnInit K f a0 a1 a2) (T : LnF K mg C) (c : CkL P w K mg base cA) : FnSt P w K mg base (L2.CX P w) 8 f ["scans"] (fun zs => mixAt 0 zs [.ref a1, .ref a2, .non]) (spLn K C cA) := by
  obtain ⟨oc, od, D, doc, pm, an, cdv, ct, osl, lk, hcd, d1, d2, d3, d4⟩ := I.ex
  exact fn_starKwo (ms := [("slips", .ref a1), ("words", .ref a2), ("stretch", .non)]) (g := mixAt 0) (gV := mixAt 0) (ps := ["scans", "slips", "words", "stretch"]) (pv := "belts") (p0 := "self") lk hcd scLI StX.cxUp
    (fun q hq => by
      simp only [List.mem_cons, List.not_mem_nil, or_false] at hq
      rcases hq with rfl | rfl | rfl
      · exact ⟨_, d2, rfl⟩
      · exact ⟨_, d3, rfl⟩
      · exact ⟨_, d4, rfl⟩) (fun r m => mixAt_vals r m) (fun ws mv l1 l2 => mixAt_len (by rw [l1, l2]; rfl))
    (fun a us ws mv l1 l2 => match ws, l1, mv, l2, us with
      | [_], _, [_, _, _], _, [] => ⟨_, _, _, _, _, _, rfl, rfl, _, _, _, _, _, _, rfl, rfl, _, _, _, _, _, _, rfl, rfl, rfl⟩
      | [_], _, [_, _, _], _, _ :: _ => ⟨_, _, _, _, _, _, rfl, rfl, _, _, _, _, _, _, rfl, rfl, _, _, _, _, _, _, rfl, rfl, rfl⟩)
    (fun A outer s H vs Q E hr h => body_ln T c hr h)
theorem ln_two {f C a0 a1 a2 : Addr} {cA : Nat → Addr} (I : LnInit K f a0 a1 a2) (T : LnF K mg C) (c : CkL P w K mg base cA) : FnSt P w K mg base (L2.CX P w) 8 f ["scans", "slips"] (fun zs => mixAt 0 zs [.ref a2, .non]) (spLn K C cA) := by
  obtain ⟨oc, od, D, doc, pm, an, cdv, ct, osl, lk, hcd, d1, d2, d3, d4⟩ := I.ex
  exact fn_starKwo (ms := [("words", .ref a2), ("stretch", .non)]) (g := mixAt 0) (gV := mixAt 0) (ps := ["scans", "slips", "words", "stretch"]) (pv := "belts") (p0 := "self") lk hcd scLI StX.cxUp
    (fun q hq => by
      simp only [List.mem_cons, List.not_mem_nil, or_false] at hq
      rcases hq with rfl | rfl
      · exact ⟨_, d3, rfl⟩
      · exact ⟨_, d4, rfl⟩) (fun r m => mixAt_vals r m) (fun ws mv l1 l2 => mixAt_len (by rw [l1, l2]; rfl))
    (fun a us ws mv l1 l2 => match ws, l1, mv, l2, us with
      | [_, _], _, [_, _], _, [] => ⟨_, _, _, _, _, _, rfl, rfl, _, _, _, _, _, _, rfl, rfl, rfl⟩
      | [_, _], _, [_, _], _, _ :: _ => ⟨_, _, _, _, _, _, rfl, rfl, _, _, _, _, _, _, rfl, rfl, rfl⟩)
    (fun A outer s H vs Q E hr h => body_ln T c hr h)
theorem ln_mid {f C a0 a1 a2 : Addr} {cA : Nat → Addr} (I : LnInit K f a0 a1 a2) (T : LnF K mg C) (c : CkL P w K mg base cA) : FnSt P w K mg base (L2.CX P w) 8 f ["slips", "words"] (fun zs => mixAt 1 zs [.ref a0, .non]) (spLn K C cA) := by
  obtain ⟨oc, od, D, doc, pm, an, cdv, ct, osl, lk, hcd, d1, d2, d3, d4⟩ := I.ex
  exact fn_starKwo (ms := [("scans", .ref a0), ("stretch", .non)]) (g := mixAt 1) (gV := mixAt 1) (ps := ["scans", "slips", "words", "stretch"]) (pv := "belts") (p0 := "self") lk hcd scLI StX.cxUp
    (fun q hq => by
      simp only [List.mem_cons, List.not_mem_nil, or_false] at hq
      rcases hq with rfl | rfl
      · exact ⟨_, d1, rfl⟩
      · exact ⟨_, d4, rfl⟩) (fun r m => mixAt_vals r m) (fun ws mv l1 l2 => mixAt_len (by rw [l1, l2]; rfl))
    (fun a us ws mv l1 l2 => match ws, l1, mv, l2, us with
      | [_, _], _, [_, _], _, [] => ⟨_, _, _, _, _, _, rfl, rfl, _, _, _, _, _, _, rfl, rfl, rfl⟩
      | [_, _], _, [_, _], _, _ :: _ => ⟨_, _, _, _, _, _, rfl, rfl, _, _, _, _, _, _, rfl, rfl, rfl⟩)
    (fun A outer s H vs Q E hr h => body_ln T c hr h)
theorem ln_late {f C a0 a1 a2 : Addr} {cA : Nat → Addr} (I : LnInit K f a0 a1 a2) (T : LnF K mg C) (c : CkL P w K mg base cA) : FnSt P w K mg base (L2.CX P w) 8 f ["words", "stretch"] (fun zs => mixAt 2 zs [.ref a0, .ref a1]) (spLn K C cA) := by
  obtain ⟨oc, od, D, doc, pm, an, cdv, ct, osl, lk, hcd, d1, d2, d3, d4⟩ := I.ex
  exact fn_starKwo (ms := [("scans", .ref a0), ("slips", .ref a1)]) (g := mixAt 2) (gV := mixAt 2) (ps := ["scans", "slips", "words", "stretch"]) (pv := "belts") (p0 := "self") lk hcd scLI StX.cxUp
    (fun q hq => by
      simp only [List.mem_cons, List.not_mem_nil, or_false] at hq
      rcases hq with rfl | rfl
      · exact ⟨_, d1, rfl⟩
      · exact ⟨_, d2, rfl⟩) (fun r m => mixAt_vals r m) (fun ws mv l1 l2 => mixAt_len (by rw [l1, l2]; rfl))
    (fun a us ws mv l1 l2 => match ws, l1, mv, l2, us with
      | [_, _], _, [_, _], _, [] => ⟨_, _, _, _, _, _, rfl, rfl, _, _, _, _, _, _, rfl, rfl, rfl⟩
      | [_, _], _, [_, _], _, _ :: _ => ⟨_, _, _, _, _, _, rfl, rfl, _, _, _, _, _, _, rfl, rfl, rfl⟩)
    (fun A outer s H vs Q E hr h => body_ln T c hr h)
theorem ln_words {f C a0 a1 a2 : Addr} {cA : Nat → Addr} (I : LnInit K f a0 a1 a2) (T : LnF K mg C) (c : CkL P w K mg base cA) : FnSt P w K mg base (L2.CX P w) 8 f ["words"] (fun zs => mixAt 2 zs [.ref a0, .ref a1, .non]) (spLn K C cA) := by
  obtain ⟨oc, od, D, doc, pm, an, cdv, ct, osl, lk, hcd, d1, d2, d3, d4⟩ := I.ex
  exact fn_starKwo (ms := [("scans", .ref a0), ("slips", .ref a1), ("stretch", .non)]) (g := mixAt 2) (gV := mixAt 2) (ps := ["scans", "slips", "words", "stretch"]) (pv := "belts") (p0 := "self") lk hcd scLI StX.cxUp
    (fun q hq => by
      simp only [List.mem_cons, List.not_mem_nil, or_false] at hq
      rcases hq with rfl | rfl | rfl
      · exact ⟨_, d1, rfl⟩
      · exact ⟨_, d2, rfl⟩
      · exact ⟨_, d4, rfl⟩) (fun r m => mixAt_vals r m) (fun ws mv l1 l2 => mixAt_len (by rw [l1, l2]; rfl))
    (fun a us ws mv l1 l2 => match ws, l1, mv, l2, us with
      | [_], _, [_, _, _], _, [] => ⟨_, _, _, _, _, _, rfl, rfl, _, _, _, _, _, _, rfl, rfl, _, _, _, _, _, _, rfl, rfl, rfl⟩
      | [_], _, [_, _, _], _, _ :: _ => ⟨_, _, _, _, _, _, rfl, rfl, _, _, _, _, _, _, rfl, rfl, _, _, _, _, _, _, rfl, rfl, rfl⟩)
    (fun A outer s H vs Q E hr h => body_ln T c hr h)
theorem ln_last {f C a0 a1 a2 : Addr} {cA : Nat → Addr} (I : LnInit K f a0 a1 a2) (T : LnF K mg C) (c : CkL P w K mg base cA) : FnSt P w K mg base (L2.CX P w) 8 f ["stretch"] (fun zs => mixAt 3 zs [.ref a0, .ref a1, .ref a2]) (spLn K C cA) := by
  obtain ⟨oc, od, D, doc, pm, an, cdv, ct, osl, lk, hcd, d1, d2, d3, d4⟩ := I.ex
  exact fn_starKwo (ms := [("scans", .ref a0), ("slips", .ref a1), ("words", .ref a2)]) (g := mixAt 3) (gV := mixAt 3) (ps := ["scans", "slips", "words", "stretch"]) (pv := "belts") (p0 := "self") lk hcd scLI StX.cxUp
    (fun q hq => by
      simp only [List.mem_cons, List.not_mem_nil, or_false] at hq
      rcases hq with rfl | rfl | rfl
      · exact ⟨_, d1, rfl⟩
      · exact ⟨_, d2, rfl⟩
      · exact ⟨_, d3, rfl⟩) (fun r m => mixAt_vals r m) (fun ws mv l1 l2 => mixAt_len (by rw [l1, l2]; rfl))
    (fun a us ws mv l1 l2 => match ws, l1, mv, l2, us with
      | [_], _, [_, _, _], _, [] => ⟨_, _, _, _, _, _, rfl, rfl, _, _, _, _, _, _, rfl, rfl, _, _, _, _, _, _, rfl, rfl, rfl⟩
      | [_], _, [_, _, _], _, _ :: _ => ⟨_, _, _, _, _, _, rfl, rfl, _, _, _, _, _, _, rfl, rfl, _, _, _, _, _, _, rfl, rfl, rfl⟩)
    (fun A outer s H vs Q E hr h => body_ln T c hr h)
theorem ln_slips {f C a0 a1 a2 : Addr} {cA : Nat → Addr} (I : LnInit K f a0 a1 a2) (T : LnF K mg C) (c : CkL P w K mg base cA) : FnSt P w K mg base (L2.CX P w) 8 f ["slips"] (fun zs => mixAt 1 zs [.ref a0, .ref a2, .non]) (spLn K C cA) := by
  obtain ⟨oc, od, D, doc, pm, an, cdv, ct, osl, lk, hcd, d1, d2, d3, d4⟩ := I.ex
  exact fn_starKwo (ms := [("scans", .ref a0), ("words", .ref a2), ("stretch", .non)]) (g := mixAt 1) (gV := mixAt 1) (ps := ["scans", "slips", "words", "stretch"]) (pv := "belts") (p0 := "self") lk hcd scLI StX.cxUp
    (fun q hq => by
      simp only [List.mem_cons, List.not_mem_nil, or_false] at hq
      rcases hq with rfl | rfl | rfl
      · exact ⟨_, d1, rfl⟩
      · exact ⟨_, d3, rfl⟩
      · exact ⟨_, d4, rfl⟩) (fun r m => mixAt_vals r m) (fun ws mv l1 l2 => mixAt_len (by rw [l1, l2]; rfl))
    (fun a us ws mv l1 l2 => match ws, l1, mv, l2, us with
      | [_], _, [_, _, _], _, [] => ⟨_, _, _, _, _, _, rfl, rfl, _, _, _, _, _, _, rfl, rfl, _, _, _, _, _, _, rfl, rfl, rfl⟩
      | [_], _, [_, _, _], _, _ :: _ => ⟨_, _, _, _, _, _, rfl, rfl, _, _, _, _, _, _, rfl, rfl, _, _, _, _, _, _, rfl, rfl, rfl⟩)
    (fun A outer s H vs Q E hr h => body_ln T c hr h)
end
end Own

namespace Own
open PySem PySem.W PySem.Spec PyProof.Rows Builtin
section
variable {prog : Program} {w : World} {A : Around} {E : Value → Shared → Prop} {K : Frag} {s : Shared} {x f C L : Addr} {ox : Obj} {od : Option Obj} {h₀ : Heap} {m : Str → Option Value} {b tb : Value}
theorem ifBound_ne {M : Model} {args : List Value} {Q : Option Value → Shared → Prop} (X : K.In s.heap) (I : InstAt s.heap x ox C od) (hs : findIn K (.ref C) "__ne__" = some (some (.builtin "object.__ne__")))
    (h : wpAny M A (call (.builtin "object.__ne__") (.ref x :: args)) (fun v => Q (some v)) E s) : wpAny M A (callSpecialIfBound? (.ref x) "__ne__" args) Q E s := by
  simp only [callSpecialIfBound?, bindSpecialIfBound?]
  refine wpAny_holding (wpAny_bind (wpAny_bind (wpAny_bind (I.type.here ((looks_findIn X hs).here ?_)))))
  refine wpAny_bind (wpAny_askSetting (wpAny_ite ?_))
  have fin : wpAny M A (call (.builtin "object.__ne__") ([.ref x] ++ args) >>= fun v => pure (some v)) Q E s := wpAny_bind (wpAny_mono h (fun v s' h' => wpAny_pure h') fun _ _ h' => h')
  have bd := F.cmp_object.ne.bind (.ref x)
  split
  · exact wpAny_bind (by rw [bd]; exact wpAny_pure (wpAny_pure (by exact fin)))
  · exact wpAny_tryCatch (wpAny_bind (by rw [bd]; exact wpAny_pure (wpAny_pure (by exact fin))))
theorem objNe_entry {Q : Fin → Shared → Prop} (X : K.In s.heap) (I : InstAt s.heap x ox C od) (hs : findIn K (.ref C) "__eq__" = some (some (.ref f))) (hf : isFn K (.ref f) = true) (hu : A.units < cLine)
    (hcall : wpAny (model prog w) A (call (.ref f) [.ref x, b]) (fun v s' => ∃ c, v = .bool c ∧ Q (.done (.ret (.bool (!c)))) s') E s) :
    wpAny (model prog w) A (Builtin.«object.__ne__» ⟨[.ref x, b], []⟩) Q E s := by
  unfold Builtin.«object.__ne__»
  repeat (first
    | with_reducible refine wpAny_cRoomFor hu ?_
    | (refine wpAny_bind (m := callSpecialIfBound? (.ref x) (Str.ofString "__eq__") [b])
        (ifBound_K X I hs hf (wpAny_mono hcall (fun r s' hr => by
          obtain ⟨c, rfl, hq⟩ := hr
          repeat (first | exact hq | exact wpAny_pure hq | exact wpAny_truthy_bool hq | (refine wpAny_bind (m := truthy (.bool _)) (wpAny_truthy_bool ?_)) | wp_step)) fun _ _ e => e)))
    | wp_step)
theorem ne_K1 {Q : Value → Shared → Prop} (hu : A.units + 1 < cLine) (F₀ : Fr h₀ L s.heap m) (X₀ : K.In h₀) (I : InstAt s.heap x ox C od) (hb : Looks (model prog w) s.heap (typeOf b) tb) (hn : notFirst K C tb = true)
    (hne : findIn K (.ref C) "__ne__" = some (some (.builtin "object.__ne__"))) (hs : findIn K (.ref C) "__eq__" = some (some (.ref f))) (hf : isFn K (.ref f) = true) (hm : mroIn K C (.type "object") = some true)
    (h : wpAny (model prog w) A.in1 (call (.ref f) [.ref x, b]) (fun v s' => ∃ c, v = .bool c ∧ Q (.bool (!c)) s') E s) : wpAny (model prog w) A (richCompare .NotEq (.ref x) b) Q E s := by
  have X := X₀.keeps F₀.keep
  have hi : Looks (model prog w) s.heap (isInstance (.ref x) (.type "object")) true := I.type.andThen (looks_mroIn X hm)
  have one : wpAny (model prog w) A (tryCompare (.ref x) "__ne__" b) (fun r s' => ∃ v, r = some v ∧ Q v s') E s := by
    unfold tryCompare
    refine wpAny_bind (ifBound_ne X I hne (wpAny_call (codeAny_call_builtin F.cmp_object.ne.plain F.cmpEntry_ne (check_slot F.cmpKind_ne F.cmpSplit_ne hi (F.cmpArgs_ne _ _)
      (objNe_entry (A := A.in1) X I hs hf hu (wpAny_mono h (fun v s' hv => ?_) fun _ _ e => e))))))
    obtain ⟨c, rfl, hq⟩ := hv
    first | exact ⟨c, rfl, wpAny_pure ⟨_, rfl, hq⟩⟩ | exact ⟨c, rfl, ⟨_, rfl, hq⟩⟩ | exact ⟨c, rfl, wpAny_pure (wpAny_pure ⟨_, rfl, hq⟩)⟩
  unfold richCompare
  simp only [oneThing_ref]
  refine wpAny_holding (wpAny_bind (wpAny_cRoomFor (by omega) ?_))
  refine wpAny_bind (I.type.here (wpAny_bind (hb.here ?_)))
  split
  · rename_i q
    have e : subIn K tb (.ref C) = some false := by
      rcases Bool.or_eq_true_iff.mp hn with e | e
      · rw [beq_iff_eq.mp e] at q; simp at q
      · exact beq_iff_eq.mp e
    refine wpAny_bind ((looks_subIn X e).here ?_)
    simp only [Bool.false_eq_true, if_false]
    refine wpAny_bind (wpAny_mono one (fun r s' z => ?_) fun _ _ e => e)
    obtain ⟨v, rfl, hq⟩ := z
    exact wpAny_pure hq
  · refine wpAny_bind (wpAny_pure ?_)
    simp only [Bool.false_eq_true, if_false]
    refine wpAny_bind (wpAny_mono one (fun r s' z => ?_) fun _ _ e => e)
    obtain ⟨v, rfl, hq⟩ := z
    exact wpAny_pure hq
end
end Own

namespace Own
open PySem L2 PySem.Spec PyProof.Rows
/-- x != y, x an instance of a class with its own __eq__ and no __ne__ -/
def rOwnNe (K : PySem.W.Frag) (C : Addr) (sp : Sp) : V → V → Hp → VK → Prop := fun x y H Q => ∃ (a dx : Addr) (fs : List (Str × V)) (tb : Value), x = .ref a ∧ H a = some (.ins C dx fs) ∧ TyX K H y tb ∧ PySem.W.notFirst K C tb = true ∧ sp [.ref a, y] H (fun z H' => ∃ b, z = .bl b ∧ Q (.bl (!b)) H') (fun _ _ _ => False)
theorem op_neOwn {X : Cx} {CX : CXT} {n : Nat} {C f : Addr} {fd : FuncData} {ps : List Str} {sp : Sp} (F : FnOk X.prog X.w X.K X.mg X.base CX n f fd ps sp) (hr : Room (n + 1) X.A) (hs : PySem.W.findIn X.K (.ref C) "__eq__" = some (some (.ref f))) (hne : PySem.W.findIn X.K (.ref C) "__ne__" = some (some (.builtin "object.__ne__"))) (hmo : PySem.W.mroIn X.K C (.type "object") = some true)
    (hf : PySem.W.isFn X.K (.ref f) = true) (hb : Binds X.K fd ps []) (hx : Passes CX X (fun _ _ _ => False)) : OpR X (compareOp .NotEq) (rOwnNe X.K C sp) := by
  intro pins s σ H x y v u Q I rx ry h
  obtain ⟨a, dx, fs, tb, rfl, ha, ty, nf, q⟩ := h
  cases rx
  show wpAny (model X.prog X.w) X.A (richCompare .NotEq (.ref a) u) (EP X pins σ Q) X.xe s
  obtain ⟨mA, J, _⟩ := ins_get I.hok ha
  obtain ⟨od, J, _⟩ := J.look
  obtain ⟨Pz, Z, pz, _⟩ := kit_of I ry ty
  obtain ⟨m, hF⟩ := I.fr
  refine ne_K1 (by have := hr.units; omega) hF I.ok.mod.kin J (Z.ty _ _ I.kIn pz) nf hne hs hf hmo ?_
  have r2 : Vals [V.ref a, y] [Value.ref a, u] := .cons rfl (.cons ry .nil)
  have hl : [Value.ref a, u].length = ps.length := by
    have e := F.len _ _ _ _ q
    exact e
  have bb := hb s [Value.ref a, u] I.kIn (by rw [List.append_nil]; exact hl)
  rw [List.append_nil] at bb
  refine wpAny_call (codeAny_mono (F.run X.A.in1 X.stack s H ⟨[.ref a, u], []⟩ _ _ _ _ hr.in1 I.env0.in1 bb r2 q) fun r s' hq => ?_)
  cases r with
  | error e => exact hx pins σ H s e s' I hq
  | ok fl =>
    cases fl with
    | ret w =>
      obtain ⟨z, H', I', rz, b, ez, qz⟩ := I.after hq
      subst ez
      obtain rfl : w = Value.bool b := rz
      exact ⟨b, rfl, .bl (!b), H', I', rfl, qz⟩
    | next => exact False.elim hq
    | brk => exact False.elim hq
    | cont => exact False.elim hq
/-- C(), C's __init__ takes any number of arguments -/
theorem pe_mkS0 {X : Cx} {CX : CXT} {k : Nat} {f C : Addr} {gV : List V → List V} {sp : Sp} {E : XK} {x : Str} {p pos : Pos} (M : Mk X.K C f) (F : FnSt X.prog X.w X.K X.mg X.base CX k f [] gV sp) (hr : Room (k + 1) X.A) (hg : Gl X x) (hm : X.mg x = some (.ref C)) (hx : Passes CX X E) (hdb : (x == ("__debug__" : Str)) = false := by decide) :
    PE X (.Call (.Name x p) [] [] pos) (fun _ H Q => tMkS C sp gV E [] [] H Q) := by
  refine ⟨fun pins s σ H Q I h => wpAny_Call_Name_kw (ld_glob I hg hm (PySem.W.callWith_K0 I.kIn M.kp ?_) hdb)⟩
  exact run_mkS (us := []) (ws := []) M F hr hx I .nil .nil rfl h
end Own

namespace Own
open PySem L2 ClX PySem.HandSPX LamX NdefX
theorem exq_sq {a : Addr} {o : Obj} : ¬ IsSq (exq a o) := by
  rintro ⟨xs, h | h | ⟨ob, h⟩ | ⟨ob, h⟩⟩
  · have z : HO.ext _ = HO.lst xs := h
    cases z
  · exact exq_tup h
  · exact exq_frz h
  · exact exq_frz h
theorem sqT_same {K : PySem.W.Frag} {H H' : Hp} {a : Addr} {xs : List V} (h : SqT K H a xs) (sm : Same H H') : SqT K H' a xs := by
  rcases h with (h | ⟨o, h⟩) | h
  · exact .inl (.inl (sm _ _ h))
  · exact .inl (.inr ⟨o, sm _ _ h⟩)
  · exact .inr h
theorem dpAll_mem {K : PySem.W.Frag} {G : Hp} : ∀ {xs : List V} {ds : List PyData} {x : V}, DpAll K G xs ds → x ∈ xs → ∃ d, d ∈ ds ∧ Dp K G x d
  | _, _, x, .cons h t, hx => by
    rcases List.mem_cons.mp hx with rfl | hx
    · exact ⟨_, List.mem_cons_self .., h⟩
    · obtain ⟨d, hd, hx⟩ := dpAll_mem t hx
      exact ⟨d, List.mem_cons_of_mem _ hd, hx⟩
theorem cut_but {p : Addr} {H H' : Hp} (b : But p H H') : Same (cut p H) (cut p H') := fun c o e => by
  unfold cut at e ⊢
  split at e
  · cases e
  · rename_i n; rw [if_neg n]; exact b c o n e
theorem cut_at {p b : Addr} {H : Hp} {o : HO} (n : b ≠ p) (h : H b = some o) : cut p H b = some o := by
  unfold cut
  rw [if_neg n]; exact h
theorem BagC.lst {H : Hp} {p c : Addr} (b : BagC H p c) : ∃ xs, H p = some (.lst xs) := by
  obtain ⟨cs, i, x, y, h1, _⟩ := b
  exact ⟨_, h1⟩
theorem tabs_but {T : List (Addr × Str)} {H H' : Hp} {p c : Addr} (t : Tabs T H) (b : BagC H p c) (bt : But p H H') : Tabs T H' := fun q hq => by
  obtain ⟨ps, h1, h2, h3⟩ := t q hq
  obtain ⟨xs, hp⟩ := b.lst
  refine ⟨ps, bt _ _ (ne_of h1 hp (fun z => nomatch z)) h1, h2, fun pos cv hc => ?_⟩
  obtain ⟨c0, e1, e2⟩ := h3 pos cv hc
  refine ⟨c0, e1, bt _ _ (ne_of e2 hp (fun z => ?_)) e2⟩
  have z' : HO.ext _ = HO.lst xs := z
  cases z'
theorem tabs_same {T : List (Addr × Str)} {H H' : Hp} (t : Tabs T H) (sm : Same H H') : Tabs T H' := t.ext sm
theorem lamO_ne {f : Addr} {F : NF} {b : Expr} (ps : Array Value) : LamO f F b ≠ .tbl ps := fun z => by
  have z' : HO.ext _ = HO.tbl ps := z
  cases z'
theorem extN_seqs {p : Addr} {H H' : Hp} (e : ExtN H H') : Seqs (cut p H) (cut p H') := fun b o n h => by
  unfold cut at h ⊢
  split at h
  · cases h
  · rename_i nb
    rw [if_neg nb]
    refine e b o h fun ps z => ?_
    subst z
    obtain ⟨xs, h | h | ⟨ob, h⟩ | ⟨ob, h⟩⟩ := n <;> cases h
theorem extN_bag {H H' : Hp} {p c : Addr} (b : BagC H p c) (e : ExtN H H') : BagC H' p c := by
  obtain ⟨cs, i, x, y, h1, h2, h3⟩ := b
  exact ⟨cs, i, x, y, e _ _ h1 (fun ps z => nomatch z), e _ _ h2 (fun ps z => nomatch z), h3⟩
theorem shal_up : ∀ {n : Nat} {d : PyData}, Shal n d → Shal (n + 1) d
  | _, _, .non => .non
  | _, _, .bl b => .bl b
  | _, _, .int i => .int i
  | _, _, .str z => .str z
  | _, _, .lst h l => .lst (fun d hd => shal_up (h d hd)) l
  | _, _, .tup h l => .tup (fun d hd => shal_up (h d hd)) l
theorem utrk_seqs {S : SO} {H : Hp} (t : Tracked S H) : Seqs H (utrk S H) := fun b o n e => by
  cases q : S b with
  | none => rw [utrk_out q]; exact e
  | some o' =>
    rw [t b o' q] at e
    cases e
    exact absurd n exq_sq
theorem utrk_same {S : SO} {H1 H' : Hp} (hS : ∀ b o, S b = some o → H1 b = none) (sm : Same (trk S H1) H') : Same H1 (utrk S H') := fun b u z => by
  have e : S b = none := by
    cases e : S b with
    | none => rfl
    | some o => rw [hS b o e] at z; cases z
  rw [utrk_out e]
  exact sm b u (by rw [trk_out e]; exact z)

theorem sqT_none {K : PySem.W.Frag} {H : Hp} {t : Addr} (h : KT K t []) : SqT K H t [] := .inr h
section
variable {P : Program} {w : World} {K : PySem.W.Frag} {mg : Str → Option Value} {base : Heap}
/-- Line(..): what comes of it -/
theorem ln_end {C : Addr} {cA : Nat → Addr} {H : Hp} {vs xS xW : List V} {ds dS dW : List PyData} {gV : List V → List V} {zs : List V} {aS aW : Addr} {vP vT : V} {dP dT : PyData} {Q : VK} {E : XK} (hz : gV zs = [.ref aS, vP, .ref aW, vT]) (hds : DpAll K H vs ds) (hl : vs.length ≤ 1000) (hsh : ∀ d ∈ ds, Shal 2 d)
    (hS : Sq K H aS xS) (hdS : DpAll K H xS dS) (hsS : ∀ d ∈ dS, Shal 2 d) (hzS : xS.length ≤ sizeLine) (hW : Sq K H aW xW) (hdW : DpAll K H xW dW) (hsW : ∀ d ∈ dW, Shal 2 d ∧ ∀ es, d ≠ .tuple es) (hP : Dp K H vP dP) (hsP : Shal 2 dP) (hT : Dp K H vT dT) (hsT : Shal 2 dT)
    (kE : ∀ n d, lnErr vs.length ds dS dP dW dT = some (n, d) → ∀ dd H', ErrOut K H H' dd (errN n) "given" d → E (.ref (cA n)) (some dd) H')
    (kQ : lnErr vs.length ds dS dP dW dT = none → ∀ (x dx t tS tW : Addr) (ns : List Int) (H' : Hp), H x = none → Same H H' → H' x = some (.ins C dx (lnf t tS vP tW vT)) → ns.Perm (dS.map dInt) → ns.Pairwise (· ≤ ·) → SqT K H' t vs → SqT K H' tS (ns.map V.int) → SqT K H' tW xW → Q (.ref x) H') : tMkS C (spLn K C cA) gV E vs zs H Q := by
  refine ⟨hl, fun x dx p hx hdx n1 hp n2 n3 => ?_⟩
  have sm : Same H (upd (upd (upd H dx (.own x)) x (.ins C dx [])) p (.tup vs)) := fun b o hb => by
    rw [upd_ne (ne_of_none hb hp), upd_ne (ne_of_none hb hx), upd_ne (ne_of_none hb hdx)]
    exact hb
  refine ⟨x, dx, p, aS, aW, vs, xS, xW, ds, dS, dW, vP, vT, dP, dT, by rw [hz]; rfl, ?_, .inl (.inl upd_same), dpAll_same sm _ _ hds, hsh, sq_seqs (Seqs.of sm) hS, dpAll_same sm _ _ hdS, hsS, hzS, sq_seqs (Seqs.of sm) hW, dpAll_same sm _ _ hdW, hsW, dp_same sm _ _ hP, hsP, dp_same sm _ _ hT, hsT, fun n d e dd H' eo => kE n d e dd H' (eo.pre sm), fun e H' tS tW ns q1 q2 pm sr q3 q4 => ⟨rfl, ?_⟩⟩
  · rw [upd_ne (Ne.symm n2), upd_same]
  · exact kQ e x dx p tS tW ns H' hx (fun b o hb => q2 b o (ne_of_none hb hx) (sm _ _ hb)) q1 pm sr (.inl (.inl (q2 p _ n2 upd_same))) q3 q4
end
end Own

namespace Own
open PySem L2 ClX PySem.HandSPX LamX NdefX
section
variable {n : Nat} {ds dS dW : List PyData} {d dP dT : PyData}
theorem lnErr_n (h : ¬ (1 ≤ n ∧ n ≤ 3)) : lnErr n ds dS dP dW dT = some (0, .int n) := by unfold lnErr; rw [if_pos h]
theorem lnErr_r (h : 1 ≤ n ∧ n ≤ 3) (b : firstBad ds 1 3 = some d) : lnErr n ds dS dP dW dT = some (1, d) := by unfold lnErr; rw [if_neg (fun z => z h), b]
theorem lnErr_s (h : 1 ≤ n ∧ n ≤ 3) (b : firstBad ds 1 3 = none) (s : badScan ((n : Int) - 1) [] dS = some d) : lnErr n ds dS dP dW dT = some (3, d) := by unfold lnErr; rw [if_neg (fun z => z h), b]; dsimp only; rw [s]
theorem lnErr_p (h : 1 ≤ n ∧ n ≤ 3) (b : firstBad ds 1 3 = none) (s : badScan ((n : Int) - 1) [] dS = none) (p : slipsOk dP = false) : lnErr n ds dS dP dW dT = some (1, dP) := by unfold lnErr; rw [if_neg (fun z => z h), b]; dsimp only; rw [s]; dsimp only; rw [if_pos p]
theorem lnErr_w (h : 1 ≤ n ∧ n ≤ 3) (b : firstBad ds 1 3 = none) (s : badScan ((n : Int) - 1) [] dS = none) (p : slipsOk dP = true) (w : badWord slipW dW = some d) : lnErr n ds dS dP dW dT = some (2, d) := by
  unfold lnErr; rw [if_neg (fun z => z h), b]; dsimp only; rw [s]; dsimp only; rw [if_neg (by rw [p]; simp), w]
theorem lnErr_t (h : 1 ≤ n ∧ n ≤ 3) (b : firstBad ds 1 3 = none) (s : badScan ((n : Int) - 1) [] dS = none) (p : slipsOk dP = true) (w : badWord slipW dW = none) (t : strOk dT = false) : lnErr n ds dS dP dW dT = some (1, dT) := by
  unfold lnErr; rw [if_neg (fun z => z h), b]; dsimp only; rw [s]; dsimp only; rw [if_neg (by rw [p]; simp), w]; dsimp only; rw [if_pos t]
theorem lnErr_0 (h : 1 ≤ n ∧ n ≤ 3) (b : firstBad ds 1 3 = none) (s : badScan ((n : Int) - 1) [] dS = none) (p : slipsOk dP = true) (w : badWord slipW dW = none) (t : strOk dT = true) : lnErr n ds dS dP dW dT = none := by
  unfold lnErr; rw [if_neg (fun z => z h), b]; dsimp only; rw [s]; dsimp only; rw [if_neg (by rw [p]; simp), w]; dsimp only; rw [if_neg (by rw [t]; simp)]
end
def dP0 : PyData := .tuple [.int 1, .int 4]
def dW0 : List PyData := slipW.map PyData.str
theorem shal_of_flat {d : PyData} (h : (∃ n, d = .int n) ∨ (∃ z, d = .str z) ∨ (∃ b, d = .bool b) ∨ d = .none) {k : Nat} : Shal k d := by
  rcases h with ⟨n, rfl⟩ | ⟨z, rfl⟩ | ⟨b, rfl⟩ | rfl
  · exact .int _
  · exact .str _
  · exact .bl _
  · exact .non
section
variable {P : Program} {w : World} {K : PySem.W.Frag} {mg : Str → Option Value} {base : Heap} {f a0 a1 a2 : Addr} {H : Hp}
theorem df_S (I : LnInit K f a0 a1 a2) : Sq K H a0 [] := .inr (.inr I.k0)
theorem df_P (I : LnInit K f a0 a1 a2) : Dp K H (.ref a1) dP0 := .tup (.inr I.k1) (.cons (.int _) (.cons (.int _) .nil))
theorem sh_P : Shal 2 dP0 := .tup (fun d hd => by
  simp only [List.mem_cons, List.not_mem_nil, or_false] at hd
  rcases hd with rfl | rfl <;> exact .int _) (by decide)
theorem df_W (I : LnInit K f a0 a1 a2) : Sq K H a2 (slipW.map V.str) := .inr (.inr I.k2)
theorem df_dW : DpAll K H (slipW.map V.str) dW0 := .cons (.str _) (.cons (.str _) (.cons (.str _) .nil))
theorem df_sW : ∀ d ∈ dW0, Shal 2 d ∧ ∀ es, d ≠ .tuple es := fun d hd => by
  obtain ⟨z, _, rfl⟩ := List.mem_map.mp hd
  exact ⟨.str _, fun es q => nomatch q⟩
/-- Line(..) with something wrong -/
theorem ln_err {C : Addr} {cA : Nat → Addr} {vs xS xW : List V} {ds dS dW : List PyData} {gV : List V → List V} {zs : List V} {aS aW : Addr} {vP vT : V} {dP dT d : PyData} {n : Nat} {Q : VK} {E : XK} (hz : gV zs = [.ref aS, vP, .ref aW, vT]) (hds : DpAll K H vs ds) (hl : vs.length ≤ 1000) (hsh : ∀ d ∈ ds, Shal 2 d)
    (hS : Sq K H aS xS) (hdS : DpAll K H xS dS) (hsS : ∀ d ∈ dS, Shal 2 d) (hzS : xS.length ≤ sizeLine) (hW : Sq K H aW xW) (hdW : DpAll K H xW dW) (hsW : ∀ d ∈ dW, Shal 2 d ∧ ∀ es, d ≠ .tuple es) (hP : Dp K H vP dP) (hsP : Shal 2 dP) (hT : Dp K H vT dT) (hsT : Shal 2 dT)
    (he : lnErr vs.length ds dS dP dW dT = some (n, d)) (k : ∀ dd H', ErrOut K H H' dd (errN n) "given" d → E (.ref (cA n)) (some dd) H') : tMkS C (spLn K C cA) gV E vs zs H Q :=
  ln_end hz hds hl hsh hS hdS hsS hzS hW hdW hsW hP hsP hT hsT (fun n' d' e => by rw [he] at e; cases e; exact k) (fun e => by rw [he] at e; cases e)
end
end Own

namespace Own
open PySem L2 ClX PySem.HandSPX LamX NdefX
def EF : XK := fun _ _ _ => False
theorem passF {P : Program} {w : World} {X : Cx} : Passes (L2.CX P w) X EF := fun _ _ _ _ _ _ _ h => by
  obtain ⟨_, _, _, _, _, _, _, _, _, _, _, _, z⟩ := h
  exact z.elim
abbrev sLG (i : Nat) : Stmt := inClass (topT 27) i
def spGet (C : Addr) (f : Str) : Sp := fun vs H Q _ => ∃ a dx fs v, vs = [.ref a] ∧ H a = some (.ins C dx fs) ∧ fs.lookup f = some v ∧ Q v H
def spWordsL (K : PySem.W.Frag) (C : Addr) : Sp := fun vs H Q _ => ∃ a dx fs t xs, vs = [.ref a] ∧ H a = some (.ins C dx fs) ∧ fs.lookup ("_words" : Str) = some (.ref t) ∧ SqT K H t xs ∧ ∀ l, H l = none → Q (.ref l) (upd H l (.lst xs))
section
variable {P : Program} {w : World} {K : PySem.W.Frag} {mg : Str → Option Value} {base : Heap} {f C : Addr} {fd : FuncData}
theorem scLW : FnScope ["self"] ["self"] (defScope (sLG 4)) := ⟨rfl, rfl, rfl, by decide +kernel, rfl, by decide +kernel, by decide +kernel⟩
theorem ok_words (F : Fun K "words" "Line.words" (sLG 4) f fd) (T : LnF K mg C) (zL : mg "list" = none) : FnOk P w K mg base CX0 1 f fd ["self"] (spWordsL K C) := by
  refine F.ok scLW (fun vs H Q E h => ?_) (fun cdv A outer s H vs Q E hr h => ?_)
  · obtain ⟨a, dx, fs, t, xs, rfl, _⟩ := h
    rfl
  · obtain ⟨a, dx, fs, t, xs, rfl, ha, hl, ht, k⟩ := h
    refine ⟨_, pss_one (ps_ret (pe_callTy call_list_of (by rfl) zL (by decide +kernel) (pa_cons (pe_fld (pv 0) rfl) pa_nil))), ?_⟩
    exact ⟨_, rfl, a, C, dx, _, _, rfl, ha, T.cl, T.n4, hl, t, _, rfl, .inr ht, k⟩
theorem scLS : FnScope ["self"] ["self"] (defScope (sLG 5)) := ⟨rfl, rfl, rfl, by decide +kernel, rfl, by decide +kernel, by decide +kernel⟩
theorem ok_slips (F : Fun K "slips" "Line.slips" (sLG 5) f fd) (T : LnF K mg C) : FnOk P w K mg base CX0 1 f fd ["self"] (spGet C "_slips") := by
  refine F.ok scLS (fun vs H Q E h => ?_) (fun cdv A outer s H vs Q E hr h => ?_)
  · obtain ⟨a, dx, fs, v, rfl, _⟩ := h
    rfl
  · obtain ⟨a, dx, fs, v, rfl, ha, hl, k⟩ := h
    refine ⟨_, pss_one (ps_ret (pe_fld (pv 0) rfl)), ?_⟩
    exact ⟨_, rfl, a, C, dx, _, _, rfl, ha, T.cl, T.n3, hl, k⟩
theorem scLT : FnScope ["self"] ["self"] (defScope (sLG 6)) := ⟨rfl, rfl, rfl, by decide +kernel, rfl, by decide +kernel, by decide +kernel⟩
theorem ok_stretch (F : Fun K "stretch" "Line.stretch" (sLG 6) f fd) (T : LnF K mg C) : FnOk P w K mg base CX0 1 f fd ["self"] (spGet C "_stretch") := by
  refine F.ok scLT (fun vs H Q E h => ?_) (fun cdv A outer s H vs Q E hr h => ?_)
  · obtain ⟨a, dx, fs, v, rfl, _⟩ := h
    rfl
  · obtain ⟨a, dx, fs, v, rfl, ha, hl, k⟩ := h
    refine ⟨_, pss_one (ps_ret (pe_fld (pv 0) rfl)), ?_⟩
    exact ⟨_, rfl, a, C, dx, _, _, rfl, ha, T.cl, T.n5, hl, k⟩
end
end Own

namespace Own
open PySem L2
/-! ### what may be compared, and what comes of it -/
mutual
theorem shal_depth : ∀ {n : Nat} {d : PyData}, Shal n d → PyData.depth d ≤ n + 1
  | _, .none, _ => by simp [PyData.depth]
  | _, .bool b, _ => by simp [PyData.depth]
  | _, .int i, _ => by simp [PyData.depth]
  | _, .str s, _ => by simp [PyData.depth]
  | n + 1, .list ds, h => by
    have h' : ∀ d ∈ ds, Shal n d := by cases h with | lst h l => exact h
    have := shalAll_depth ds h'
    simp only [PyData.depth]; omega
  | n + 1, .tuple ds, h => by
    have h' : ∀ d ∈ ds, Shal n d := by cases h with | tup h l => exact h
    have := shalAll_depth ds h'
    simp only [PyData.depth]; omega
  | 0, .list ds, h => by cases h
  | 0, .tuple ds, h => by cases h
  | _, .dict k, h => by cases h
theorem shalAll_depth : ∀ {n : Nat} (ds : List PyData), (∀ d ∈ ds, Shal n d) → PyData.depthAll ds ≤ n + 1
  | _, [], _ => by simp [PyData.depthAll]
  | n, d :: ds, h => by
    have h1 := shal_depth (h d (List.mem_cons_self ..))
    have h2 := shalAll_depth ds fun e he => h e (List.mem_cons_of_mem _ he)
    simp only [PyData.depthAll]; omega
end
theorem shal_shaped {n : Nat} {d : PyData} (h : Shal n d) (hn : n ≤ 60) (hc : PyData.canLay0 d = true) : SeqAt.shaped d = true := by
  have h2 := shal_depth h
  show (PyData.canLay0 d && decide (PyData.depth d ≤ 64)) = true
  rw [Bool.and_eq_true]
  exact ⟨hc, decide_eq_true (by omega)⟩
mutual
/-- no bool in it -/
def noBl : PyData → Bool
  | .bool _ => false
  | .list ds => noBls ds
  | .tuple ds => noBls ds
  | .dict _ => false
  | _ => true
def noBls : List PyData → Bool
  | [] => true
  | d :: ds => noBl d && noBls ds
end
mutual
theorem eqv_dec : ∀ (d e : PyData), noBl d = true → noBl e = true → (PyData.eqv d e = true ↔ d = e)
  | .none, e, _, he => by cases e <;> simp_all [PyData.eqv, noBl]
  | .bool _, e, h, _ => by simp [noBl] at h
  | .int i, e, _, he => by cases e <;> simp_all [PyData.eqv, noBl]
  | .str i, e, _, he => by cases e <;> simp_all [PyData.eqv, noBl]
  | .dict _, e, h, _ => by simp [noBl] at h
  | .list ds, .list es, h, he => by
    simp only [PyData.eqv, PyData.list.injEq]
    exact eqvs_dec ds es (by simpa [noBl] using h) (by simpa [noBl] using he)
  | .tuple ds, .tuple es, h, he => by
    simp only [PyData.eqv, PyData.tuple.injEq]
    exact eqvs_dec ds es (by simpa [noBl] using h) (by simpa [noBl] using he)
  | .list ds, .none, _, _ => by simp [PyData.eqv]
  | .list ds, .bool _, _, h => by simp [noBl] at h
  | .list ds, .int _, _, _ => by simp [PyData.eqv]
  | .list ds, .str _, _, _ => by simp [PyData.eqv]
  | .list ds, .tuple _, _, _ => by simp [PyData.eqv]
  | .list ds, .dict _, _, h => by simp [noBl] at h
  | .tuple ds, .none, _, _ => by simp [PyData.eqv]
  | .tuple ds, .bool _, _, h => by simp [noBl] at h
  | .tuple ds, .int _, _, _ => by simp [PyData.eqv]
  | .tuple ds, .str _, _, _ => by simp [PyData.eqv]
  | .tuple ds, .list _, _, _ => by simp [PyData.eqv]
  | .tuple ds, .dict _, _, h => by simp [noBl] at h
theorem eqvs_dec : ∀ (ds es : List PyData), noBls ds = true → noBls es = true → (PyData.eqvAll ds es = true ↔ ds = es)
  | [], [], _, _ => by simp [PyData.eqvAll]
  | [], _ :: _, _, _ => by simp [PyData.eqvAll]
  | _ :: _, [], _, _ => by simp [PyData.eqvAll]
  | d :: ds, e :: es, h, he => by
    simp only [noBls, Bool.and_eq_true] at h he
    simp only [PyData.eqvAll, Bool.and_eq_true, List.cons.injEq]
    rw [eqv_dec d e h.1 he.1, eqvs_dec ds es h.2 he.2]
end
theorem eqv_bool {d e : PyData} (hd : noBl d = true) (he : noBl e = true) [Decidable (d = e)] : PyData.eqv d e = decide (d = e) := by
  have z := eqv_dec d e hd he
  cases q : PyData.eqv d e with
  | true => exact (decide_eq_true (z.mp q)).symm
  | false => exact (decide_eq_false (fun c => by rw [z.mpr c] at q; cases q)).symm
/-! ### lists of numbers, lists of words as data -/
def intD (ns : List Int) : List PyData := ns.map PyData.int
def strD (zs : List Str) : List PyData := zs.map PyData.str
theorem dpI {K : PySem.W.Frag} {H : Hp} : ∀ ns : List Int, DpAll K H (ns.map V.int) (intD ns)
  | [] => .nil
  | n :: ns => .cons (.int n) (dpI ns)
theorem dpS {K : PySem.W.Frag} {H : Hp} : ∀ ns : List Str, DpAll K H (ns.map V.str) (strD ns)
  | [] => .nil
  | n :: ns => .cons (.str n) (dpS ns)
theorem shI {n : Nat} {ns : List Int} : ∀ d ∈ intD ns, Shal n d := fun d hd => by
  obtain ⟨i, _, rfl⟩ := List.mem_map.mp hd
  exact .int i
theorem shS {n : Nat} {ns : List Str} : ∀ d ∈ strD ns, Shal n d := fun d hd => by
  obtain ⟨i, _, rfl⟩ := List.mem_map.mp hd
  exact .str i
theorem shLI {n : Nat} {ns : List Int} (h : ns.length ≤ 1000) : Shal (n + 1) (.list (intD ns)) := .lst shI (by unfold intD; rw [List.length_map]; exact h)
theorem shTI {n : Nat} {ns : List Int} (h : ns.length ≤ 1000) : Shal (n + 1) (.tuple (intD ns)) := .tup shI (by unfold intD; rw [List.length_map]; exact h)
theorem shLS {n : Nat} {ns : List Str} (h : ns.length ≤ 1000) : Shal (n + 1) (.list (strD ns)) := .lst shS (by unfold strD; rw [List.length_map]; exact h)
theorem shTS {n : Nat} {ns : List Str} (h : ns.length ≤ 1000) : Shal (n + 1) (.tuple (strD ns)) := .tup shS (by unfold strD; rw [List.length_map]; exact h)
theorem nbI : ∀ ns : List Int, noBls (intD ns) = true
  | [] => by simp [intD, noBls]
  | n :: ns => by
    have := nbI ns
    simp only [intD, List.map_cons, noBls, noBl, Bool.true_and] at this ⊢
    exact this
theorem nbS : ∀ ns : List Str, noBls (strD ns) = true
  | [] => by simp [strD, noBls]
  | n :: ns => by
    have := nbS ns
    simp only [strD, List.map_cons, noBls, noBl, Bool.true_and] at this ⊢
    exact this
theorem intD_inj {a b : List Int} : intD a = intD b ↔ a = b := by
  unfold intD
  constructor
  · intro h
    induction a generalizing b with
    | nil => cases b with
      | nil => rfl
      | cons _ _ => cases h
    | cons x a ih => cases b with
      | nil => cases h
      | cons y b =>
        rw [List.map_cons, List.map_cons] at h
        injection h with h1 h2
        injection h1 with h1
        rw [h1, ih h2]
  · rintro rfl; rfl
theorem strD_inj {a b : List Str} : strD a = strD b ↔ a = b := by
  unfold strD
  constructor
  · intro h
    induction a generalizing b with
    | nil => cases b with
      | nil => rfl
      | cons _ _ => cases h
    | cons x a ih => cases b with
      | nil => cases h
      | cons y b =>
        rw [List.map_cons, List.map_cons] at h
        injection h with h1 h2
        injection h1 with h1
        rw [h1, ih h2]
  · rintro rfl; rfl
theorem canI : ∀ ns : List Int, PyData.canLayAll0 (intD ns) = true
  | [] => by simp [intD, PyData.canLayAll0]
  | n :: r => by
    have := canI r
    simp only [intD, List.map_cons, PyData.canLayAll0, PyData.canLay0, Bool.true_and] at this ⊢
    exact this
theorem canS : ∀ zs : List Str, (∀ z ∈ zs, PyData.strOk z = true) → PyData.canLayAll0 (strD zs) = true
  | [], _ => by simp [strD, PyData.canLayAll0]
  | n :: r, h => by
    have := canS r fun z hz => h z (List.mem_cons_of_mem _ hz)
    simp only [strD, List.map_cons, PyData.canLayAll0, PyData.canLay0, Bool.and_eq_true] at this ⊢
    exact ⟨h n (List.mem_cons_self ..), this⟩
theorem slip_ok {ws : List Str} (h : ws.Sublist slipW) : ∀ z ∈ ws, PyData.strOk z = true := fun z hz => by
  have := h.subset hz
  unfold slipW at this
  simp only [List.mem_cons, List.not_mem_nil, or_false] at this
  rcases this with rfl | rfl | rfl <;> decide +kernel
def optD : Option Int → PyData
  | none => .none
  | some n => .int n
end Own

namespace Own
open PySem L2 ClX
abbrev sSlipW2 : Stmt := topT 67
theorem But.new {p l : Addr} {H H' : Hp} {o : HO} (a : But p H H') (h : H l = none) : But p H (L2.upd H' l o) := fun b u n e => by
  rw [upd_ne (ne_of_none e h)]; exact a b u n e
theorem But.free {p l : Addr} {H H' : Hp} (a : But p H H') (n : l ≠ p) (h : H' l = none) : H l = none := by
  cases e : H l with
  | none => rfl
  | some o => rw [a l o n e] at h; cases h
theorem But.new' {p l : Addr} {H H' : Hp} {o : HO} (a : But p H H') (h : H l = none) : But p H (L2.upd H' l o) := a.new h
def spSlipD : Sp := fun vs H Q _ => ∃ (p c : Addr), vs = [.ref p] ∧ BagC H p c ∧ ∀ H' l (ws : List Str), But p H H' → BagC H' p c → H l = none → H' l = some (.lst (ws.map V.str)) → ws.Sublist slipW → Q (.ref l) H'
theorem sub_keep {ws : List Str} {i : Nat} {z : Str} (h : ws.Sublist (slipW.take i)) (hz : slipW[i]? = some z) : (ws ++ [z]).Sublist (slipW.take (i + 1)) := by
  rw [List.take_add_one, hz]
  exact h.append (List.Sublist.refl _)
theorem sub_skip {ws : List Str} {i : Nat} (h : ws.Sublist (slipW.take i)) : ws.Sublist (slipW.take (i + 1)) := by
  rw [List.take_add_one]
  exact h.trans (List.sublist_append_left _ _)
section
variable {P : Program} {w : World} {K : PySem.W.Frag} {mg : Str → Option Value} {base : Heap}
theorem scSlipW2 : FnScope ["_law_bag_here", "_law_word"] ["_law_bag_here"] (defScope sSlipW2) := ⟨rfl, rfl, rfl, by decide +kernel, rfl, by decide +kernel, by decide +kernel⟩
theorem ok_slipD {f fD : Addr} {fd fdD : FuncData} (F : Fun K "_law_slip_words" "_law_slip_words" sSlipW2 f fd) (G : FnOk P w K mg base CX0 1 fD fdD ["_law_bag_here", "_law_many"] spDraw) (mD : mg "_law_draw" = some (.ref fD)) (kD : PySem.W.keepIn K (.ref fD) = true) (bD : Binds K fdD ["_law_bag_here", "_law_many"] []) : FnOk P w K mg base CX0 2 f fd ["_law_bag_here"] spSlipD := by
  refine F.ok scSlipW2 (fun vs H Q E h => ?_) (fun cdv A outer s H vs Q E hr h => ?_)
  · obtain ⟨p, c, rfl, _⟩ := h
    rfl
  · obtain ⟨p, c, rfl, hb, k⟩ := h
    refine ⟨_, pss_one (ps_ret (pe_lc (own := [("_law_word", 1)]) (g := gName 1) rfl scSlipW2.nd (pi_list (pe_lst (pa_cons pe_str (pa_cons pe_str (pa_cons pe_str pa_nil))))) (blkOk_by (N := ["_law_bag_here", "_law_word"]) (sc := defScope sSlipW2) (by decide +kernel))
      (fun _ _ _ _ _ => pg_name (i := 1) scSlipW2.nd rfl (Or.inl rfl)) (fun _ _ _ _ _ => pts_one (pt_cmpR op_gt (pe_call G hr rfl mD kD bD .nil pass0 (pa_cons (pv 0) (pa_cons pe_int pa_nil))) pe_int (nomark _))) (fun _ _ _ _ _ => pv 1))), ?_⟩
    refine ⟨by show 3 ≤ sizeLine; decide, fun l hl => ⟨l, rfl, ⟨_, SqL.of upd_same⟩, fun D hD => ?_⟩⟩
    obtain ⟨nlp, nlc⟩ := hb.ne hl
    have hD0 : H D = none := by
      by_cases e : D = l
      · rw [e, upd_same] at hD; cases hD
      · rw [upd_ne e] at hD; exact hD
    have nDl : D ≠ l := fun e => by rw [e, upd_same] at hD; cases hD
    obtain ⟨nDp, nDc⟩ := hb.ne hD0
    refine lc_list (K := K) (a := l) (xs := slipW.map V.str) (fun i H' => But p H H' ∧ BagC H' p c ∧ H' l = some (.lst (slipW.map V.str)) ∧ ∃ ws : List Str, H' D = some (.lst (ws.map V.str)) ∧ ws.Sublist (slipW.take i)) ⟨?_, ?_, ?_, [], upd_same, List.Sublist.refl _⟩ (fun i H' _ q => .inl (.inl q.2.2.1)) ?_ ?_
    · exact But.of (((Same.refl H).new hl).new hD)
    · exact (hb.new hl).new hD
    · rw [upd_ne (Ne.symm nDl), upd_same]
      rfl
    · rintro i y H' hi ⟨q1, q2, q3, ws, q4, q5⟩
      have h3 : i < 3 := (List.getElem?_eq_some_iff.mp hi).1
      have hl5 : ws.length ≤ 3 := Nat.le_trans q5.length_le (by rw [List.length_take]; exact Nat.min_le_right _ _)
      obtain ⟨z, hz, rfl⟩ : ∃ z, slipW[i]? = some z ∧ y = V.str z := by
        rw [List.getElem?_map] at hi
        cases e : slipW[i]? with
        | none => rw [e] at hi; cases hi
        | some z => rw [e] at hi; exact ⟨z, rfl, (Option.some.inj hi).symm⟩
      refine ⟨rfl, _, rfl, p, 3, c, rfl, q2, by decide, by decide, fun H2 r b1 b2 r0 r1 => ?_⟩
      have d4 := b1 _ _ nDp q4
      have d3 := b1 _ _ nlp q3
      refine ⟨r, 0, rfl, rfl, _, rfl, ite2 (fun c => ?_) (fun c => ?_)⟩
      · refine ⟨_, rfl, _, d4, by rw [List.length_map]; exact Nat.lt_of_le_of_lt hl5 (by decide), (q1.trans b1).new hD0, b2.upd nDp nDc, ?_, ws ++ [z], by rw [upd_same, List.map_append]; rfl, sub_keep q5 hz⟩
        rw [upd_ne (Ne.symm nDl)]; exact d3
      · exact ⟨q1.trans b1, b2, d3, ws, d4, sub_skip q5⟩
    · rintro H' ⟨q1, q2, q3, ws, q4, q5⟩
      exact k H' D ws q1 q2 hD0 q4 q5
end
end Own

namespace Own
open PySem L2 ClX
/-- a plan that the law has drawn -/
structure Plan where
  belts : List Int
  scans : List Int
  most : Int
  among : Int
  words : List Str
  stretch : Option Int
  rooms : List Int
  seek : Int
  empty : Str
  strange : Str
  pause : Str
def optV : Option Int → V
  | none => .non
  | some n => .int n
structure PlanOk (m w : Nat) (pl : Plan) : Prop where
  n1 : 1 ≤ pl.belts.length
  n2 : pl.belts.length ≤ m
  bl : ∀ x ∈ pl.belts, 1 ≤ x ∧ x ≤ w
  sc : pl.scans.Pairwise (· < ·)
  sr : ∀ x ∈ pl.scans, 1 ≤ x ∧ x < pl.belts.length
  m0 : 0 ≤ pl.most
  m1 : pl.most ≤ w
  a0 : 1 ≤ pl.among
  a1 : pl.among ≤ 2 * w
  ws : pl.words.Sublist slipW
  st : pl.stretch = none ∨ ∃ k : Int, pl.stretch = some k ∧ 1 ≤ k ∧ k ≤ 3
  rl : pl.rooms.length = pl.belts.length
  rm : ∀ x ∈ pl.rooms, 1 ≤ x ∧ x ≤ w + 1
  s0 : 0 ≤ pl.seek
  s1 : pl.seek ≤ w
  em : pl.empty = "blank" ∨ pl.empty = "none"
  sg : pl.strange = "first" ∨ pl.strange = "none"
  pa : pl.pause = "clear" ∨ pl.pause = "keep"
def planK (a b c d e f g h i j : V) : List (Key × V) := [(Sum.inr "belts", a), (Sum.inr "scans", b), (Sum.inr "slips", c), (Sum.inr "words", d), (Sum.inr "stretch", e), (Sum.inr "rooms", f), (Sum.inr "seek", g), (Sum.inr "empty", h), (Sum.inr "strange", i), (Sum.inr "pause", j)]
/-- the plan pl stands at D, its parts at b, s, t, w, r; xs is what stands as its scans -/
structure PlanH (H : Hp) (D b s t w r : Addr) (pl : Plan) : Prop where
  dk : H D = some (.dK (planK (.ref b) (.ref s) (.ref t) (.ref w) (optV pl.stretch) (.ref r) (.int pl.seek) (.str pl.empty) (.str pl.strange) (.str pl.pause)))
  hb : H b = some (.lst (pl.belts.map V.int))
  hs : H s = some (.lst (pl.scans.map V.int))
  ht : H t = some (.tup [.int pl.most, .int pl.among])
  hw : H w = some (.lst (pl.words.map V.str))
  hr : H r = some (.lst (pl.rooms.map V.int))
theorem PlanH.keep {H H' : Hp} {D b s t w r : Addr} {pl : Plan} (h : PlanH H D b s t w r pl) (e : Same H H') : PlanH H' D b s t w r pl := ⟨e _ _ h.dk, e _ _ h.hb, e _ _ h.hs, e _ _ h.ht, e _ _ h.hw, e _ _ h.hr⟩
theorem merge_new : ∀ {more kvs : List (Key × V)}, ((kvs ++ more).map (·.1)).Nodup → mergeK kvs more = kvs ++ more
  | [], kvs, _ => (List.append_nil kvs).symm
  | x :: r, kvs, h => by
    have hx : valV kvs x.1 = none := by
      cases q : valV kvs x.1 with
      | none => rfl
      | some v =>
        unfold valV at q
        cases z : kvs.find? (fun kv => decide (kv.1 = x.1)) with
        | none => rw [z] at q; cases q
        | some y =>
          have h1 := List.mem_of_find?_eq_some z
          have h2 := of_decide_eq_true (List.find?_some (p := fun kv : Key × V => decide (kv.1 = x.1)) z)
          rw [List.map_append, List.nodup_append] at h
          exact absurd h2 (h.2.2 _ (List.mem_map_of_mem h1) _ (List.mem_cons_self ..))
    have e : putK kvs x.1 x.2 = kvs ++ [x] := by
      unfold putK
      rw [valV_any, hx]
      rfl
    show mergeK (putK kvs x.1 x.2) r = kvs ++ x :: r
    rw [e, merge_new (by rw [List.append_assoc]; exact h), List.append_assoc]
    rfl
theorem plan_merge (a b c d e f g h i j : V) : mergeK [] (planK a b c d e f g h i j) = planK a b c d e f g h i j := merge_new (by
  show ([Sum.inr "belts", Sum.inr "scans", Sum.inr "slips", Sum.inr "words", Sum.inr "stretch", Sum.inr "rooms", Sum.inr "seek", Sum.inr "empty", Sum.inr "strange", Sum.inr "pause"] : List Key).Nodup
  decide +kernel)
/-- while the display is made -/
structure Mid (H0 H : Hp) (p c d : Addr) : Prop where
  but : But p H0 H
  bag : BagC H p c
  dk : H d = some (.dK [])
  fr : H0 d = none
namespace Mid
variable {H0 H H' : Hp} {p c d l : Addr}
theorem dp (m : Mid H0 H p c d) : d ≠ p := by
  obtain ⟨cs, i, x, y, h1, _⟩ := m.bag
  exact ne_of m.dk h1 (fun z => nomatch z)
theorem dc (m : Mid H0 H p c d) : d ≠ c := by
  obtain ⟨cs, i, x, y, _, h1, _⟩ := m.bag
  exact ne_of m.dk h1 (fun z => nomatch z)
theorem draw (m : Mid H0 H p c d) (b1 : But p H H') (b2 : BagC H' p c) : Mid H0 H' p c d := ⟨m.but.trans b1, b2, b1 _ _ m.dp m.dk, m.fr⟩
theorem new {o : HO} (m : Mid H0 H p c d) (h : H l = none) : Mid H0 (upd H l o) p c d := by
  have n := m.bag.ne h
  exact ⟨m.but.new (m.but.free n.1 h), m.bag.new h, by rw [upd_ne (ne_of_none m.dk h)]; exact m.dk, m.fr⟩
theorem put {o : HO} (m : Mid H0 H p c d) (h0 : H0 l = none) (n1 : l ≠ p) (n2 : l ≠ c) (n3 : l ≠ d) : Mid H0 (upd H l o) p c d :=
  ⟨m.but.new h0, m.bag.upd n1 n2, by rw [upd_ne (Ne.symm n3)]; exact m.dk, m.fr⟩
theorem free (m : Mid H0 H p c d) (h : H l = none) : H0 l = none := m.but.free (m.bag.ne h).1 h
theorem nd (m : Mid H0 H p c d) (h : H l = none) : l ≠ d := Ne.symm (ne_of_none m.dk h)
end Mid
/-- a list of draws, each 1 more, at D -/
def Drawn (H : Hp) (D : Addr) (n : Nat) (hi : Int) : Prop := ∃ rs : List Int, H D = some (.lst (rs.map V.int)) ∧ rs.length = n ∧ ∀ r, r ∈ rs → 1 ≤ r ∧ r ≤ hi
theorem Drawn.step {H : Hp} {D : Addr} {i : Nat} {r hi : Int} (h : Drawn H D i hi) (hl : i < 5) (r0 : 0 ≤ r) (r1 : r < hi) : ∃ acc, H D = some (.lst acc) ∧ acc.length < sizeLine ∧ Drawn (upd H D (.lst (acc ++ [V.int (1 + r)]))) D (i + 1) hi := by
  obtain ⟨rs, e, l, a⟩ := h
  refine ⟨_, e, ?_, rs ++ [1 + r], ?_, ?_, fun x hx => ?_⟩
  · rw [List.length_map, l]
    exact Nat.lt_trans hl (by decide)
  · rw [upd_same, List.map_append]
    rfl
  · rw [List.length_append, l]
    rfl
  · rcases List.mem_append.mp hx with hx | hx
    · exact a x hx
    · obtain rfl := List.mem_singleton.mp hx
      omega
/-- the points from 1 on, some of them left out, at D -/
def Scd (H : Hp) (D : Addr) (i : Nat) : Prop := ∃ ss : List Int, H D = some (.lst (ss.map V.int)) ∧ ss.length ≤ i ∧ ss.Pairwise (· < ·) ∧ ∀ x ∈ ss, 1 ≤ x ∧ x < 1 + (i : Int)
theorem Scd.step {H : Hp} {D : Addr} {i : Nat} (h : Scd H D i) (hl : i < 5) : ∃ acc, H D = some (.lst acc) ∧ acc.length < sizeLine ∧ Scd (upd H D (.lst (acc ++ [V.int (1 + (i : Int))]))) D (i + 1) := by
  obtain ⟨ss, e, l, a, b⟩ := h
  refine ⟨_, e, ?_, ss ++ [1 + (i : Int)], ?_, ?_, ?_, fun x hx => ?_⟩
  · rw [List.length_map]
    exact Nat.lt_of_le_of_lt l (Nat.lt_trans hl (by decide))
  · rw [upd_same, List.map_append]
    rfl
  · rw [List.length_append]
    exact Nat.succ_le_succ l
  · rw [List.pairwise_append]
    refine ⟨a, List.pairwise_singleton _ _, fun x hx y hy => ?_⟩
    obtain rfl := List.mem_singleton.mp hy
    exact (b x hx).2
  · rcases List.mem_append.mp hx with hx | hx
    · have := b x hx
      omega
    · obtain rfl := List.mem_singleton.mp hx
      omega
theorem Scd.skip {H : Hp} {D : Addr} {i : Nat} (h : Scd H D i) : Scd H D (i + 1) := by
  obtain ⟨ss, e, l, a, b⟩ := h
  exact ⟨ss, e, Nat.le_succ_of_le l, a, fun x hx => by have := b x hx; omega⟩
abbrev sPlan : Stmt := topT 68
def spPlan : Sp := fun vs H Q _ => ∃ (p c : Addr) (m w : Nat), vs = [.ref p, .int m, .int w] ∧ BagC H p c ∧ 1 ≤ m ∧ m ≤ 3 ∧ 1 ≤ w ∧ w ≤ 3 ∧ ∀ H' D b s t wd r pl, But p H H' → BagC H' p c → H D = none → H b = none → H s = none → H t = none → H wd = none → H r = none → PlanH H' D b s t wd r pl → PlanOk m w pl → Q (.ref D) H'
section
variable {P : Program} {w : World} {K : PySem.W.Frag} {mg : Str → Option Value} {base : Heap}
abbrev NPlan : List Str := ["_law_bag_here", "_law_most", "_law_wide", "_law_many", "_law_scans_z", "_law_point", "_law_k"]
theorem scPlan : FnScope NPlan ["_law_bag_here", "_law_most", "_law_wide"] (defScope sPlan) := ⟨rfl, rfl, rfl, by decide +kernel, rfl, by decide +kernel, by decide +kernel⟩
theorem ok_plan {f fD fO fS : Addr} {fd fdD fdO fdS : FuncData} (F : Fun K "_law_planned" "_law_planned" sPlan f fd) (G : FnOk P w K mg base CX0 1 fD fdD ["_law_bag_here", "_law_many"] spDraw) (mD : mg "_law_draw" = some (.ref fD)) (kD : PySem.W.keepIn K (.ref fD) = true) (bD : Binds K fdD ["_law_bag_here", "_law_many"] [])
    (GO : FnOk P w K mg base CX0 2 fO fdO ["_law_bag_here", "_law_some"] (spOf K)) (mO : mg "_law_of" = some (.ref fO)) (kO : PySem.W.keepIn K (.ref fO) = true) (bO : Binds K fdO ["_law_bag_here", "_law_some"] [])
    (GS : FnOk P w K mg base CX0 2 fS fdS ["_law_bag_here"] spSlipD) (mS : mg "_law_slip_words" = some (.ref fS)) (kS : PySem.W.keepIn K (.ref fS) = true) (bS : Binds K fdS ["_law_bag_here"] []) (zR : mg "range" = none) :
    FnOk P w K mg base CX0 3 f fd ["_law_bag_here", "_law_most", "_law_wide"] spPlan := by
  refine F.ok scPlan (fun vs H Q E h => ?_) (fun cdv A outer s H vs Q E hr h => ?_)
  · obtain ⟨p, c, m, w, rfl, _⟩ := h
    rfl
  · obtain ⟨p, c, mm, ww, rfl, hb, hm1, hm3, hw1, hw3, k⟩ := h
    have nd := scPlan.nd
    have hr1 := hr.mono (j := 1) (by decide)
    refine ⟨_, pss_cons (ps_set (i := 3) nd rfl (Or.inl rfl) (pe_op op_add pe_int (pe_call G hr1 rfl mD kD bD .nil pass0 (pa_cons (pv 0) (pa_cons (pv 1) pa_nil)))))
      (pss_cons (ps_setLc (i := 4) (own := [("_law_point", 5)]) (g := gName 5) rfl nd rfl rfl (sw_true rfl rfl rfl (by decide +kernel)) (pi_range2 (by rfl) zR (pa_cons pe_int (pa_cons (pv 3) pa_nil))) (blkOk_by (N := NPlan) (sc := defScope sPlan) (by decide +kernel))
        (fun _ _ _ _ _ => pg_name (i := 5) nd rfl (Or.inl rfl)) (fun _ _ _ _ _ => pts_one (pt_cmpR op_eq (pe_call G hr1 rfl mD kD bD .nil pass0 (pa_cons (pv 0) (pa_cons pe_int pa_nil))) pe_int (nomark _))) (fun _ _ _ _ _ => pv 5))
      (pss_one (ps_ret (pe_disp
        (pps_cons pe_str (pe_lc (own := [("_law_k", 6)]) (g := gName 6) (tt := tYes) rfl nd (pi_range1 (by rfl) zR (pa_cons (pv 3) pa_nil)) (blkOk_by (N := NPlan) (sc := defScope sPlan) (by decide +kernel)) (fun _ _ _ _ _ => pg_name (i := 6) nd rfl (Or.inl rfl)) (fun _ _ _ _ _ => pts_nil) (fun _ _ _ _ _ => pe_op op_add pe_int (pe_call G hr1 rfl mD kD bD .nil pass0 (pa_cons (pv 0) (pa_cons (pv 2) pa_nil)))))
        (pps_cons pe_str (pv 4)
        (pps_cons pe_str (pe_tup (pa_cons (pe_call G hr1 rfl mD kD bD .nil pass0 (pa_cons (pv 0) (pa_cons (pe_op op_add (pv 2) pe_int) pa_nil))) (pa_cons (pe_op op_add pe_int (pe_call G hr1 rfl mD kD bD .nil pass0 (pa_cons (pv 0) (pa_cons (pe_op op_mul pe_int (pv 2)) pa_nil)))) pa_nil)))
        (pps_cons pe_str (pe_call GS hr rfl mS kS bS .nil pass0 (pa_cons (pv 0) pa_nil))
        (pps_cons pe_str (pe_call GO hr rfl mO kO bO .nil pass0 (pa_cons (pv 0) (pa_cons (pe_lst (pa_cons pe_non (pa_cons pe_non (pa_cons pe_int (pa_cons pe_int (pa_cons pe_int pa_nil)))))) pa_nil)))
        (pps_cons pe_str (pe_lc (own := [("_law_k", 6)]) (g := gName 6) (tt := tYes) rfl nd (pi_range1 (by rfl) zR (pa_cons (pv 3) pa_nil)) (blkOk_by (N := NPlan) (sc := defScope sPlan) (by decide +kernel)) (fun _ _ _ _ _ => pg_name (i := 6) nd rfl (Or.inl rfl)) (fun _ _ _ _ _ => pts_nil) (fun _ _ _ _ _ => pe_op op_add pe_int (pe_call G hr1 rfl mD kD bD .nil pass0 (pa_cons (pv 0) (pa_cons (pe_op op_add (pv 2) pe_int) pa_nil)))))
        (pps_cons pe_str (pe_call G hr1 rfl mD kD bD .nil pass0 (pa_cons (pv 0) (pa_cons (pe_op op_add (pv 2) pe_int) pa_nil)))
        (pps_cons pe_str (pe_call GO hr rfl mO kO bO .nil pass0 (pa_cons (pv 0) (pa_cons (pe_lst (pa_cons pe_str (pa_cons pe_str pa_nil))) pa_nil)))
        (pps_cons pe_str (pe_call GO hr rfl mO kO bO .nil pass0 (pa_cons (pv 0) (pa_cons (pe_lst (pa_cons pe_str (pa_cons pe_str pa_nil))) pa_nil)))
        (pps_cons pe_str (pe_call GO hr rfl mO kO bO .nil pass0 (pa_cons (pv 0) (pa_cons (pe_lst (pa_cons pe_str (pa_cons pe_str pa_nil))) pa_nil)))
        pps_nil)))))))))) (by rfl) (by rfl) (fun z => by cases z) (by decide))))), ?_⟩
    refine ⟨_, rfl, _, rfl, p, mm, c, rfl, hb, by omega, Nat.lt_of_le_of_lt (show (mm : Int).natAbs ≤ 3 from hm3) (by decide), fun H1 m b1 hb1 m0 m3 => ?_⟩
    refine ⟨1, m, rfl, rfl, _, rfl, 1, 1 + m, rfl, ⟨by decide, by decide, by omega, by omega⟩, fun D hD => ?_⟩
    obtain ⟨nDp, nDc⟩ := hb1.ne hD
    have hn5 : (1 + m - 1).toNat < 5 := by omega
    refine lc_range (lo := 1) (n := (1 + m - 1).toNat) (fun i H' => But p H1 H' ∧ BagC H' p c ∧ Scd H' D i) ⟨But.of ((Same.refl H1).new hD), hb1.new hD, [], upd_same, Nat.le_refl _, .nil, fun x hx => nomatch hx⟩ ?_ ?_
    · rintro i H' hi ⟨q1, q2, q3⟩
      refine ⟨rfl, _, rfl, p, 2, c, rfl, q2, by decide, by decide, fun H2 r b1 b2 r0 r1 => ?_⟩
      have q3' : Scd H2 D i := by
        obtain ⟨ss, e, z⟩ := q3
        exact ⟨ss, b1 _ _ nDp e, z⟩
      refine ⟨rfl, _, rfl, ite2 (fun c => ?_) (fun c => ?_)⟩
      · obtain ⟨acc, e, l, z⟩ := q3'.step (Nat.lt_trans hi hn5)
        exact ⟨_, rfl, acc, e, l, (q1.trans b1).new hD, b2.upd nDp nDc, z⟩
      · exact ⟨q1.trans b1, b2, q3'.skip⟩
    · rintro H2 ⟨q1, q2, ss, qs, _, qp, qr⟩
      have hm : (1 + m).toNat ≤ 3 := by omega
      refine fun d hd => ?_
      have M1 : Mid H2 (upd H2 d (.dK [])) p c d := ⟨(But.refl p H2).new hd, q2.new hd, upd_same, hd⟩
      have hw200 : ∀ z : Int, 0 < z → z ≤ 6 → z.natAbs < 2 ^ 200 := fun z z0 z6 => Nat.lt_of_le_of_lt (show z.natAbs ≤ 6 by omega) (by decide)
      refine ⟨_, rfl, 1 + m, rfl, by omega, by omega, fun D1 hD1 => ?_⟩
      have nD1 := M1.bag.ne hD1
      refine lc_range (lo := 0) (n := (1 + m).toNat) (fun i H' => Mid H2 H' p c d ∧ Drawn H' D1 i ww) ⟨M1.new hD1, [], upd_same, rfl, fun r hr => nomatch hr⟩ ?_ ?_
      · rintro i H' hi ⟨M, dr⟩
        refine ⟨rfl, _, rfl, _, rfl, p, ww, c, rfl, M.bag, by omega, hw200 _ (by omega) (by omega), fun H3 r b2 b3 r0 r1 => ?_⟩
        have dr3 : Drawn H3 D1 i ww := by
          obtain ⟨rs, e, q⟩ := dr
          exact ⟨rs, b2 _ _ nD1.1 e, q⟩
        obtain ⟨acc, e, l, w⟩ := dr3.step (by omega) r0 r1
        exact ⟨1, r, rfl, rfl, acc, e, l, (M.draw b2 b3).put (M1.free hD1) nD1.1 nD1.2 (M1.nd hD1), w⟩
      · rintro H3 ⟨M3, bs, e3, l3, a3⟩
        refine ⟨_, rfl, ?_⟩
        refine ⟨_, rfl, _, rfl, ww, 1, rfl, rfl, p, ww + 1, c, rfl, M3.bag, by omega, hw200 _ (by omega) (by omega), fun H4 r4 b4 c4 r40 r41 => ?_⟩
        have M4 := M3.draw b4 c4
        have e4 := b4 _ _ nD1.1 e3
        refine ⟨_, rfl, _, rfl, 2, ww, rfl, rfl, .inl ⟨by decide, by decide⟩, p, 2 * ww, c, rfl, M4.bag, by omega, hw200 _ (by omega) (by omega), fun H5 r5 b5 c5 r50 r51 => ?_⟩
        have M5 := M4.draw b5 c5
        have e5 := b5 _ _ nD1.1 e4
        refine ⟨1, r5, rfl, rfl, by show 2 ≤ sizeLine; decide, fun tt htt => ?_⟩
        have M6 := M5.new (o := .tup [.int r4, .int (1 + r5)]) htt
        have ntt := M5.bag.ne htt
        have e6 := ((Same.refl _).new (o := .tup [.int r4, .int (1 + r5)]) htt) _ _ e5
        have t6 : (upd H5 tt (.tup [.int r4, .int (1 + r5)])) tt = some (.tup [.int r4, .int (1 + r5)]) := upd_same
        refine ⟨_, rfl, p, c, rfl, M6.bag, fun H7 l7 ws7 b7 c7 hl7 hw7 hs7 => ?_⟩
        have M7 := M6.draw b7 c7
        have nl7 := M6.bag.ne hl7
        have e7 := b7 _ _ nD1.1 e6
        have t7 := b7 _ _ ntt.1 t6
        refine ⟨_, rfl, by show 5 ≤ sizeLine; decide, fun l8 hl8 => ⟨p, l8, _, c, rfl, M7.bag.new hl8, SqL.of upd_same, (M7.bag.ne hl8).1, (fun z => by cases z), by show 5 ≤ 1000; decide, fun H9 x9 b9 c9 h9 => ?_⟩⟩
        have M9 := (M7.new hl8).draw b9 c9
        have s8 : Same H7 (upd H7 l8 (.lst [.non, .non, .int 1, .int 2, .int 3])) := (Same.refl _).new hl8
        have e9 := b9 _ _ nD1.1 (s8 _ _ e7)
        have t9 := b9 _ _ ntt.1 (s8 _ _ t7)
        have w9 := b9 _ _ nl7.1 (s8 _ _ hw7)
        refine ⟨_, rfl, 1 + m, rfl, by omega, by omega, fun D2 hD2 => ?_⟩
        have nD2 := M9.bag.ne hD2
        have sD2 : Same H9 (upd H9 D2 (.lst [])) := (Same.refl _).new hD2
        refine lc_range (lo := 0) (n := (1 + m).toNat) (fun i H' => Mid H2 H' p c d ∧ Drawn H' D2 i (ww + 1) ∧ But p (upd H9 D2 (.lst [])) (upd H' D2 (.lst []))) ⟨M9.new hD2, ⟨[], upd_same, rfl, fun r hr => nomatch hr⟩, by rw [upd_upd]; exact But.refl _ _⟩ ?_ ?_
        · rintro i H' hi ⟨M, dr, bq⟩
          refine ⟨rfl, _, rfl, _, rfl, ww, 1, rfl, rfl, p, ww + 1, c, rfl, M.bag, by omega, hw200 _ (by omega) (by omega), fun H3 r b2 b3 r0 r1 => ?_⟩
          have dr3 : Drawn H3 D2 i (ww + 1) := by
            obtain ⟨rs, e, q⟩ := dr
            exact ⟨rs, b2 _ _ nD2.1 e, q⟩
          obtain ⟨acc, e, l, w⟩ := dr3.step (by omega) r0 (by omega)
          refine ⟨1, r, rfl, rfl, acc, e, l, (M.draw b2 b3).put (M9.free hD2) nD2.1 nD2.2 (M9.nd hD2), w, ?_⟩
          rw [upd_upd]
          intro b o nb eb
          have z := bq b o nb eb
          by_cases q : b = D2
          · rw [q, upd_same] at z ⊢; exact z
          · rw [upd_ne q] at z ⊢; exact b2 _ _ nb z
        · rintro H10 ⟨M10, ⟨rs, e10, l10, a10⟩, bq⟩
          have up : ∀ b o, b ≠ p → H9 b = some o → H10 b = some o := fun b o nb eb => by
            have nq : b ≠ D2 := ne_of_none eb hD2
            have z := bq b o nb (by rw [upd_ne nq]; exact eb)
            rw [upd_ne nq] at z
            exact z
          have f10 := up _ _ nD1.1 e9
          have t10 := up _ _ ntt.1 t9
          have w10 := up _ _ nl7.1 w9
          refine ⟨_, rfl, _, rfl, ww, 1, rfl, rfl, p, ww + 1, c, rfl, M10.bag, by omega, hw200 _ (by omega) (by omega), fun H11 sk b11 c11 s0 s1 => ?_⟩
          have M11 := M10.draw b11 c11
          have k11 : ∀ b o, b ≠ p → H10 b = some o → H11 b = some o := fun b o nb eb => b11 _ _ nb eb
          refine ⟨_, rfl, by show 2 ≤ sizeLine; decide, fun l12 hl12 => ⟨p, l12, _, c, rfl, M11.bag.new hl12, SqL.of upd_same, (M11.bag.ne hl12).1, (fun z => by cases z), by show 2 ≤ 1000; decide, fun H12 x12 b12 c12 h12 => ?_⟩⟩
          have M12 := (M11.new hl12).draw b12 c12
          have k12 : ∀ b o, b ≠ p → H10 b = some o → H12 b = some o := fun b o nb eb => b12 _ _ nb (((Same.refl _).new hl12) _ _ (k11 b o nb eb))
          refine ⟨_, rfl, by show 2 ≤ sizeLine; decide, fun l13 hl13 => ⟨p, l13, _, c, rfl, M12.bag.new hl13, SqL.of upd_same, (M12.bag.ne hl13).1, (fun z => by cases z), by show 2 ≤ 1000; decide, fun H13 x13 b13 c13 h13 => ?_⟩⟩
          have M13 := (M12.new hl13).draw b13 c13
          have k13 : ∀ b o, b ≠ p → H10 b = some o → H13 b = some o := fun b o nb eb => b13 _ _ nb (((Same.refl _).new hl13) _ _ (k12 b o nb eb))
          refine ⟨_, rfl, by show 2 ≤ sizeLine; decide, fun l14 hl14 => ⟨p, l14, _, c, rfl, M13.bag.new hl14, SqL.of upd_same, (M13.bag.ne hl14).1, (fun z => by cases z), by show 2 ≤ 1000; decide, fun H14 x14 b14 c14 h14 => ?_⟩⟩
          have M14 := (M13.new hl14).draw b14 c14
          have k14 : ∀ b o, b ≠ p → H10 b = some o → H14 b = some o := fun b o nb eb => b14 _ _ nb (((Same.refl _).new hl14) _ _ (k13 b o nb eb))
          obtain ⟨so, rfl, hso⟩ : ∃ so : Option Int, x9 = optV so ∧ (so = none ∨ ∃ k : Int, so = some k ∧ 1 ≤ k ∧ k ≤ 3) := by
            simp only [List.mem_cons, List.not_mem_nil, or_false] at h9
            rcases h9 with rfl | rfl | rfl | rfl | rfl
            · exact ⟨none, rfl, .inl rfl⟩
            · exact ⟨none, rfl, .inl rfl⟩
            · exact ⟨some 1, rfl, .inr ⟨1, rfl, by decide, by decide⟩⟩
            · exact ⟨some 2, rfl, .inr ⟨2, rfl, by decide, by decide⟩⟩
            · exact ⟨some 3, rfl, .inr ⟨3, rfl, by decide, by decide⟩⟩
          obtain ⟨ze, rfl, we⟩ : ∃ z : Str, x12 = .str z ∧ (z = "blank" ∨ z = "none") := by
            rcases List.mem_cons.mp h12 with rfl | h
            · exact ⟨_, rfl, .inl rfl⟩
            · obtain rfl := List.mem_singleton.mp h
              exact ⟨_, rfl, .inr rfl⟩
          obtain ⟨zs, rfl, wS⟩ : ∃ z : Str, x13 = .str z ∧ (z = "first" ∨ z = "none") := by
            rcases List.mem_cons.mp h13 with rfl | h
            · exact ⟨_, rfl, .inl rfl⟩
            · obtain rfl := List.mem_singleton.mp h
              exact ⟨_, rfl, .inr rfl⟩
          obtain ⟨zp, rfl, wp⟩ : ∃ z : Str, x14 = .str z ∧ (z = "clear" ∨ z = "keep") := by
            rcases List.mem_cons.mp h14 with rfl | h
            · exact ⟨_, rfl, .inl rfl⟩
            · obtain rfl := List.mem_singleton.mp h
              exact ⟨_, rfl, .inr rfl⟩
          refine ⟨M14.dk, [(Sum.inr "belts", .ref D1), (Sum.inr "scans", .ref D), (Sum.inr "slips", .ref tt), (Sum.inr "words", .ref l7), (Sum.inr "stretch", optV so), (Sum.inr "rooms", .ref D2), (Sum.inr "seek", .int sk), (Sum.inr "empty", .str ze), (Sum.inr "strange", .str zs), (Sum.inr "pause", .str zp)], rfl, by show 10 ≤ 15; decide, ?_⟩
          have bb : But p H H2 := b1.trans q1
          have hd0 : H d = none := bb.free M14.dp hd
          have D12 := M1.free hD1
          have M1t := M5.free htt
          have M7l := M6.free hl7
          have D22 := M9.free hD2
          have e14 : H14 d = some (.dK []) := M14.dk
          have nn : ∀ b o, H14 b = some o → o ≠ .dK [] → b ≠ d := fun b o e n => ne_of e e14 n
          refine k _ d D1 D tt l7 D2 ⟨bs, ss, r4, 1 + r5, ws7, so, rs, sk, ze, zs, zp⟩ ((bb.trans M14.but).new hd0) (M14.bag.upd M14.dp M14.dc) hd0 (bb.free nD1.1 D12) (b1.free nDp hD) (bb.free ntt.1 M1t) (bb.free nl7.1 M7l) (bb.free nD2.1 D22)
            ⟨?_, ?_, ?_, ?_, ?_, ?_⟩ ⟨?_, ?_, ?_, qp, ?_, r40, ?_, ?_, ?_, hs7, hso, ?_, ?_, s0, ?_, we, wS, wp⟩
          · show upd _ d (.dK (mergeK [] (planK _ _ _ _ _ _ _ _ _ _))) d = _
            rw [plan_merge, upd_same]
          · have z := k14 _ _ nD1.1 f10
            rw [upd_ne (nn _ _ z (fun z => nomatch z))]; exact z
          · have z := M14.but _ _ nDp qs
            rw [upd_ne (nn _ _ z (fun z => nomatch z))]; exact z
          · have z := k14 _ _ ntt.1 t10
            rw [upd_ne (nn _ _ z (fun z => nomatch z))]; exact z
          · have z := k14 _ _ nl7.1 w10
            rw [upd_ne (nn _ _ z (fun z => nomatch z))]; exact z
          · have z := k14 _ _ nD2.1 e10
            rw [upd_ne (nn _ _ z (fun z => nomatch z))]; exact z
          · show 1 ≤ bs.length; omega
          · show bs.length ≤ mm; omega
          · exact a3
          · intro x hx; have := qr x hx; show 1 ≤ x ∧ x < (bs.length : Int); omega
          · show r4 ≤ (ww : Int); omega
          · show 1 ≤ 1 + r5; omega
          · show 1 + r5 ≤ 2 * (ww : Int); omega
          · show rs.length = bs.length; omega
          · exact a10
          · show sk ≤ (ww : Int); omega
end
end Own

namespace Own
open PySem L2 ClX PySem.HandSPX
def mx1 {α : Type} : List α → List α → List α := fun zs _ => zs
def mx2 {α : Type} : List α → List α → List α := fun zs _ => zs.reverse
/-- slips, scans, stretch, words -/
def mx3 {α : Type} : List α → List α → List α := fun zs _ => match zs with
  | [p, s, t, w] => [s, p, w, t]
  | _ => []
theorem vals_rev {xs : List V} {us : List Value} (r : Vals xs us) : Vals xs.reverse us.reverse := by
  induction r with
  | nil => exact .nil
  | cons h t ih => rw [List.reverse_cons, List.reverse_cons]; exact ih.append (.cons h .nil)
section
variable {P : Program} {w : World} {K : PySem.W.Frag} {mg : Str → Option Value} {base : Heap}
theorem ln_all1 {f C a0 a1 a2 : Addr} {cA : Nat → Addr} (I : LnInit K f a0 a1 a2) (T : LnF K mg C) (c : CkL P w K mg base cA) : FnSt P w K mg base (L2.CX P w) 8 f ["scans", "slips", "words", "stretch"] (fun zs => mx1 zs []) (spLn K C cA) := by
  obtain ⟨oc, od, D, doc, pm, an, cdv, ct, osl, lk, hcd, d1, d2, d3, d4⟩ := I.ex
  exact fn_starKwo (ms := []) (g := mx1) (gV := mx1) (ps := ["scans", "slips", "words", "stretch"]) (pv := "belts") (p0 := "self") lk hcd scLI StX.cxUp (fun q hq => by cases hq) (fun r _ => r) (fun ws mv l _ => l)
    (fun a us ws mv l1 l2 => match ws, l1, mv, l2, us with
      | [_, _, _, _], _, [], _, [] => rfl
      | [_, _, _, _], _, [], _, _ :: _ => rfl)
    (fun A outer s H vs Q E hr h => body_ln T c hr h)
theorem ln_all2 {f C a0 a1 a2 : Addr} {cA : Nat → Addr} (I : LnInit K f a0 a1 a2) (T : LnF K mg C) (c : CkL P w K mg base cA) : FnSt P w K mg base (L2.CX P w) 8 f ["stretch", "words", "slips", "scans"] (fun zs => mx2 zs []) (spLn K C cA) := by
  obtain ⟨oc, od, D, doc, pm, an, cdv, ct, osl, lk, hcd, d1, d2, d3, d4⟩ := I.ex
  exact fn_starKwo (ms := []) (g := mx2) (gV := mx2) (ps := ["scans", "slips", "words", "stretch"]) (pv := "belts") (p0 := "self") lk hcd scLI StX.cxUp (fun q hq => by cases hq) (fun r _ => vals_rev r) (fun ws mv l _ => by show ws.reverse.length = 4; rw [List.length_reverse]; exact l)
    (fun a us ws mv l1 l2 => match ws, l1, mv, l2, us with
      | [_, _, _, _], _, [], _, [] => rfl
      | [_, _, _, _], _, [], _, _ :: _ => rfl)
    (fun A outer s H vs Q E hr h => body_ln T c hr h)
theorem ln_all3 {f C a0 a1 a2 : Addr} {cA : Nat → Addr} (I : LnInit K f a0 a1 a2) (T : LnF K mg C) (c : CkL P w K mg base cA) : FnSt P w K mg base (L2.CX P w) 8 f ["slips", "scans", "stretch", "words"] (fun zs => mx3 zs []) (spLn K C cA) := by
  obtain ⟨oc, od, D, doc, pm, an, cdv, ct, osl, lk, hcd, d1, d2, d3, d4⟩ := I.ex
  exact fn_starKwo (ms := []) (g := mx3) (gV := mx3) (ps := ["scans", "slips", "words", "stretch"]) (pv := "belts") (p0 := "self") lk hcd scLI StX.cxUp (fun q hq => by cases hq)
    (fun r _ => match r with
      | .cons a (.cons b (.cons c (.cons d .nil))) => .cons b (.cons a (.cons d (.cons c .nil)))
      | .nil => .nil
      | .cons _ .nil => .nil
      | .cons _ (.cons _ .nil) => .nil
      | .cons _ (.cons _ (.cons _ .nil)) => .nil
      | .cons _ (.cons _ (.cons _ (.cons _ (.cons _ _)))) => .nil)
    (fun ws mv l _ => match ws, l with | [_, _, _, _], _ => rfl)
    (fun a us ws mv l1 l2 => match ws, l1, mv, l2, us with
      | [_, _, _, _], _, [], _, [] => rfl
      | [_, _, _, _], _, [], _, _ :: _ => rfl)
    (fun A outer s H vs Q E hr h => body_ln T c hr h)
end
/-! ### lines as data -/
structure LnD where
  belts : List Int
  scans : List Int
  most : Int
  among : Int
  words : List Str
  stretch : Option Int
structure LnOk (l : LnD) : Prop where
  n1 : 1 ≤ l.belts.length
  n3 : l.belts.length ≤ 3
  bl : ∀ x ∈ l.belts, 1 ≤ x ∧ x ≤ 3
  sn : l.scans.Nodup
  sr : ∀ x ∈ l.scans, 1 ≤ x ∧ x < l.belts.length
  m0 : 0 ≤ l.most
  m3 : l.most ≤ 3
  a1 : 1 ≤ l.among
  a6 : l.among ≤ 6
  ws : l.words.Sublist slipW
  st : l.stretch = none ∨ ∃ k : Int, l.stretch = some k ∧ 1 ≤ k ∧ k ≤ 12
theorem LnOk.sl {l : LnD} (h : LnOk l) : l.scans.length ≤ 2 := by
  have h1 : ∀ x ∈ l.scans, x ∈ ([1, 2] : List Int) := fun x hx => by
    have := h.sr x hx
    have := h.n3
    simp only [List.mem_cons, List.not_mem_nil, or_false]
    omega
  match e : l.scans, h.sn, h1 with
  | [], _, _ => exact Nat.zero_le _
  | [_], _, _ => exact Nat.le_of_ble_eq_true rfl
  | [_, _], _, _ => exact Nat.le_of_ble_eq_true rfl
  | x :: y :: z :: r, n, h1 =>
    exfalso
    have a := h1 x (by simp)
    have b := h1 y (by simp)
    have c := h1 z (by simp)
    simp only [List.nodup_cons, List.mem_cons, not_or] at n
    simp only [List.mem_cons, List.not_mem_nil, or_false] at a b c
    obtain ⟨⟨n1, n2, _⟩, ⟨n3, _⟩, _⟩ := n
    rcases a with rfl | rfl <;> rcases b with rfl | rfl <;> rcases c with rfl | rfl <;> simp_all
/-- a line stands at x -/
structure LnAt (K : PySem.W.Frag) (C : Addr) (H : Hp) (x : Addr) (l : LnD) : Prop where
  ex : ∃ dx t tS tP tW, H x = some (.ins C dx (lnf t tS (.ref tP) tW (optV l.stretch))) ∧ SqT K H t (l.belts.map V.int) ∧ SqT K H tS (l.scans.map V.int) ∧ SqT K H tP [.int l.most, .int l.among] ∧ SqT K H tW (l.words.map V.str)
  ok : LnOk l
theorem LnAt.same {K : PySem.W.Frag} {C : Addr} {H H' : Hp} {x : Addr} {l : LnD} (h : LnAt K C H x l) (e : Same H H') : LnAt K C H' x l := by
  obtain ⟨⟨dx, t, tS, tP, tW, h1, h2, h3, h4, h5⟩, ok⟩ := h
  exact ⟨⟨dx, t, tS, tP, tW, e _ _ h1, sqT_same h2 e, sqT_same h3 e, sqT_same h4 e, sqT_same h5 e⟩, ok⟩
theorem firstBad_ok {lo hi : Int} : ∀ {ns : List Int}, (∀ x ∈ ns, lo ≤ x ∧ x ≤ hi) → firstBad (intD ns) lo hi = none
  | ns, h => by
    unfold firstBad intD
    rw [List.find?_eq_none]
    intro d hd
    obtain ⟨x, hx, rfl⟩ := List.mem_map.mp hd
    obtain ⟨h1, h2⟩ := h x hx
    simp [numB, h1, h2]
theorem inV_ints {x : Int} : ∀ {ns : List Int}, ¬ x ∈ ns → inV (.int x) (ns.map V.int) = false := fun {ns} h => by
  cases q : inV (.int x) (ns.map V.int) with
  | false => rfl
  | true =>
    exfalso
    unfold inV at q
    simp only [List.any_map, List.any_eq_true, Function.comp] at q
    obtain ⟨y, hy, e⟩ := q
    simp [eqV] at e
    exact h (e ▸ hy)
theorem badScan_ok {hi : Int} : ∀ {ns seen : List Int}, (∀ x ∈ ns, 1 ≤ x ∧ x ≤ hi) → ns.Nodup → (∀ x ∈ ns, ¬ x ∈ seen) → badScan hi seen (intD ns) = none
  | [], _, _, _, _ => rfl
  | n :: ns, seen, h, nd, hs => by
    show badScan hi seen (.int n :: intD ns) = none
    obtain ⟨h1, h2⟩ := h n (List.mem_cons_self ..)
    have hn : scanOk hi seen (.int n) = true := by
      unfold scanOk
      rw [show dInt (.int n) = n from rfl, inV_ints (hs n (List.mem_cons_self ..))]
      simp [numB, h1, h2]
    obtain ⟨n1, n2⟩ := List.nodup_cons.mp nd
    rw [badScan_cons, if_pos hn]
    refine badScan_ok (fun x hx => h x (List.mem_cons_of_mem _ hx)) n2 fun x hx hm => ?_
    rcases List.mem_append.mp hm with hm | hm
    · exact hs x (List.mem_cons_of_mem _ hx) hm
    · have e : x = n := List.mem_singleton.mp hm
      exact n1 (e ▸ hx)
theorem badWord_ok {ws : List Str} (h : ws.Sublist slipW) : badWord slipW (strD ws) = none := by
  unfold slipW at h
  cases h with
  | cons _ h => cases h with
    | cons _ h => cases h with
      | cons _ h => cases h; rfl
      | cons_cons _ h => cases h; decide +kernel
    | cons_cons _ h => cases h with
      | cons _ h => cases h; decide +kernel
      | cons_cons _ h => cases h; decide +kernel
  | cons_cons _ h => cases h with
    | cons _ h => cases h with
      | cons _ h => cases h; decide +kernel
      | cons_cons _ h => cases h; decide +kernel
    | cons_cons _ h => cases h with
      | cons _ h => cases h; decide +kernel
      | cons_cons _ h => cases h; decide +kernel
theorem lnErr_good {l : LnD} (h : LnOk l) : lnErr l.belts.length (intD l.belts) (intD l.scans) (.tuple [.int l.most, .int l.among]) (strD l.words) (optD l.stretch) = none := by
  have := h.n1
  have := h.n3
  refine lnErr_0 ⟨h.n1, h.n3⟩ (firstBad_ok h.bl) (badScan_ok (fun x hx => ?_) h.sn (fun x _ q => nomatch q)) ?_ (badWord_ok h.ws) ?_
  · have := h.sr x hx
    omega
  · have a := h.m0
    have b := h.m3
    have c := h.a1
    have d := h.a6
    simp [slipsOk, numB, a, b, c, d]
  · rcases h.st with e | ⟨k, e, k1, k2⟩
    · rw [e]; rfl
    · rw [e]
      simp [optD, strOk, numB, k1, k2]
end Own

namespace Own
open PySem L2 ClX PySem.HandSPX
theorem eqTI {a b : List Int} : PyData.eqv (.tuple (intD a)) (.tuple (intD b)) = decide (a = b) := by
  have z := eqv_dec (.tuple (intD a)) (.tuple (intD b)) (by simp only [noBl]; exact nbI a) (by simp only [noBl]; exact nbI b)
  rw [PyData.tuple.injEq, intD_inj] at z
  cases q : PyData.eqv (.tuple (intD a)) (.tuple (intD b)) with
  | true => exact (decide_eq_true (z.mp q)).symm
  | false => exact (decide_eq_false (fun c => by rw [z.mpr c] at q; cases q)).symm
theorem eqLI {a b : List Int} : PyData.eqv (.list (intD a)) (.list (intD b)) = decide (a = b) := by
  have z := eqv_dec (.list (intD a)) (.list (intD b)) (by simp only [noBl]; exact nbI a) (by simp only [noBl]; exact nbI b)
  rw [PyData.list.injEq, intD_inj] at z
  cases q : PyData.eqv (.list (intD a)) (.list (intD b)) with
  | true => exact (decide_eq_true (z.mp q)).symm
  | false => exact (decide_eq_false (fun c => by rw [z.mpr c] at q; cases q)).symm
theorem eqTS {a b : List Str} : PyData.eqv (.tuple (strD a)) (.tuple (strD b)) = decide (a = b) := by
  have z := eqv_dec (.tuple (strD a)) (.tuple (strD b)) (by simp only [noBl]; exact nbS a) (by simp only [noBl]; exact nbS b)
  rw [PyData.tuple.injEq, strD_inj] at z
  cases q : PyData.eqv (.tuple (strD a)) (.tuple (strD b)) with
  | true => exact (decide_eq_true (z.mp q)).symm
  | false => exact (decide_eq_false (fun c => by rw [z.mpr c] at q; cases q)).symm
theorem eqLS {a b : List Str} : PyData.eqv (.list (strD a)) (.list (strD b)) = decide (a = b) := by
  have z := eqv_dec (.list (strD a)) (.list (strD b)) (by simp only [noBl]; exact nbS a) (by simp only [noBl]; exact nbS b)
  rw [PyData.list.injEq, strD_inj] at z
  cases q : PyData.eqv (.list (strD a)) (.list (strD b)) with
  | true => exact (decide_eq_true (z.mp q)).symm
  | false => exact (decide_eq_false (fun c => by rw [z.mpr c] at q; cases q)).symm
theorem eqOI {a b : Option Int} : PyData.eqv (optD a) (optD b) = decide (a = b) := by
  cases a <;> cases b <;> simp [optD, PyData.eqv]
  rename_i x y
  by_cases e : x = y <;> simp [e]
theorem dpO {K : PySem.W.Frag} {H : Hp} : ∀ o : Option Int, Dp K H (optV o) (optD o)
  | none => .non
  | some n => .int n
theorem shO {n : Nat} : ∀ o : Option Int, Shal n (optD o)
  | none => .non
  | some n => .int n
theorem shpTI {ns : List Int} (h : ns.length ≤ 1000) : SeqAt.shaped (.tuple (intD ns)) = true := shal_shaped (n := 1) (shTI h) (by decide) (by simp only [PyData.canLay0]; exact canI ns)
theorem shpTS {ns : List Str} (h : ns.length ≤ 1000) (hs : ∀ z ∈ ns, PyData.strOk z = true) : SeqAt.shaped (.tuple (strD ns)) = true := shal_shaped (n := 1) (shTS h) (by decide) (by simp only [PyData.canLay0]; exact canS ns hs)
theorem shpO : ∀ o : Option Int, SeqAt.shaped (optD o) = true
  | none => by decide +kernel
  | some n => shal_shaped (n := 0) (.int n) (by decide) (by simp [optD, PyData.canLay0])
def eqLn (l r : LnD) : Bool := decide (l.belts = r.belts) && (decide (l.scans = r.scans) && (decide ([l.most, l.among] = [r.most, r.among]) && (decide (l.words = r.words) && decide (l.stretch = r.stretch))))
theorem eqLn_refl (l : LnD) : eqLn l l = true := by simp [eqLn]
/-- a list made of a tuple of the line -/
def spListF (K : PySem.W.Frag) (C : Addr) (fld : Str) : Sp := fun vs H Q _ => ∃ a dx fs t xs, vs = [.ref a] ∧ H a = some (.ins C dx fs) ∧ fs.lookup fld = some (.ref t) ∧ SqT K H t xs ∧ ∀ l, H l = none → Q (.ref l) (upd H l (.lst xs))
def spLenF (K : PySem.W.Frag) (C : Addr) (fld : Str) : Sp := fun vs H Q _ => ∃ a dx fs t xs, vs = [.ref a] ∧ H a = some (.ins C dx fs) ∧ fs.lookup fld = some (.ref t) ∧ SqT K H t xs ∧ Q (.int (xs.length : Nat)) H
def lnText (n : Nat) : Str := Str.empty ++ "Line(" ++ toString (n : Int) ++ " belts)"
def spLRep (K : PySem.W.Frag) (C : Addr) : Sp := fun vs H Q _ => ∃ a l, vs = [.ref a] ∧ LnAt K C H a l ∧ Q (.str (lnText l.belts.length)) H
def spLEq (K : PySem.W.Frag) (C : Addr) : Sp := fun vs H Q _ => ∃ a l y, vs = [.ref a, y] ∧ LnAt K C H a l ∧
  ((∃ b r, y = .ref b ∧ LnAt K C H b r ∧ Q (.bl (eqLn l r)) H) ∨ (∃ t, TyX K H y t ∧ PySem.W.kitOne K t (.ref C) = some false ∧ Q (.bl false) H))
/-- what isinstance asks of the class -/
structure TyC (K : PySem.W.Frag) (C : Addr) : Prop where
  ha : PySem.W.findIn K (.ref C) "__class__" = some (some (.builtin "object.__class__"))
  hn : PySem.W.specialIn K (.builtin "object.__class__") "__get__" = some (some (.builtin "getset_descriptor.__get__"))
  htk : PySem.W.takesIn K (.builtin "object.__class__") = some true
  hm : PySem.W.mroIn K C (.type "object") = some true
  self : PySem.W.kitOne K (.ref C) (.ref C) = some true
section
variable {P : Program} {w : World} {K : PySem.W.Frag} {mg : Str → Option Value} {base : Heap} {f C : Addr} {fd : FuncData}
theorem scLG2 : FnScope ["self"] ["self"] (defScope (sLG 2)) := ⟨rfl, rfl, rfl, by decide +kernel, rfl, by decide +kernel, by decide +kernel⟩
theorem scLG3 : FnScope ["self"] ["self"] (defScope (sLG 3)) := ⟨rfl, rfl, rfl, by decide +kernel, rfl, by decide +kernel, by decide +kernel⟩
theorem scLG4 : FnScope ["self"] ["self"] (defScope (sLG 4)) := ⟨rfl, rfl, rfl, by decide +kernel, rfl, by decide +kernel, by decide +kernel⟩
theorem scLG7 : FnScope ["self"] ["self"] (defScope (sLG 7)) := ⟨rfl, rfl, rfl, by decide +kernel, rfl, by decide +kernel, by decide +kernel⟩
theorem scLG11 : FnScope ["self"] ["self"] (defScope (sLG 11)) := ⟨rfl, rfl, rfl, by decide +kernel, rfl, by decide +kernel, by decide +kernel⟩
theorem scLG12 : FnScope ["self"] ["self"] (defScope (sLG 12)) := ⟨rfl, rfl, rfl, by decide +kernel, rfl, by decide +kernel, by decide +kernel⟩
theorem scLG10 : FnScope ["self", "other"] ["self", "other"] (defScope (sLG 10)) := ⟨rfl, rfl, rfl, by decide +kernel, rfl, by decide +kernel, by decide +kernel⟩
theorem ok_lbelts (F : Fun K "belts" "Line.belts" (sLG 2) f fd) (T : LnF K mg C) (zL : mg "list" = none) : FnOk P w K mg base CX0 1 f fd ["self"] (spListF K C "_belts") := by
  refine F.ok scLG2 (fun vs H Q E ⟨a, dx, fs, t, xs, e, _⟩ => by rw [e]; rfl) (fun cdv A outer s H vs Q E hr ⟨a, dx, fs, t, xs, e, ha, hl, ht, k⟩ => ?_)
  subst e
  exact ⟨_, pss_one (ps_ret (pe_callTy call_list_of (by rfl) zL (by decide +kernel) (pa_cons (pe_fld (pv 0) rfl) pa_nil))), _, rfl, a, C, dx, _, _, rfl, ha, T.cl, T.n1, hl, t, _, rfl, .inr ht, k⟩
theorem ok_lscans (F : Fun K "scans" "Line.scans" (sLG 3) f fd) (T : LnF K mg C) (zL : mg "list" = none) : FnOk P w K mg base CX0 1 f fd ["self"] (spListF K C "_scans") := by
  refine F.ok scLG3 (fun vs H Q E ⟨a, dx, fs, t, xs, e, _⟩ => by rw [e]; rfl) (fun cdv A outer s H vs Q E hr ⟨a, dx, fs, t, xs, e, ha, hl, ht, k⟩ => ?_)
  subst e
  exact ⟨_, pss_one (ps_ret (pe_callTy call_list_of (by rfl) zL (by decide +kernel) (pa_cons (pe_fld (pv 0) rfl) pa_nil))), _, rfl, a, C, dx, _, _, rfl, ha, T.cl, T.n2, hl, t, _, rfl, .inr ht, k⟩
theorem ok_lwords (F : Fun K "words" "Line.words" (sLG 4) f fd) (T : LnF K mg C) (zL : mg "list" = none) : FnOk P w K mg base CX0 1 f fd ["self"] (spListF K C "_words") := by
  refine F.ok scLG4 (fun vs H Q E ⟨a, dx, fs, t, xs, e, _⟩ => by rw [e]; rfl) (fun cdv A outer s H vs Q E hr ⟨a, dx, fs, t, xs, e, ha, hl, ht, k⟩ => ?_)
  subst e
  exact ⟨_, pss_one (ps_ret (pe_callTy call_list_of (by rfl) zL (by decide +kernel) (pa_cons (pe_fld (pv 0) rfl) pa_nil))), _, rfl, a, C, dx, _, _, rfl, ha, T.cl, T.n4, hl, t, _, rfl, .inr ht, k⟩
theorem ok_llast (F : Fun K "last" "Line.last" (sLG 7) f fd) (T : LnF K mg C) : FnOk P w K mg base CX0 1 f fd ["self"] (spLenF K C "_belts") := by
  refine F.ok scLG7 (fun vs H Q E ⟨a, dx, fs, t, xs, e, _⟩ => by rw [e]; rfl) (fun cdv A outer s H vs Q E hr ⟨a, dx, fs, t, xs, e, ha, hl, ht, k⟩ => ?_)
  subst e
  exact ⟨_, pss_one (ps_ret (pe_callB call_len_seq (by rfl) T.zL PySem.boot_len (pa_cons (pe_fld (pv 0) rfl) pa_nil))), _, rfl, a, C, dx, _, _, rfl, ha, T.cl, T.n1, hl, t, _, rfl, .inr ht, k⟩
theorem ok_llen (F : Fun K "__len__" "Line.__len__" (sLG 11) f fd) (T : LnF K mg C) : FnOk P w K mg base CX0 1 f fd ["self"] (spLenF K C "_belts") := by
  refine F.ok scLG11 (fun vs H Q E ⟨a, dx, fs, t, xs, e, _⟩ => by rw [e]; rfl) (fun cdv A outer s H vs Q E hr ⟨a, dx, fs, t, xs, e, ha, hl, ht, k⟩ => ?_)
  subst e
  exact ⟨_, pss_one (ps_ret (pe_callB call_len_seq (by rfl) T.zL PySem.boot_len (pa_cons (pe_fld (pv 0) rfl) pa_nil))), _, rfl, a, C, dx, _, _, rfl, ha, T.cl, T.n1, hl, t, _, rfl, .inr ht, k⟩
theorem ok_lrep (F : Fun K "__repr__" "Line.__repr__" (sLG 12) f fd) (T : LnF K mg C) : FnOk P w K mg base CX0 1 f fd ["self"] (spLRep K C) := by
  refine F.ok scLG12 (fun vs H Q E ⟨a, l, e, _⟩ => by rw [e]; rfl) (fun cdv A outer s H vs Q E hr ⟨a, l, e, la, k⟩ => ?_)
  subst e
  obtain ⟨⟨dx, t, tS, tP, tW, ha, ht, _⟩, ok⟩ := la
  refine ⟨_, pss_one (ps_ret (pe_joined (.cons pe_str (.cons (pe_fmt (pe_callB call_len_seq (by rfl) T.zL PySem.boot_len (pa_cons (pe_fld (pv 0) rfl) pa_nil))) (.cons pe_str .nil))))), ?_⟩
  have hl : l.belts.length = 1 ∨ l.belts.length = 2 ∨ l.belts.length = 3 := by have := ok.n1; have := ok.n3; omega
  refine ⟨_, rfl, by rcases hl with h | h | h <;> decide +kernel, _, rfl, a, C, dx, _, _, rfl, ha, T.cl, T.n1, rfl, t, _, rfl, .inr ht, .inr ⟨_, rfl, ?_, ?_⟩⟩
  · rw [List.length_map]
    rcases hl with h | h | h <;> rw [h] <;> decide +kernel
  · rw [List.length_map]
    refine ⟨_, rfl, ?_, _, rfl, ?_, k⟩
    · rcases hl with h | h | h <;> rw [h] <;> decide +kernel
    · rcases hl with h | h | h <;> rw [h] <;> decide +kernel
theorem ok_leq (F : Fun K "__eq__" "Line.__eq__" (sLG 10) f fd) (T : LnF K mg C) (TC : TyC K C) (zI : mg "isinstance" = none) : FnOk P w K mg base CX0 2 f fd ["self", "other"] (spLEq K C) := by
  refine F.ok scLG10 (fun vs H Q E ⟨a, l, y, e, _⟩ => by rw [e]; rfl) (fun cdv A outer s H vs Q E hr ⟨a, l, y, e, la, k⟩ => ?_)
  subst e
  obtain ⟨⟨dx, t, tS, tP, tW, ha, ht, hS, hP, hW⟩, ok⟩ := la
  refine ⟨_, pss_one (ps_ret (pe_and (pe_callB call_isi (by rfl) zI (by decide +kernel) (pa_cons (pv 1) (pa_cons (pe_glob (v := .ref C) (by rfl) T.at_ rfl) pa_nil)))
    (pe_and (pe_cmpR (op_eqD hr.units) (pe_fld (pv 0) rfl) (pe_fld (pv 1) rfl) (nomark _)) (pe_and (pe_cmpR (op_eqD hr.units) (pe_fld (pv 0) rfl) (pe_fld (pv 1) rfl) (nomark _)) (pe_and (pe_cmpR (op_eqD hr.units) (pe_fld (pv 0) rfl) (pe_fld (pv 1) rfl) (nomark _))
    (pe_and (pe_cmpR (op_eqD hr.units) (pe_fld (pv 0) rfl) (pe_fld (pv 1) rfl) (nomark _)) (pe_one (pe_cmpR (op_eqD hr.units) (pe_fld (pv 0) rfl) (pe_fld (pv 1) rfl) (nomark _))))))))), ?_⟩
  rcases k with ⟨b, r, rfl, ⟨⟨dx', t', tS', tP', tW', hb, ht', hS', hP', hW'⟩, ok'⟩, k⟩ | ⟨tb, ty, hk, k⟩
  · have l1 := ok.n3
    have l2 := ok'.n3
    have s1 := ok.sl
    have s2 := ok'.sl
    have w1 := ok.ws.length_le
    have w2 := ok'.ws.length_le
    have w3 : slipW.length = 3 := rfl
    refine ⟨_, rfl, _, _, .ref C, .ref C, true, rfl, .own C, .base (.ins hb T.cl TC.ha TC.hn TC.htk TC.hm), TC.self, true, rfl, iteT ?_⟩
    unfold eqLn at k
    refine ⟨_, rfl, a, C, dx, _, _, rfl, ha, T.cl, T.n1, rfl, _, rfl, b, C, dx', _, _, rfl, hb, T.cl, T.n1, rfl, _, _, .tup ht (dpI _), .tup ht' (dpI _), shpTI (by omega), shpTI (by omega), decide (l.belts = r.belts), congrArg V.bl eqTI, ite2 (fun c => ?_) (fun c => ?_)⟩
    · rw [c, Bool.true_and] at k
      refine ⟨_, rfl, a, C, dx, _, _, rfl, ha, T.cl, T.n2, rfl, _, rfl, b, C, dx', _, _, rfl, hb, T.cl, T.n2, rfl, _, _, .tup hS (dpI _), .tup hS' (dpI _), shpTI (by omega), shpTI (by omega), decide (l.scans = r.scans), congrArg V.bl eqTI, ite2 (fun c => ?_) (fun c => ?_)⟩
      · rw [c, Bool.true_and] at k
        refine ⟨_, rfl, a, C, dx, _, _, rfl, ha, T.cl, T.n3, rfl, _, rfl, b, C, dx', _, _, rfl, hb, T.cl, T.n3, rfl, _, _, .tup (xs := [.int l.most, .int l.among]) hP (dpI [l.most, l.among]), .tup (xs := [.int r.most, .int r.among]) hP' (dpI [r.most, r.among]), shpTI (by show 2 ≤ 1000; decide), shpTI (by show 2 ≤ 1000; decide), decide ([l.most, l.among] = [r.most, r.among]), congrArg V.bl eqTI, ite2 (fun c => ?_) (fun c => ?_)⟩
        · rw [c, Bool.true_and] at k
          refine ⟨_, rfl, a, C, dx, _, _, rfl, ha, T.cl, T.n4, rfl, _, rfl, b, C, dx', _, _, rfl, hb, T.cl, T.n4, rfl, _, _, .tup hW (dpS _), .tup hW' (dpS _), shpTS (by omega) (slip_ok ok.ws), shpTS (by omega) (slip_ok ok'.ws), decide (l.words = r.words), congrArg V.bl eqTS, ite2 (fun c => ?_) (fun c => ?_)⟩
          · rw [c, Bool.true_and] at k
            refine ⟨_, rfl, a, C, dx, _, _, rfl, ha, T.cl, T.n5, rfl, _, rfl, b, C, dx', _, _, rfl, hb, T.cl, T.n5, rfl, _, _, dpO _, dpO _, shpO _, shpO _, ?_⟩
            rw [eqOI]
            exact k
          · rw [Bool.eq_false_iff.mpr c] at k; exact k
        · rw [Bool.eq_false_iff.mpr c] at k; exact k
      · rw [Bool.eq_false_iff.mpr c] at k; exact k
    · rw [Bool.eq_false_iff.mpr c] at k; exact k
  · exact ⟨_, rfl, _, _, tb, .ref C, false, rfl, .own C, ty, hk, false, rfl, iteF k⟩
end
end Own

namespace Own
open PySem L2 ClX PySem.HandSPX
/-- the line that a plan makes, its scans in their order -/
def Plan.line (pl : Plan) (ss : List Int) : LnD := ⟨pl.belts, ss, pl.most, pl.among, pl.words, pl.stretch⟩
theorem map_dInt (ns : List Int) : (intD ns).map dInt = ns := by
  unfold intD
  rw [List.map_map]
  exact List.map_id' ns
theorem lnOk_perm {l : LnD} {ss : List Int} (h : LnOk l) (pm : ss.Perm l.scans) : LnOk { l with scans := ss } := ⟨h.n1, h.n3, h.bl, (pm.nodup_iff).mpr h.sn, fun x hx => h.sr x (pm.mem_iff.mp hx), h.m0, h.m3, h.a1, h.a6, h.ws, h.st⟩
theorem dget_some {H : Hp} {d : Addr} {kvs : List (Key × V)} {k : Key} {v : V} (h : H d = some (.dK kvs)) (e : valV kvs k = some v) : DGet H d (kV k) (some v) := by
  have q := DGet.k (k := k) h
  rw [e] at q
  exact q
theorem strD_sh {n : Nat} {ws : List Str} : ∀ d ∈ strD ws, Shal n d ∧ ∀ es, d ≠ .tuple es := fun d hd => by
  obtain ⟨i, _, rfl⟩ := List.mem_map.mp hd
  exact ⟨.str i, fun es z => nomatch z⟩
theorem slips_sh {n : Nat} {a b : Int} : Shal (n + 1) (.tuple [.int a, .int b]) := .tup (fun d hd => by
  simp only [List.mem_cons, List.not_mem_nil, or_false] at hd
  rcases hd with rfl | rfl <;> exact .int _) (by show 2 ≤ 1000; decide)
section
variable {P : Program} {w : World} {K : PySem.W.Frag} {mg : Str → Option Value} {base : Heap}
/-- Line(..) of good values -/
theorem ln_make {C : Addr} {cA : Nat → Addr} {H : Hp} {vs : List V} {gV : List V → List V} {zs : List V} {l : LnD} {s t wd : Addr} {Q : VK} (hz : gV zs = [.ref s, .ref t, .ref wd, optV l.stretch]) (hv : vs = l.belts.map V.int) (hs : Sq K H s (l.scans.map V.int)) (ht : SqT K H t [.int l.most, .int l.among]) (hw : Sq K H wd (l.words.map V.str)) (ok : LnOk l)
    (k : ∀ (x : Addr) (H' : Hp) (ss : List Int), H x = none → Same H H' → ss.Perm l.scans → ss.Pairwise (· ≤ ·) → LnAt K C H' x { l with scans := ss } → Q (.ref x) H') : tMkS C (spLn K C cA) gV EF vs zs H Q := by
  subst hv
  have n3 := ok.n3
  have sl := ok.sl
  have w1 := ok.ws.length_le
  have w3 : slipW.length = 3 := rfl
  have len : (l.belts.map V.int).length = l.belts.length := List.length_map _
  refine ln_end (ds := intD l.belts) (dS := intD l.scans) (dW := strD l.words) (dP := .tuple [.int l.most, .int l.among]) (dT := optD l.stretch) hz (dpI _) (by rw [len]; omega) shI hs (dpI _) shI (by rw [List.length_map]; exact Nat.le_trans sl (by decide)) hw (dpS _) strD_sh (.tup ht (.cons (.int _) (.cons (.int _) .nil))) slips_sh (dpO _) (shO _) (fun n d e => ?_) (fun _ x dx t' tS tW ns H' hx sm hxf pm sr hT hS hW => ?_)
  · rw [len, lnErr_good ok] at e
    cases e
  · rw [map_dInt] at pm
    exact k x H' ns hx sm pm sr ⟨⟨dx, t', tS, t, tW, hxf, hT, hS, sqT_same ht sm, hW⟩, lnOk_perm ok pm⟩
abbrev sMadeL : Stmt := topT 69
def spMadeL (K : PySem.W.Frag) (C : Addr) : Sp := fun vs H Q _ => ∃ D b s t wd r pl, vs = [.ref D] ∧ PlanH H D b s t wd r pl ∧ LnOk (pl.line pl.scans) ∧
  ∀ (x : Addr) (H' : Hp) (ss : List Int), H x = none → Same H H' → ss.Perm pl.scans → ss.Pairwise (· ≤ ·) → LnAt K C H' x (pl.line ss) → Q (.ref x) H'
theorem scMadeL : FnScope ["_law_plan", "_law_belts"] ["_law_plan"] (defScope sMadeL) := ⟨rfl, rfl, rfl, by decide +kernel, rfl, by decide +kernel, by decide +kernel⟩
theorem planK_b (a b c d e f g h i j : V) : valV (planK a b c d e f g h i j) (Sum.inr "belts") = some a := by
  unfold planK
  rw [valV_pos rfl]
theorem planK_s (a b c d e f g h i j : V) : valV (planK a b c d e f g h i j) (Sum.inr "scans") = some b := by
  unfold planK
  rw [valV_neg (by exact fun z => absurd (Sum.inr.inj z) (by decide +kernel)), valV_pos rfl]
theorem planK_t (a b c d e f g h i j : V) : valV (planK a b c d e f g h i j) (Sum.inr "slips") = some c := by
  unfold planK
  rw [valV_neg (by exact fun z => absurd (Sum.inr.inj z) (by decide +kernel)), valV_neg (by exact fun z => absurd (Sum.inr.inj z) (by decide +kernel)), valV_pos rfl]
theorem planK_w (a b c d e f g h i j : V) : valV (planK a b c d e f g h i j) (Sum.inr "words") = some d := by
  unfold planK
  rw [valV_neg (by exact fun z => absurd (Sum.inr.inj z) (by decide +kernel)), valV_neg (by exact fun z => absurd (Sum.inr.inj z) (by decide +kernel)), valV_neg (by exact fun z => absurd (Sum.inr.inj z) (by decide +kernel)), valV_pos rfl]
theorem planK_x (a b c d e f g h i j : V) : valV (planK a b c d e f g h i j) (Sum.inr "stretch") = some e := by
  unfold planK
  rw [valV_neg (by exact fun z => absurd (Sum.inr.inj z) (by decide +kernel)), valV_neg (by exact fun z => absurd (Sum.inr.inj z) (by decide +kernel)), valV_neg (by exact fun z => absurd (Sum.inr.inj z) (by decide +kernel)), valV_neg (by exact fun z => absurd (Sum.inr.inj z) (by decide +kernel)), valV_pos rfl]
theorem ok_madeL {f fI C a0 a1 a2 : Addr} {cA : Nat → Addr} {fd : FuncData} (F : Fun K "_law_made_line" "_law_made_line" sMadeL f fd) (I : LnInit K fI a0 a1 a2) (T : LnF K mg C) (c : CkL P w K mg base cA) (M : Mk K C fI) :
    FnOk P w K mg base CX0 10 f fd ["_law_plan"] (spMadeL K C) := by
  refine F.ok scMadeL (fun vs H Q E h => ?_) (fun cdv A outer s H vs Q E hr h => ?_)
  · obtain ⟨D, b, s, t, wd, r, pl, rfl, _⟩ := h
    rfl
  · obtain ⟨D, b, sa, t, wd, r, pl, rfl, ph, ok, k⟩ := h
    have nd := scMadeL.nd
    have zL := T.zL
    have hu : (A.deeper (PyProof.Rows.envOfC "_law_made_line" (defScope sMadeL) s.heap.objs.size f cdv)).units + 1 < cLine := by have := hr.units; omega
    refine ⟨_, pss_cons (ps_set (i := 1) nd rfl (Or.inl rfl) (pe_dget hu (pv 0) pe_str (fun _ _ => rfl)))
      (pss_cons (ps_if (pt_cmpR op_eq (pe_callB call_len_seq (by rfl) zL PySem.boot_len (pa_cons (pv 1) pa_nil)) pe_int (nomark _))
        (pss_one (ps_ret (pe_mkS M (ln_all1 I T c) hr (by rfl) T.at_ passF (pa_cons (pe_ix ix_list (pv 1) pe_int (fun _ _ => rfl)) pa_nil) (pk_cons (pe_dget hu (pv 0) pe_str (fun _ _ => rfl)) (pk_cons (pe_dget hu (pv 0) pe_str (fun _ _ => rfl)) (pk_cons (pe_dget hu (pv 0) pe_str (fun _ _ => rfl)) (pk_cons (pe_dget hu (pv 0) pe_str (fun _ _ => rfl)) pk_nil))))))) pss_nil)
      (pss_cons (ps_if (pt_cmpR op_eq (pe_callB call_len_seq (by rfl) zL PySem.boot_len (pa_cons (pv 1) pa_nil)) pe_int (nomark _))
        (pss_one (ps_ret (pe_mkS M (ln_all2 I T c) hr (by rfl) T.at_ passF (pa_cons (pe_ix ix_list (pv 1) pe_int (fun _ _ => rfl)) (pa_cons (pe_ix ix_list (pv 1) pe_int (fun _ _ => rfl)) pa_nil)) (pk_cons (pe_dget hu (pv 0) pe_str (fun _ _ => rfl)) (pk_cons (pe_dget hu (pv 0) pe_str (fun _ _ => rfl)) (pk_cons (pe_dget hu (pv 0) pe_str (fun _ _ => rfl)) (pk_cons (pe_dget hu (pv 0) pe_str (fun _ _ => rfl)) pk_nil))))))) pss_nil)
      (pss_one (ps_ret (pe_mkS M (ln_all3 I T c) hr (by rfl) T.at_ passF (pa_cons (pe_ix ix_list (pv 1) pe_int (fun _ _ => rfl)) (pa_cons (pe_ix ix_list (pv 1) pe_int (fun _ _ => rfl)) (pa_cons (pe_ix ix_list (pv 1) pe_int (fun _ _ => rfl)) pa_nil))) (pk_cons (pe_dget hu (pv 0) pe_str (fun _ _ => rfl)) (pk_cons (pe_dget hu (pv 0) pe_str (fun _ _ => rfl)) (pk_cons (pe_dget hu (pv 0) pe_str (fun _ _ => rfl)) (pk_cons (pe_dget hu (pv 0) pe_str (fun _ _ => rfl)) pk_nil))))))))), ?_⟩
    have g1 := dget_some ph.dk (planK_b ..)
    have gs := dget_some ph.dk (planK_s ..)
    have gt := dget_some ph.dk (planK_t ..)
    have gw := dget_some ph.dk (planK_w ..)
    have gx := dget_some ph.dk (planK_x ..)
    have hl := SqL.of (K := K) ph.hb
    have fin : ∀ (gV : List V → List V) (zs vs : List V), gV zs = [.ref sa, .ref t, .ref wd, optV pl.stretch] → vs = pl.belts.map V.int → tMkS C (spLn K C cA) gV EF vs zs H Q := fun gV zs vs hz hv => ln_make (l := pl.line pl.scans) hz hv (.inl (SqL.of ph.hs)) (SqT.of ph.ht) (.inl (SqL.of ph.hw)) ok k
    have n1 : 1 ≤ pl.belts.length := ok.n1
    have n3 : pl.belts.length ≤ 3 := ok.n3
    match eb : pl.belts, n1, n3 with
    | [x], _, _ =>
      rw [eb] at hl fin
      refine ⟨_, rfl, D, _, rfl, g1, _, rfl, b, _, rfl, .inl hl, rfl, _, rfl, iteT ?_⟩
      refine ⟨_, rfl, b, _, _, _, rfl, rfl, hl, rfl, _, rfl, D, _, rfl, gs, _, rfl, D, _, rfl, gt, _, rfl, D, _, rfl, gw, _, rfl, D, _, rfl, gx, rfl, ?_⟩
      exact fin _ _ _ rfl rfl
    | [x, y], _, _ =>
      rw [eb] at hl fin
      refine ⟨_, rfl, D, _, rfl, g1, _, rfl, b, _, rfl, .inl hl, rfl, _, rfl, iteF ?_⟩
      refine ⟨_, rfl, b, _, rfl, .inl hl, rfl, _, rfl, iteT ?_⟩
      refine ⟨_, rfl, b, _, _, _, rfl, rfl, hl, rfl, _, rfl, b, _, _, _, rfl, rfl, hl, rfl, _, rfl, D, _, rfl, gx, _, rfl, D, _, rfl, gw, _, rfl, D, _, rfl, gt, _, rfl, D, _, rfl, gs, rfl, ?_⟩
      exact fin _ _ _ rfl rfl
    | [x, y, z], _, _ =>
      rw [eb] at hl fin
      refine ⟨_, rfl, D, _, rfl, g1, _, rfl, b, _, rfl, .inl hl, rfl, _, rfl, iteF ?_⟩
      refine ⟨_, rfl, b, _, rfl, .inl hl, rfl, _, rfl, iteF ?_⟩
      refine ⟨_, rfl, b, _, _, _, rfl, rfl, hl, rfl, _, rfl, b, _, _, _, rfl, rfl, hl, rfl, _, rfl, b, _, _, _, rfl, rfl, hl, rfl, _, rfl, D, _, rfl, gt, _, rfl, D, _, rfl, gs, _, rfl, D, _, rfl, gx, _, rfl, D, _, rfl, gw, rfl, ?_⟩
      exact fin _ _ _ rfl rfl
    | [], n, _ => exact absurd n (by show ¬ 1 ≤ 0; decide)
    | _ :: _ :: _ :: _ :: l, _, n => exact absurd n (by show ¬ (l.length + 1 + 1 + 1 + 1) ≤ 3; omega)
end
end Own

namespace Own
open PySem L2
/-! ### comprehensions whose items are known -/
theorem take_snoc {α : Type} {ys : List α} {i : Nat} {y : α} (h : ys[i]? = some y) : ys.take i ++ [y] = ys.take (i + 1) := by
  rw [List.take_add_one, h]; rfl
section
variable {K : PySem.W.Frag} {a : Addr} {xs ys : List V} {g : TG} {te : TE} {vs : List Nat} {σ : L2.St} {H1 : Hp} {D : Addr} {Qd : Hp → Prop}
theorem lc_map (ys : List V) (hl : ys.length = xs.length) (hz : ys.length < sizeLine) (ha : SqL K H1 a xs) (nD : H1 D = none)
    (hs : ∀ (i : Nat) (x y : V) (H' : Hp) (R : V → Hp → Prop), xs[i]? = some x → ys[i]? = some y → Same H1 H' → (∀ H2, Same H' H2 → R y H2) → g x (wipe σ vs) H' fun σ2 H2 => wipe σ2 vs = wipe σ vs ∧ tYes σ2 H2 fun b H3 => if b = true then te σ2 H3 R else False) (hd : ∀ H, Same H1 H → H D = some (.lst ys) → Qd H)
    (hg : ∀ (x : V) (s : L2.St) (H : Hp) (R R' : L2.St → Hp → Prop), (∀ σ2 H2, R σ2 H2 → R' σ2 H2) → g x s H R → g x s H R') :
    ∃ W : Nat → Nat → Hp → Prop, (∃ m, W 0 m (upd H1 D (.lst []))) ∧ ∀ i m H, W i m H →
      ((Itl K a).stop i H ∧ Qd H) ∨ ((Itl K a).go i H ∧ ∃ Nx : Hp → Prop, (∀ H', Nx H' → ∃ m', m' < m ∧ W (i + 1) m' H') ∧ ∀ x H', (Itl K a).yld i H x H' → g x (wipe σ vs) H' fun σ2 H2 => wipe σ2 vs = wipe σ vs ∧ tYes σ2 H2 fun b H3 =>
        if b = true then te σ2 H3 fun y H4 => ∃ acc, H4 D = some (.lst acc) ∧ acc.length < sizeLine ∧ Nx (upd H4 D (.lst (acc ++ [y]))) else Nx H3) := by
  refine lc_list (K := K) (a := a) (xs := xs) (fun i H' => Same H1 H' ∧ H' D = some (.lst (ys.take i))) ⟨(Same.refl _).new nD, upd_same⟩ (fun i H' _ q => ?_) ?_ ?_
  · rcases ha with (h | ⟨o, h⟩) | h
    · exact .inl (.inl (q.1 _ _ h))
    · exact .inl (.inr ⟨o, q.1 _ _ h⟩)
    · exact .inr h
  · rintro i x H' hi ⟨sm, hD⟩
    have hlt : i < ys.length := by
      rw [hl]
      exact (List.getElem?_eq_some_iff.mp hi).1
    have hy : ys[i]? = some ys[i] := List.getElem?_eq_getElem hlt
    refine hg _ _ _ _ _ (fun σ2 H2 q => ⟨q.1, ?_⟩) (hs i x _ H' (fun y H4 => ∃ acc, H4 D = some (.lst acc) ∧ acc.length < sizeLine ∧ Same H1 (upd H4 D (.lst (acc ++ [y]))) ∧ upd H4 D (.lst (acc ++ [y])) D = some (.lst (ys.take (i + 1)))) hi hy sm fun H2 s2 => ?_)
    · exact q.2
    · refine ⟨_, s2 _ _ hD, ?_, (sm.trans s2).own nD, ?_⟩
      · rw [List.length_take]
        exact Nat.lt_of_le_of_lt (Nat.min_le_right _ _) hz
      · rw [upd_same, take_snoc hy]
  · rintro H' ⟨sm, hD⟩
    rw [← hl, List.take_length] at hD
    exact hd H' sm hD
end
def boolD (bs : List Bool) : List PyData := bs.map PyData.bool
theorem dpB {K : PySem.W.Frag} {H : Hp} : ∀ bs : List Bool, DpAll K H (bs.map V.bl) (boolD bs)
  | [] => .nil
  | b :: bs => .cons (.bl b) (dpB bs)
theorem shB {n : Nat} {bs : List Bool} : ∀ d ∈ boolD bs, Shal n d := fun d hd => by
  obtain ⟨i, _, rfl⟩ := List.mem_map.mp hd
  exact .bl i
theorem gName_mono {i : Nat} (x : V) (s : L2.St) (H : Hp) (R R' : L2.St → Hp → Prop) (h : ∀ σ2 H2, R σ2 H2 → R' σ2 H2) (q : gName i x s H R) : gName i x s H R' := h _ _ q
end Own

namespace Own
open PySem L2 ClX
abbrev sTI : Stmt := inClass (topT 38) 1
/-- the attributes of a tracker -/
def trf (t : Addr) (s : Int) (e st p : Str) : List (Str × V) := putF "_pause" (.str p) (putF "_strange" (.str st) (putF "_empty" (.str e) (putF "_seek" (.int s) (putF "_rooms" (.ref t) []))))
def emptyW : List V := [.str "blank", .str "none"]
def strangeW : List V := [.str "first", .str "none"]
def pauseW : List V := [.str "clear", .str "keep"]
/-- values that a tracker can have -/
structure TrOk (rs : List Int) (s : Int) (e st p : Str) : Prop where
  n1 : 1 ≤ rs.length
  n3 : rs.length ≤ 3
  rr : ∀ r, r ∈ rs → 1 ≤ r ∧ r ≤ 4
  s0 : 0 ≤ s
  s3 : s ≤ 3
  e : inV (.str e) emptyW = true
  st : inV (.str st) strangeW = true
  p : inV (.str p) pauseW = true
/-- a tracker stands at a -/
def TrAt (K : PySem.W.Frag) (C : Addr) (H : Hp) (a : Addr) (rs : List Int) (s : Int) (e st p : Str) : Prop := ∃ dx t, H a = some (.ins C dx (trf t s e st p)) ∧ SqT K H t (rs.map V.int) ∧ TrOk rs s e st p
def spTrI (K : PySem.W.Frag) (C : Addr) : Sp := fun vs H Q _ => ∃ (x dx t : Addr) (rs : List Int) (s : Int) (e st p : Str), vs = [.ref x, .int s, .str e, .str st, .str p, .ref t] ∧ H x = some (.ins C dx []) ∧ SqT K H t (rs.map V.int) ∧ TrOk rs s e st p ∧
  ∀ H' : Hp, H' x = some (.ins C dx (trf t s e st p)) → (∀ b o, b ≠ x → H b = some o → H' b = some o) → Q .non H'
section
variable {P : Program} {w : World} {K : PySem.W.Frag} {mg : Str → Option Value} {base : Heap}
/-- what the walk asks of the class and the tables -/
structure TrF (K : PySem.W.Frag) (mg : Str → Option Value) (C : Addr) : Prop where
  cl : Cls K C
  at_ : mg "Tracker" = some (.ref C)
  n1 : NoAttr K C "_rooms"
  n2 : NoAttr K C "_seek"
  n3 : NoAttr K C "_empty"
  n4 : NoAttr K C "_strange"
  n5 : NoAttr K C "_pause"
  most : ∃ mc tk, CRead K C mc ∧ CVal K C mc "MOST" (.int 4) (.int 4 tk)
  ms : ∃ tk, mg "MOST_SEEK" = some (.int 3 tk)
  we : ∃ t, mg "EMPTY_WORDS" = some (.ref t) ∧ KT K t emptyW
  ws : ∃ t, mg "STRANGE_WORDS" = some (.ref t) ∧ KT K t strangeW
  wp : ∃ t, mg "PAUSE_WORDS" = some (.ref t) ∧ KT K t pauseW
theorem scTI : FnScope ["self", "seek", "empty", "strange", "pause", "rooms"] ["self", "seek", "empty", "strange", "pause", "rooms"] (defScope sTI) := ⟨rfl, rfl, rfl, by decide +kernel, rfl, by decide +kernel, by decide +kernel⟩
theorem body_ti {CX : CXT} {f fR fN fW C : Addr} {gR gN gW : FuncData} {qual : Str} {cdv : Value} {A : Around} {outer : List Env} {s : Shared} {H : Hp} {vs : List V} {Q : VK} {E : XK} (T : TrF K mg C)
    (GR : FnOk P w K mg base CX0 3 fR gR ["rooms", "most"] (spCkRooms K)) (mR : mg "check_rooms" = some (.ref fR)) (kR : PySem.W.keepIn K (.ref fR) = true) (bR : Binds K gR ["rooms", "most"] [])
    (GN : FnOk P w K mg base CX0 2 fN gN ["value", "least", "most"] spCkNum) (mN : mg "check_number" = some (.ref fN)) (kN : PySem.W.keepIn K (.ref fN) = true) (bN : Binds K gN ["value", "least", "most"] [])
    (GW : FnOk P w K mg base CX0 1 fW gW ["value", "words"] (spCkWord K)) (mW : mg "check_word" = some (.ref fW)) (kW : PySem.W.keepIn K (.ref fW) = true) (bW : Binds K gW ["value", "words"] [])
    (hr : Room 3 (A.deeper (PyProof.Rows.envOfC qual (defScope sTI) s.heap.objs.size f cdv))) (h : spTrI K C vs H Q E) :
    ∃ t, PSs (cxOf CX P w K mg base ["self", "seek", "empty", "strange", "pause", "rooms"] qual (defScope sTI) f cdv A outer s H E) (defBody sTI) t ∧ t { nx := fun _ H' => Q .non H', rt := Q } (start ["self", "seek", "empty", "strange", "pause", "rooms"] vs) H := by
  obtain ⟨x, dx, t, rs, sk, e, st, p, rfl, hx, ht, ok, k⟩ := h
  obtain ⟨mc, tk, cr, cv⟩ := T.most
  obtain ⟨tk2, ms⟩ := T.ms
  obtain ⟨te, me, ke⟩ := T.we
  obtain ⟨ts, mst, kst⟩ := T.ws
  obtain ⟨tp, mp, kp⟩ := T.wp
  have nd := scTI.nd
  refine ⟨_, PSs.nox (pss_cons (ps_expr (pe_call GR hr rfl mR kR bR .nil pass0 (pa_cons (pv 5) (pa_cons (pe_cval (pe_glob (v := .ref C) (by rfl) T.at_ rfl)) pa_nil))))
    (pss_cons (ps_expr (pe_call GN (hr.mono (by decide)) rfl mN kN bN .nil pass0 (pa_cons (pv 1) (pa_cons pe_int (pa_cons (pe_glob (v := .int 3) (by rfl) ms ⟨_, rfl⟩) pa_nil)))))
    (pss_cons (ps_expr (pe_call GW (hr.mono (by decide)) rfl mW kW bW .nil pass0 (pa_cons (pv 2) (pa_cons (pe_glob (v := .ref te) (by rfl) me rfl) pa_nil))))
    (pss_cons (ps_expr (pe_call GW (hr.mono (by decide)) rfl mW kW bW .nil pass0 (pa_cons (pv 3) (pa_cons (pe_glob (v := .ref ts) (by rfl) mst rfl) pa_nil))))
    (pss_cons (ps_expr (pe_call GW (hr.mono (by decide)) rfl mW kW bW .nil pass0 (pa_cons (pv 4) (pa_cons (pe_glob (v := .ref tp) (by rfl) mp rfl) pa_nil))))
    (pss_cons (ps_fld (pv 0) (pv 5) rfl) (pss_cons (ps_fld (pv 0) (pv 1) rfl) (pss_cons (ps_fld (pv 0) (pv 2) rfl) (pss_cons (ps_fld (pv 0) (pv 3) rfl) (pss_one (ps_fld (pv 0) (pv 4) rfl))))))))))), ?_⟩
  refine ⟨_, rfl, C, mc, _, _, rfl, cr, cv, t, rs, 4, rfl, ht, ok.n1, ok.n3, ok.rr, ?_⟩
  refine ⟨_, rfl, sk, 0, 3, rfl, ok.s0, ok.s3, ?_⟩
  refine ⟨_, rfl, e, te, emptyW, rfl, .inr ke, by decide +kernel, ok.e, ?_⟩
  refine ⟨_, rfl, st, ts, strangeW, rfl, .inr kst, by decide +kernel, ok.st, ?_⟩
  refine ⟨_, rfl, p, tp, pauseW, rfl, .inr kp, by decide +kernel, ok.p, ?_⟩
  refine ⟨_, rfl, _, rfl, x, C, dx, _, rfl, hx, T.cl, T.n1, (by show 0 < 1000; decide), ?_⟩
  refine ⟨_, rfl, _, rfl, x, C, dx, _, rfl, upd_same, T.cl, T.n2, putF_small (k := 0) (Nat.le_refl _) (by decide), ?_⟩
  refine ⟨_, rfl, _, rfl, x, C, dx, _, rfl, upd_same, T.cl, T.n3, putF_small (k := 1) (putF_len (k := 0) (Nat.le_refl _)) (by decide), ?_⟩
  refine ⟨_, rfl, _, rfl, x, C, dx, _, rfl, upd_same, T.cl, T.n4, putF_small (k := 2) (putF_len (k := 1) (putF_len (k := 0) (Nat.le_refl _))) (by decide), ?_⟩
  refine ⟨_, rfl, _, rfl, x, C, dx, _, rfl, upd_same, T.cl, T.n5, putF_small (k := 3) (putF_len (k := 2) (putF_len (k := 1) (putF_len (k := 0) (Nat.le_refl _)))) (by decide), ?_⟩
  exact k _ upd_same fun b o hb e => by rw [upd_ne hb, upd_ne hb, upd_ne hb, upd_ne hb, upd_ne hb]; exact e
end
end Own

namespace Own
open PySem L2 ClX
/-- Tracker.__init__ as it stands behind the top, with its keyword-only defaults -/
structure TrInit (K : PySem.W.Frag) (f : Addr) : Prop where
  ex : ∃ (oc : Value) (od : Option Addr) (D : Addr) (doc pm : Value) (an : Option Addr) (cdv ct : Value) (osl : Array (Option Value)), K.lookup f = some ⟨oc, od, .func (PySem.W.fnOf "__init__" "Tracker.__init__" (defArgs sTI) (defBody sTI) (defScope sTI) .none (.ref D) doc pm an cdv ct), osl⟩ ∧ PySem.W.codeIn K cdv "Tracker.__init__" = true ∧
    (∃ t, PySem.W.nsIn K D "seek" = some (some (.int 0 t))) ∧ (∃ t, PySem.W.nsIn K D "empty" = some (some (.str "none" t))) ∧ (∃ t, PySem.W.nsIn K D "strange" = some (some (.str "first" t))) ∧ ∃ t, PySem.W.nsIn K D "pause" = some (some (.str "clear" t))
def mix1 {α : Type} : List α → List α → List α := fun zs _ => zs
def mix2 {α : Type} : List α → List α → List α := fun zs _ => zs.reverse
def mix3 {α : Type} : List α → List α → List α := fun zs _ => match zs with
  | [e, s, p, st] => [s, e, st, p]
  | _ => []
def mix0 {α : Type} : List α → List α → List α := fun _ mv => mv
section
variable {P : Program} {w : World} {K : PySem.W.Frag} {mg : Str → Option Value} {base : Heap}
variable {CX : CXT} {f fR fN fW C : Addr} {gR gN gW : FuncData}
theorem st_one (hCX : StX.CXUp CX) (I : TrInit K f) (T : TrF K mg C)
    (GR : FnOk P w K mg base CX0 3 fR gR ["rooms", "most"] (spCkRooms K)) (mR : mg "check_rooms" = some (.ref fR)) (kR : PySem.W.keepIn K (.ref fR) = true) (bR : Binds K gR ["rooms", "most"] [])
    (GN : FnOk P w K mg base CX0 2 fN gN ["value", "least", "most"] spCkNum) (mN : mg "check_number" = some (.ref fN)) (kN : PySem.W.keepIn K (.ref fN) = true) (bN : Binds K gN ["value", "least", "most"] [])
    (GW : FnOk P w K mg base CX0 1 fW gW ["value", "words"] (spCkWord K)) (mW : mg "check_word" = some (.ref fW)) (kW : PySem.W.keepIn K (.ref fW) = true) (bW : Binds K gW ["value", "words"] []) :
    FnSt P w K mg base CX 4 f ["seek", "empty", "strange", "pause"] (fun zs => mix1 zs []) (spTrI K C) := by
  obtain ⟨oc, od, D, doc, pm, an, cdv, ct, osl, lk, hcd, d1, d2, d3, d4⟩ := I.ex
  exact fn_starKwo (ms := []) (g := mix1) (gV := mix1) (ps := ["seek", "empty", "strange", "pause"]) (pv := "rooms") (p0 := "self") lk hcd scTI hCX (fun q hq => by cases hq) (fun r _ => r) (fun ws mv l _ => l)
    (fun a us ws mv l1 l2 => match ws, l1, mv, l2, us with
      | [_, _, _, _], _, [], _, [] => rfl
      | [_, _, _, _], _, [], _, _ :: _ => rfl)
    (fun A outer s H vs Q E hr h => body_ti T GR mR kR bR GN mN kN bN GW mW kW bW hr h)
theorem st_two (hCX : StX.CXUp CX) (I : TrInit K f) (T : TrF K mg C)
    (GR : FnOk P w K mg base CX0 3 fR gR ["rooms", "most"] (spCkRooms K)) (mR : mg "check_rooms" = some (.ref fR)) (kR : PySem.W.keepIn K (.ref fR) = true) (bR : Binds K gR ["rooms", "most"] [])
    (GN : FnOk P w K mg base CX0 2 fN gN ["value", "least", "most"] spCkNum) (mN : mg "check_number" = some (.ref fN)) (kN : PySem.W.keepIn K (.ref fN) = true) (bN : Binds K gN ["value", "least", "most"] [])
    (GW : FnOk P w K mg base CX0 1 fW gW ["value", "words"] (spCkWord K)) (mW : mg "check_word" = some (.ref fW)) (kW : PySem.W.keepIn K (.ref fW) = true) (bW : Binds K gW ["value", "words"] []) :
    FnSt P w K mg base CX 4 f ["pause", "strange", "empty", "seek"] (fun zs => mix2 zs []) (spTrI K C) := by
  obtain ⟨oc, od, D, doc, pm, an, cdv, ct, osl, lk, hcd, d1, d2, d3, d4⟩ := I.ex
  exact fn_starKwo (ms := []) (g := mix2) (gV := mix2) (ps := ["seek", "empty", "strange", "pause"]) (pv := "rooms") (p0 := "self") lk hcd scTI hCX (fun q hq => by cases hq) (fun r _ => vals_rev r) (fun ws mv l _ => by show ws.reverse.length = 4; rw [List.length_reverse]; exact l)
    (fun a us ws mv l1 l2 => match ws, l1, mv, l2, us with
      | [_, _, _, _], _, [], _, [] => rfl
      | [_, _, _, _], _, [], _, _ :: _ => rfl)
    (fun A outer s H vs Q E hr h => body_ti T GR mR kR bR GN mN kN bN GW mW kW bW hr h)
theorem st_three (hCX : StX.CXUp CX) (I : TrInit K f) (T : TrF K mg C)
    (GR : FnOk P w K mg base CX0 3 fR gR ["rooms", "most"] (spCkRooms K)) (mR : mg "check_rooms" = some (.ref fR)) (kR : PySem.W.keepIn K (.ref fR) = true) (bR : Binds K gR ["rooms", "most"] [])
    (GN : FnOk P w K mg base CX0 2 fN gN ["value", "least", "most"] spCkNum) (mN : mg "check_number" = some (.ref fN)) (kN : PySem.W.keepIn K (.ref fN) = true) (bN : Binds K gN ["value", "least", "most"] [])
    (GW : FnOk P w K mg base CX0 1 fW gW ["value", "words"] (spCkWord K)) (mW : mg "check_word" = some (.ref fW)) (kW : PySem.W.keepIn K (.ref fW) = true) (bW : Binds K gW ["value", "words"] []) :
    FnSt P w K mg base CX 4 f ["empty", "seek", "pause", "strange"] (fun zs => mix3 zs []) (spTrI K C) := by
  obtain ⟨oc, od, D, doc, pm, an, cdv, ct, osl, lk, hcd, d1, d2, d3, d4⟩ := I.ex
  exact fn_starKwo (ms := []) (g := mix3) (gV := mix3) (ps := ["seek", "empty", "strange", "pause"]) (pv := "rooms") (p0 := "self") lk hcd scTI hCX (fun q hq => by cases hq)
    (fun r _ => match r with
      | .cons a (.cons b (.cons c (.cons d .nil))) => .cons b (.cons a (.cons d (.cons c .nil)))
      | .nil => .nil
      | .cons _ .nil => .nil
      | .cons _ (.cons _ .nil) => .nil
      | .cons _ (.cons _ (.cons _ .nil)) => .nil
      | .cons _ (.cons _ (.cons _ (.cons _ (.cons _ _)))) => .nil)
    (fun ws mv l _ => match ws, l with | [_, _, _, _], _ => rfl)
    (fun a us ws mv l1 l2 => match ws, l1, mv, l2, us with
      | [_, _, _, _], _, [], _, [] => rfl
      | [_, _, _, _], _, [], _, _ :: _ => rfl)
    (fun A outer s H vs Q E hr h => body_ti T GR mR kR bR GN mN kN bN GW mW kW bW hr h)
theorem st_none (hCX : StX.CXUp CX) (I : TrInit K f) (T : TrF K mg C)
    (GR : FnOk P w K mg base CX0 3 fR gR ["rooms", "most"] (spCkRooms K)) (mR : mg "check_rooms" = some (.ref fR)) (kR : PySem.W.keepIn K (.ref fR) = true) (bR : Binds K gR ["rooms", "most"] [])
    (GN : FnOk P w K mg base CX0 2 fN gN ["value", "least", "most"] spCkNum) (mN : mg "check_number" = some (.ref fN)) (kN : PySem.W.keepIn K (.ref fN) = true) (bN : Binds K gN ["value", "least", "most"] [])
    (GW : FnOk P w K mg base CX0 1 fW gW ["value", "words"] (spCkWord K)) (mW : mg "check_word" = some (.ref fW)) (kW : PySem.W.keepIn K (.ref fW) = true) (bW : Binds K gW ["value", "words"] []) :
    FnSt P w K mg base CX 4 f [] (fun _ => [.int 0, .str "none", .str "first", .str "clear"]) (spTrI K C) := by
  obtain ⟨oc, od, D, doc, pm, an, cdv, ct, osl, lk, hcd, ⟨t1, d1⟩, ⟨t2, d2⟩, ⟨t3, d3⟩, ⟨t4, d4⟩⟩ := I.ex
  exact fn_starKwo (ms := [("seek", .int 0), ("empty", .str "none"), ("strange", .str "first"), ("pause", .str "clear")]) (g := mix0) (gV := mix0) (ps := ["seek", "empty", "strange", "pause"]) (pv := "rooms") (p0 := "self") lk hcd scTI hCX
    (fun q hq => by
      simp only [List.mem_cons, List.not_mem_nil, or_false] at hq
      rcases hq with rfl | rfl | rfl | rfl
      · exact ⟨_, d1, _, rfl⟩
      · exact ⟨_, d2, _, rfl⟩
      · exact ⟨_, d3, _, rfl⟩
      · exact ⟨_, d4, _, rfl⟩) (fun _ r => r) (fun ws mv _ l => l)
    (fun a us ws mv l1 l2 => match ws, l1, mv, l2, us with
      | [], _, [_, _, _, _], _, [] => ⟨_, _, _, _, _, _, rfl, rfl, _, _, _, _, _, _, rfl, rfl, _, _, _, _, _, _, rfl, rfl, _, _, _, _, _, _, rfl, rfl, rfl⟩
      | [], _, [_, _, _, _], _, _ :: _ => ⟨_, _, _, _, _, _, rfl, rfl, _, _, _, _, _, _, rfl, rfl, _, _, _, _, _, _, rfl, rfl, _, _, _, _, _, _, rfl, rfl, rfl⟩)
    (fun A outer s H vs Q E hr h => body_ti T GR mR kR bR GN mN kN bN GW mW kW bW hr h)
end
end Own

namespace Own
open PySem L2 ClX
theorem len123 {rs : List Int} {s : Int} {e st p : Str} (ok : TrOk rs s e st p) : rs.length = 1 ∨ rs.length = 2 ∨ rs.length = 3 := by
  have := ok.n1; have := ok.n3; omega
abbrev sTR : Stmt := inClass (topT 38) 2
abbrev sTLen : Stmt := inClass (topT 38) 9
abbrev sTG (i : Nat) : Stmt := inClass (topT 38) i
def spRooms (K : PySem.W.Frag) (C : Addr) : Sp := fun vs H Q _ => ∃ a rs s e st p, vs = [.ref a] ∧ TrAt K C H a rs s e st p ∧ ∀ l, H l = none → Q (.ref l) (upd H l (.lst (rs.map V.int)))
def spTLen (K : PySem.W.Frag) (C : Addr) : Sp := fun vs H Q _ => ∃ a rs s e st p, vs = [.ref a] ∧ TrAt K C H a rs s e st p ∧ Q (.int (rs.length : Nat)) H
section
variable {P : Program} {w : World} {K : PySem.W.Frag} {mg : Str → Option Value} {base : Heap} {f C : Addr} {fd : FuncData}
theorem scTR : FnScope ["self"] ["self"] (defScope sTR) := ⟨rfl, rfl, rfl, by decide +kernel, rfl, by decide +kernel, by decide +kernel⟩
theorem ok_rooms (F : Fun K "rooms" "Tracker.rooms" sTR f fd) (T : TrF K mg C) (zL : mg "list" = none) : FnOk P w K mg base CX0 1 f fd ["self"] (spRooms K C) := by
  refine F.ok scTR (fun vs H Q E h => ?_) (fun cdv A outer s H vs Q E hr h => ?_)
  · obtain ⟨a, rs, s, e, st, p, rfl, _⟩ := h
    rfl
  · obtain ⟨a, rs, s, e, st, p, rfl, ⟨dx, t, ha, ht, ok⟩, k⟩ := h
    refine ⟨_, pss_one (ps_ret (pe_callTy call_list_of (by rfl) zL (by decide +kernel) (pa_cons (pe_fld (pv 0) rfl) pa_nil))), ?_⟩
    exact ⟨_, rfl, a, C, dx, _, _, rfl, ha, T.cl, T.n1, rfl, t, _, rfl, .inr ht, k⟩
theorem scTLen : FnScope ["self"] ["self"] (defScope sTLen) := ⟨rfl, rfl, rfl, by decide +kernel, rfl, by decide +kernel, by decide +kernel⟩
theorem ok_tlen (F : Fun K "__len__" "Tracker.__len__" sTLen f fd) (T : TrF K mg C) (zL : mg "len" = none) : FnOk P w K mg base CX0 1 f fd ["self"] (spTLen K C) := by
  refine F.ok scTLen (fun vs H Q E h => ?_) (fun cdv A outer s H vs Q E hr h => ?_)
  · obtain ⟨a, rs, s, e, st, p, rfl, _⟩ := h
    rfl
  · obtain ⟨a, rs, s, e, st, p, rfl, ⟨dx, t, ha, ht, ok⟩, k⟩ := h
    refine ⟨_, pss_one (ps_ret (pe_callB call_len_seq (by rfl) zL PySem.boot_len (pa_cons (pe_fld (pv 0) rfl) pa_nil))), ?_⟩
    refine ⟨_, rfl, a, C, dx, _, _, rfl, ha, T.cl, T.n1, rfl, t, _, rfl, .inr ht, ?_⟩
    rw [List.length_map]
    exact k
theorem scTG3 : FnScope ["self"] ["self"] (defScope (sTG 3)) := ⟨rfl, rfl, rfl, by decide +kernel, rfl, by decide +kernel, by decide +kernel⟩
theorem scTG4 : FnScope ["self"] ["self"] (defScope (sTG 4)) := ⟨rfl, rfl, rfl, by decide +kernel, rfl, by decide +kernel, by decide +kernel⟩
theorem scTG5 : FnScope ["self"] ["self"] (defScope (sTG 5)) := ⟨rfl, rfl, rfl, by decide +kernel, rfl, by decide +kernel, by decide +kernel⟩
theorem scTG6 : FnScope ["self"] ["self"] (defScope (sTG 6)) := ⟨rfl, rfl, rfl, by decide +kernel, rfl, by decide +kernel, by decide +kernel⟩
theorem ok_g3 (F : Fun K "seek" "Tracker.seek" (sTG 3) f fd) (T : TrF K mg C) : FnOk P w K mg base CX0 1 f fd ["self"] (spGet C "_seek") := by
  refine F.ok scTG3 (fun vs H Q E ⟨a, dx, fs, v, e, _⟩ => by rw [e]; rfl) (fun cdv A outer s H vs Q E hr ⟨a, dx, fs, v, e, ea, l, q⟩ => ?_)
  subst e
  exact ⟨_, pss_one (ps_ret (pe_fld (pv 0) rfl)), _, rfl, a, C, dx, fs, v, rfl, ea, T.cl, T.n2, l, q⟩
theorem ok_g4 (F : Fun K "empty" "Tracker.empty" (sTG 4) f fd) (T : TrF K mg C) : FnOk P w K mg base CX0 1 f fd ["self"] (spGet C "_empty") := by
  refine F.ok scTG4 (fun vs H Q E ⟨a, dx, fs, v, e, _⟩ => by rw [e]; rfl) (fun cdv A outer s H vs Q E hr ⟨a, dx, fs, v, e, ea, l, q⟩ => ?_)
  subst e
  exact ⟨_, pss_one (ps_ret (pe_fld (pv 0) rfl)), _, rfl, a, C, dx, fs, v, rfl, ea, T.cl, T.n3, l, q⟩
theorem ok_g5 (F : Fun K "strange" "Tracker.strange" (sTG 5) f fd) (T : TrF K mg C) : FnOk P w K mg base CX0 1 f fd ["self"] (spGet C "_strange") := by
  refine F.ok scTG5 (fun vs H Q E ⟨a, dx, fs, v, e, _⟩ => by rw [e]; rfl) (fun cdv A outer s H vs Q E hr ⟨a, dx, fs, v, e, ea, l, q⟩ => ?_)
  subst e
  exact ⟨_, pss_one (ps_ret (pe_fld (pv 0) rfl)), _, rfl, a, C, dx, fs, v, rfl, ea, T.cl, T.n4, l, q⟩
theorem ok_g6 (F : Fun K "pause" "Tracker.pause" (sTG 6) f fd) (T : TrF K mg C) : FnOk P w K mg base CX0 1 f fd ["self"] (spGet C "_pause") := by
  refine F.ok scTG6 (fun vs H Q E ⟨a, dx, fs, v, e, _⟩ => by rw [e]; rfl) (fun cdv A outer s H vs Q E hr ⟨a, dx, fs, v, e, ea, l, q⟩ => ?_)
  subst e
  exact ⟨_, pss_one (ps_ret (pe_fld (pv 0) rfl)), _, rfl, a, C, dx, fs, v, rfl, ea, T.cl, T.n5, l, q⟩
end
end Own

namespace Own
open PySem L2 ClX PySem.HandSPX
abbrev sMadeT : Stmt := topT 70
theorem planK_r (a b c d e f g h i j : V) : valV (planK a b c d e f g h i j) (Sum.inr "rooms") = some f := by
  unfold planK
  rw [valV_neg (by exact fun z => absurd (Sum.inr.inj z) (by decide +kernel)), valV_neg (by exact fun z => absurd (Sum.inr.inj z) (by decide +kernel)), valV_neg (by exact fun z => absurd (Sum.inr.inj z) (by decide +kernel)), valV_neg (by exact fun z => absurd (Sum.inr.inj z) (by decide +kernel)), valV_neg (by exact fun z => absurd (Sum.inr.inj z) (by decide +kernel)), valV_pos rfl]
theorem planK_k (a b c d e f g h i j : V) : valV (planK a b c d e f g h i j) (Sum.inr "seek") = some g := by
  unfold planK
  rw [valV_neg (by exact fun z => absurd (Sum.inr.inj z) (by decide +kernel)), valV_neg (by exact fun z => absurd (Sum.inr.inj z) (by decide +kernel)), valV_neg (by exact fun z => absurd (Sum.inr.inj z) (by decide +kernel)), valV_neg (by exact fun z => absurd (Sum.inr.inj z) (by decide +kernel)), valV_neg (by exact fun z => absurd (Sum.inr.inj z) (by decide +kernel)), valV_neg (by exact fun z => absurd (Sum.inr.inj z) (by decide +kernel)), valV_pos rfl]
theorem planK_e (a b c d e f g h i j : V) : valV (planK a b c d e f g h i j) (Sum.inr "empty") = some h := by
  unfold planK
  rw [valV_neg (by exact fun z => absurd (Sum.inr.inj z) (by decide +kernel)), valV_neg (by exact fun z => absurd (Sum.inr.inj z) (by decide +kernel)), valV_neg (by exact fun z => absurd (Sum.inr.inj z) (by decide +kernel)), valV_neg (by exact fun z => absurd (Sum.inr.inj z) (by decide +kernel)), valV_neg (by exact fun z => absurd (Sum.inr.inj z) (by decide +kernel)), valV_neg (by exact fun z => absurd (Sum.inr.inj z) (by decide +kernel)), valV_neg (by exact fun z => absurd (Sum.inr.inj z) (by decide +kernel)), valV_pos rfl]
theorem planK_g (a b c d e f g h i j : V) : valV (planK a b c d e f g h i j) (Sum.inr "strange") = some i := by
  unfold planK
  rw [valV_neg (by exact fun z => absurd (Sum.inr.inj z) (by decide +kernel)), valV_neg (by exact fun z => absurd (Sum.inr.inj z) (by decide +kernel)), valV_neg (by exact fun z => absurd (Sum.inr.inj z) (by decide +kernel)), valV_neg (by exact fun z => absurd (Sum.inr.inj z) (by decide +kernel)), valV_neg (by exact fun z => absurd (Sum.inr.inj z) (by decide +kernel)), valV_neg (by exact fun z => absurd (Sum.inr.inj z) (by decide +kernel)), valV_neg (by exact fun z => absurd (Sum.inr.inj z) (by decide +kernel)), valV_neg (by exact fun z => absurd (Sum.inr.inj z) (by decide +kernel)), valV_pos rfl]
theorem planK_p (a b c d e f g h i j : V) : valV (planK a b c d e f g h i j) (Sum.inr "pause") = some j := by
  unfold planK
  rw [valV_neg (by exact fun z => absurd (Sum.inr.inj z) (by decide +kernel)), valV_neg (by exact fun z => absurd (Sum.inr.inj z) (by decide +kernel)), valV_neg (by exact fun z => absurd (Sum.inr.inj z) (by decide +kernel)), valV_neg (by exact fun z => absurd (Sum.inr.inj z) (by decide +kernel)), valV_neg (by exact fun z => absurd (Sum.inr.inj z) (by decide +kernel)), valV_neg (by exact fun z => absurd (Sum.inr.inj z) (by decide +kernel)), valV_neg (by exact fun z => absurd (Sum.inr.inj z) (by decide +kernel)), valV_neg (by exact fun z => absurd (Sum.inr.inj z) (by decide +kernel)), valV_neg (by exact fun z => absurd (Sum.inr.inj z) (by decide +kernel)), valV_pos rfl]
def Plan.TrOk (pl : Plan) : Prop := Own.TrOk pl.rooms pl.seek pl.empty pl.strange pl.pause
theorem PlanOk.tr {m w : Nat} {pl : Plan} (h : PlanOk m w pl) (hm : m ≤ 3 := by decide) (hw : w ≤ 3 := by decide) : pl.TrOk where
  n1 := by rw [h.rl]; exact h.n1
  n3 := by rw [h.rl]; exact Nat.le_trans h.n2 hm
  rr := fun x hx => by have := h.rm x hx; omega
  s0 := h.s0
  s3 := by have := h.s1; omega
  e := by rcases h.em with e | e <;> rw [e] <;> decide +kernel
  st := by rcases h.sg with e | e <;> rw [e] <;> decide +kernel
  p := by rcases h.pa with e | e <;> rw [e] <;> decide +kernel
def TrP (K : PySem.W.Frag) (C : Addr) (H : Hp) (x : Addr) (pl : Plan) : Prop := TrAt K C H x pl.rooms pl.seek pl.empty pl.strange pl.pause
def spMadeT (K : PySem.W.Frag) (C : Addr) : Sp := fun vs H Q _ => ∃ D b s t wd r pl, vs = [.ref D] ∧ PlanH H D b s t wd r pl ∧ pl.TrOk ∧ ∀ (x : Addr) (H' : Hp), H x = none → TrP K C H' x pl → Same H H' → Q (.ref x) H'
section
variable {P : Program} {w : World} {K : PySem.W.Frag} {mg : Str → Option Value} {base : Heap}
/-- Tracker(..) with keywords in any order: what comes of it -/
theorem made_end {C : Addr} {H : Hp} {vs : List V} {gV : List V → List V} {zs : List V} {rs : List Int} {s : Int} {e st z : Str} {Q : VK} {E : XK} (hv : vs = rs.map V.int) (hz : gV zs = [.int s, .str e, .str st, .str z]) (ok : TrOk rs s e st z) (k : ∀ (x : Addr) (H' : Hp), H x = none → TrAt K C H' x rs s e st z → Same H H' → Q (.ref x) H') :
    tMkS C (spTrI K C) gV E vs zs H Q := by
  subst hv
  refine ⟨by rw [List.length_map]; have := ok.n3; omega, fun x dx p hx hdx n1 hp n2 n3 => ?_⟩
  refine ⟨x, dx, p, rs, s, e, st, z, ?_, ?_, .inl (.inl upd_same), ok, fun H' q1 q2 => ⟨rfl, ?_⟩⟩
  · rw [hz]
    rfl
  · rw [upd_ne (Ne.symm n2), upd_same]
  · refine k x H' hx ⟨dx, p, q1, .inl (.inl (q2 p _ n2 upd_same)), ok⟩ fun b o hb => q2 b o (ne_of_none hb hx) ?_
    rw [upd_ne (ne_of_none hb hp), upd_ne (ne_of_none hb hx), upd_ne (ne_of_none hb hdx)]
    exact hb
theorem scMadeT : FnScope ["_law_plan", "_law_rooms"] ["_law_plan"] (defScope sMadeT) := ⟨rfl, rfl, rfl, by decide +kernel, rfl, by decide +kernel, by decide +kernel⟩
theorem ok_madeT {f fI C : Addr} {fd : FuncData} (F : Fun K "_law_made_tracker" "_law_made_tracker" sMadeT f fd) (T : TrF K mg C) (M : Mk K C fI) (zL : mg "len" = none)
    (G1 : FnSt P w K mg base CX0 4 fI ["seek", "empty", "strange", "pause"] (fun zs => mix1 zs []) (spTrI K C)) (G2 : FnSt P w K mg base CX0 4 fI ["pause", "strange", "empty", "seek"] (fun zs => mix2 zs []) (spTrI K C)) (G3 : FnSt P w K mg base CX0 4 fI ["empty", "seek", "pause", "strange"] (fun zs => mix3 zs []) (spTrI K C)) :
    FnOk P w K mg base CX0 6 f fd ["_law_plan"] (spMadeT K C) := by
  refine F.ok scMadeT (fun vs H Q E h => ?_) (fun cdv A outer s H vs Q E hr h => ?_)
  · obtain ⟨D, b, sa, t, wd, r, pl, rfl, _⟩ := h
    rfl
  · obtain ⟨D, b, sa, t, wd, r, pl, rfl, ph, ok, k⟩ := h
    have nd := scMadeT.nd
    have hu : (A.deeper (PyProof.Rows.envOfC "_law_made_tracker" (defScope sMadeT) s.heap.objs.size f cdv)).units + 1 < cLine := by have := hr.units; omega
    refine ⟨_, pss_cons (ps_set (i := 1) nd rfl (Or.inl rfl) (pe_dget hu (pv 0) pe_str (fun _ _ => rfl)))
      (pss_cons (ps_if (pt_cmpR op_eq (pe_callB call_len_seq (by rfl) zL PySem.boot_len (pa_cons (pv 1) pa_nil)) pe_int (nomark _))
        (pss_one (ps_ret (pe_mkS M G1 hr (by rfl) T.at_ pass0 (pa_cons (pe_ix ix_list (pv 1) pe_int (fun _ _ => rfl)) pa_nil) (pk_cons (pe_dget hu (pv 0) pe_str (fun _ _ => rfl)) (pk_cons (pe_dget hu (pv 0) pe_str (fun _ _ => rfl)) (pk_cons (pe_dget hu (pv 0) pe_str (fun _ _ => rfl)) (pk_cons (pe_dget hu (pv 0) pe_str (fun _ _ => rfl)) pk_nil))))))) pss_nil)
      (pss_cons (ps_if (pt_cmpR op_eq (pe_callB call_len_seq (by rfl) zL PySem.boot_len (pa_cons (pv 1) pa_nil)) pe_int (nomark _))
        (pss_one (ps_ret (pe_mkS M G2 hr (by rfl) T.at_ pass0 (pa_cons (pe_ix ix_list (pv 1) pe_int (fun _ _ => rfl)) (pa_cons (pe_ix ix_list (pv 1) pe_int (fun _ _ => rfl)) pa_nil)) (pk_cons (pe_dget hu (pv 0) pe_str (fun _ _ => rfl)) (pk_cons (pe_dget hu (pv 0) pe_str (fun _ _ => rfl)) (pk_cons (pe_dget hu (pv 0) pe_str (fun _ _ => rfl)) (pk_cons (pe_dget hu (pv 0) pe_str (fun _ _ => rfl)) pk_nil))))))) pss_nil)
      (pss_one (ps_ret (pe_mkS M G3 hr (by rfl) T.at_ pass0 (pa_cons (pe_ix ix_list (pv 1) pe_int (fun _ _ => rfl)) (pa_cons (pe_ix ix_list (pv 1) pe_int (fun _ _ => rfl)) (pa_cons (pe_ix ix_list (pv 1) pe_int (fun _ _ => rfl)) pa_nil))) (pk_cons (pe_dget hu (pv 0) pe_str (fun _ _ => rfl)) (pk_cons (pe_dget hu (pv 0) pe_str (fun _ _ => rfl)) (pk_cons (pe_dget hu (pv 0) pe_str (fun _ _ => rfl)) (pk_cons (pe_dget hu (pv 0) pe_str (fun _ _ => rfl)) pk_nil))))))))), ?_⟩
    have g1 := dget_some ph.dk (planK_r ..)
    have g2 := dget_some ph.dk (planK_k ..)
    have g3 := dget_some ph.dk (planK_e ..)
    have g4 := dget_some ph.dk (planK_g ..)
    have g5 := dget_some ph.dk (planK_p ..)
    have hl := SqL.of (K := K) ph.hr
    have fin : ∀ (gV : List V → List V) (zs vs : List V), gV zs = [.int pl.seek, .str pl.empty, .str pl.strange, .str pl.pause] → vs = pl.rooms.map V.int → tMkS C (spTrI K C) gV E vs zs H Q := fun gV zs vs hz hv => made_end hv hz ok k
    have n1 : 1 ≤ pl.rooms.length := ok.n1
    have n3 : pl.rooms.length ≤ 3 := ok.n3
    match eb : pl.rooms, n1, n3 with
    | [x], _, _ =>
      rw [eb] at hl fin
      refine ⟨_, rfl, D, _, rfl, g1, _, rfl, r, _, rfl, .inl hl, rfl, _, rfl, iteT ?_⟩
      refine ⟨_, rfl, r, _, _, _, rfl, rfl, hl, rfl, _, rfl, D, _, rfl, g2, _, rfl, D, _, rfl, g3, _, rfl, D, _, rfl, g4, _, rfl, D, _, rfl, g5, rfl, ?_⟩
      exact fin _ _ _ rfl rfl
    | [x, y], _, _ =>
      rw [eb] at hl fin
      refine ⟨_, rfl, D, _, rfl, g1, _, rfl, r, _, rfl, .inl hl, rfl, _, rfl, iteF ?_⟩
      refine ⟨_, rfl, r, _, rfl, .inl hl, rfl, _, rfl, iteT ?_⟩
      refine ⟨_, rfl, r, _, _, _, rfl, rfl, hl, rfl, _, rfl, r, _, _, _, rfl, rfl, hl, rfl, _, rfl, D, _, rfl, g5, _, rfl, D, _, rfl, g4, _, rfl, D, _, rfl, g3, _, rfl, D, _, rfl, g2, rfl, ?_⟩
      exact fin _ _ _ rfl rfl
    | [x, y, z], _, _ =>
      rw [eb] at hl fin
      refine ⟨_, rfl, D, _, rfl, g1, _, rfl, r, _, rfl, .inl hl, rfl, _, rfl, iteF ?_⟩
      refine ⟨_, rfl, r, _, rfl, .inl hl, rfl, _, rfl, iteF ?_⟩
      refine ⟨_, rfl, r, _, _, _, rfl, rfl, hl, rfl, _, rfl, r, _, _, _, rfl, rfl, hl, rfl, _, rfl, r, _, _, _, rfl, rfl, hl, rfl, _, rfl, D, _, rfl, g3, _, rfl, D, _, rfl, g2, _, rfl, D, _, rfl, g5, _, rfl, D, _, rfl, g4, rfl, ?_⟩
      exact fin _ _ _ rfl rfl
    | [], n, _ => exact absurd n (by show ¬ 1 ≤ 0; decide)
    | _ :: _ :: _ :: _ :: l, _, n => exact absurd n (by show ¬ (l.length + 1 + 1 + 1 + 1) ≤ 3; omega)
end
end Own

namespace Own
open PySem L2 ClX PySem.HandSPX
structure DefF (P : Program) (w : World) (K : PySem.W.Frag) (mg : Str → Option Value) (base : Heap) (x : Str) (k : Nat) (ps : List Str) (sp : Sp) (f : Addr) (fd : FuncData) : Prop where
  G : FnOk P w K mg base CX0 k f fd ps sp
  m : mg x = some (.ref f)
  kp : PySem.W.keepIn K (.ref f) = true
  b : Binds K fd ps []
/-- a method of a class -/
structure MetF (P : Program) (w : World) (K : PySem.W.Frag) (mg : Str → Option Value) (base : Heap) (C : Addr) (x : Str) (k : Nat) (ps : List Str) (sp : Sp) (f : Addr) (fd : FuncData) : Prop where
  G : FnOk P w K mg base CX0 k f fd ps sp
  m : Meth K C x f
  b : Binds K fd ps []
structure PropF (P : Program) (w : World) (K : PySem.W.Frag) (mg : Str → Option Value) (base : Heap) (C : Addr) (x : Str) (p g : Addr) (sp : Sp) (fd : FuncData) : Prop where
  hp : PropOf K C x p g
  G : FnOk P w K mg base CX0 1 g fd ["self"] sp
  b : Binds K fd ["self"] []
structure SpcF (P : Program) (w : World) (K : PySem.W.Frag) (mg : Str → Option Value) (base : Heap) (C : Addr) (x : Str) (sp : Sp) (f : Addr) (fd : FuncData) : Prop where
  s : Spec1 K C f x
  G : FnOk P w K mg base CX0 1 f fd ["self"] sp
  b : Binds K fd ["self"] []
section
variable {K : PySem.W.Frag} {a : Addr} {xs ys : List V} {g : TG} {te : TE} {vs : List Nat} {σ : L2.St} {H1 : Hp} {D : Addr} {Qd : Hp → Prop}
/-- lc_map over a tuple -/
theorem lc_mapT (ys : List V) (hl : ys.length = xs.length) (hz : ys.length < sizeLine) (ha : SqT K H1 a xs) (nD : H1 D = none)
    (hs : ∀ (i : Nat) (x y : V) (H' : Hp) (R : V → Hp → Prop), xs[i]? = some x → ys[i]? = some y → Same H1 H' → (∀ H2, Same H' H2 → R y H2) → g x (wipe σ vs) H' fun σ2 H2 => wipe σ2 vs = wipe σ vs ∧ tYes σ2 H2 fun b H3 => if b = true then te σ2 H3 R else False) (hd : ∀ H, Same H1 H → H D = some (.lst ys) → Qd H)
    (hg : ∀ (x : V) (s : L2.St) (H : Hp) (R R' : L2.St → Hp → Prop), (∀ σ2 H2, R σ2 H2 → R' σ2 H2) → g x s H R → g x s H R') :
    ∃ W : Nat → Nat → Hp → Prop, (∃ m, W 0 m (upd H1 D (.lst []))) ∧ ∀ i m H, W i m H →
      ((Itt K a).stop i H ∧ Qd H) ∨ ((Itt K a).go i H ∧ ∃ Nx : Hp → Prop, (∀ H', Nx H' → ∃ m', m' < m ∧ W (i + 1) m' H') ∧ ∀ x H', (Itt K a).yld i H x H' → g x (wipe σ vs) H' fun σ2 H2 => wipe σ2 vs = wipe σ vs ∧ tYes σ2 H2 fun b H3 =>
        if b = true then te σ2 H3 fun y H4 => ∃ acc, H4 D = some (.lst acc) ∧ acc.length < sizeLine ∧ Nx (upd H4 D (.lst (acc ++ [y]))) else Nx H3) := by
  refine lc_tup (K := K) (a := a) (xs := xs) (fun i H' => Same H1 H' ∧ H' D = some (.lst (ys.take i))) ⟨(Same.refl _).new nD, upd_same⟩ (fun i H' _ q => sqT_same ha q.1) ?_ ?_
  · rintro i x H' hi ⟨sm, hD⟩
    have hlt : i < ys.length := by
      rw [hl]
      exact (List.getElem?_eq_some_iff.mp hi).1
    have hy : ys[i]? = some ys[i] := List.getElem?_eq_getElem hlt
    refine hg _ _ _ _ _ (fun σ2 H2 q => ⟨q.1, ?_⟩) (hs i x _ H' (fun y H4 => ∃ acc, H4 D = some (.lst acc) ∧ acc.length < sizeLine ∧ Same H1 (upd H4 D (.lst (acc ++ [y]))) ∧ upd H4 D (.lst (acc ++ [y])) D = some (.lst (ys.take (i + 1)))) hi hy sm fun H2 s2 => ?_)
    · exact q.2
    · refine ⟨_, s2 _ _ hD, ?_, (sm.trans s2).own nD, ?_⟩
      · rw [List.length_take]
        exact Nat.lt_of_le_of_lt (Nat.min_le_right _ _) hz
      · rw [upd_same, take_snoc hy]
  · rintro H' ⟨sm, hD⟩
    rw [← hl, List.take_length] at hD
    exact hd H' sm hD
end
def istr (n : Int) : Str := toString n
theorem istr_len {n : Int} (h : 0 ≤ n ∧ n ≤ 12) : (istr n).length ≤ 8 := by
  obtain ⟨h0, h1⟩ := h
  have q : ∀ m : Nat, m < 13 → (istr (m : Int)).length ≤ 8 := by decide +kernel
  have := q n.toNat (by omega)
  rwa [Int.toNat_of_nonneg h0] at this
abbrev sNb : Stmt := topT 51
abbrev NNb : List Str := ["numbers", "number"]
def Sml (ns : List Int) : Prop := ∀ n ∈ ns, 0 ≤ n ∧ n ≤ 12
def spNb (K : PySem.W.Frag) : Sp := fun vs H Q _ => ∃ a ns, vs = [.ref a] ∧ Sq K H a (ns.map V.int) ∧ ns.length ≤ 1000 ∧ Sml ns ∧ ∀ l H', H l = none → Same H H' → H' l = some (.lst ((ns.map istr).map V.str)) → Q (.ref l) H'
section
variable {P : Program} {w : World} {K : PySem.W.Frag} {mg : Str → Option Value} {base : Heap}
theorem scNb : FnScope NNb ["numbers"] (defScope sNb) := ⟨rfl, rfl, rfl, by decide +kernel, rfl, by decide +kernel, by decide +kernel⟩
theorem ok_nb {f : Addr} {fd : FuncData} (F : Fun K "numbered" "numbered" sNb f fd) (zS : mg "str" = none) : FnOk P w K mg base CX0 1 f fd ["numbers"] (spNb K) := by
  refine F.ok scNb (fun vs H Q E h => ?_) (fun cdv A outer s H vs Q E hr h => ?_)
  · obtain ⟨a, ns, rfl, _⟩ := h
    rfl
  · obtain ⟨a, ns, rfl, ha, hl, sm, k⟩ := h
    have nd := scNb.nd
    refine ⟨_, PSs.nox (pss_one (ps_ret (pe_lc (own := [("number", 1)]) (g := (gName 1)) (tt := tYes) rfl nd (pi_sq (pv 0)) (blkOk_by (N := NNb) (sc := defScope sNb) (by decide +kernel)) (fun _ _ _ _ _ => pg_name (i := 1) nd rfl (Or.inl rfl)) (fun _ _ _ _ _ => pts_nil) (fun _ _ _ _ _ => pe_callTy call_str_int (by rfl) zS (by decide +kernel) (pa_cons (pv 1) pa_nil))))), ?_⟩
    have len : ((ns.map istr).map V.str).length = (ns.map V.int).length := by rw [List.length_map, List.length_map, List.length_map]
    have lz : ((ns.map istr).map V.str).length < sizeLine := by rw [List.length_map, List.length_map]; exact Nat.lt_of_le_of_lt hl (by decide)
    have step : ∀ (D : Addr) (nD : H D = none) (i : Nat) (x y : V) (G : Hp) (R : V → Hp → Prop), (ns.map V.int)[i]? = some x → ((ns.map istr).map V.str)[i]? = some y → Same H G → (∀ H2, Same G H2 → R y H2) → ∃ n : Int, x = .int n ∧ y = .str (istr n) ∧ n.natAbs.log2 < 1920 := fun D nD i x y G R hi hy sG k2 => by
      rw [List.getElem?_map] at hi
      rw [List.getElem?_map, List.getElem?_map] at hy
      cases e : ns[i]? with
      | none => rw [e] at hi; cases hi
      | some n =>
        rw [e] at hi hy
        refine ⟨n, (Option.some.inj hi).symm, (Option.some.inj hy).symm, ?_⟩
        have := sm n (List.mem_of_getElem? e)
        have q : ∀ m : Nat, m < 13 → m.log2 < 1920 := by decide +kernel
        exact q _ (by omega)
    rcases ha with ha | ha
    · refine .inl ⟨_, rfl, a, rfl, ⟨_, ha⟩, fun D nD => lc_map ((ns.map istr).map V.str) len lz ha nD ?_ ?_ gName_mono⟩
      · intro i x y G R hi hy sG k2
        obtain ⟨n, rfl, rfl, hn⟩ := step D nD i x y G R hi hy sG k2
        exact ⟨rfl, _, rfl, n, rfl, hn, k2 G (Same.refl _)⟩
      · exact fun G sG eD => k D G nD sG eD
    · refine .inr ⟨_, rfl, a, rfl, ⟨_, ha⟩, fun D nD => lc_mapT ((ns.map istr).map V.str) len lz ha nD ?_ ?_ gName_mono⟩
      · intro i x y G R hi hy sG k2
        obtain ⟨n, rfl, rfl, hn⟩ := step D nD i x y G R hi hy sG k2
        exact ⟨rfl, _, rfl, n, rfl, hn, k2 G (Same.refl _)⟩
      · exact fun G sG eD => k D G nD sG eD
end
end Own

namespace Own
open PySem L2 ClX PySem.HandSPX
def scansW (ss : List Int) : List Str := if ss = [] then [] else ("scans" : Str) :: ss.map istr
def stretchW : Option Int → List Str
  | none => []
  | some k => ["stretch", istr k]
def lineWs (l : LnD) : List Str := (((("belts" : Str) :: l.belts.map istr) ++ scansW l.scans) ++ (("slips" : Str) :: ([l.most, l.among].map istr ++ l.words))) ++ stretchW l.stretch
def trWs (pl : Plan) : List Str := (("rooms" : Str) :: pl.rooms.map istr) ++ (("seek" : Str) :: [istr pl.seek, pl.empty, pl.strange, pl.pause])
abbrev sLw : Stmt := topT 49
abbrev NLw : List Str := ["line", "words"]
abbrev sTw : Stmt := topT 50
abbrev NTw : List Str := ["tracker", "rules"]
def spLw (K : PySem.W.Frag) (C : Addr) : Sp := fun vs H Q _ => ∃ a l, vs = [.ref a] ∧ LnAt K C H a l ∧ ∀ p H', H p = none → Same H H' → H' p = some (.lst ((lineWs l).map V.str)) → Q (.ref p) H'
def spTw (K : PySem.W.Frag) (C : Addr) : Sp := fun vs H Q _ => ∃ a pl, vs = [.ref a] ∧ TrP K C H a pl ∧ ∀ p H', H p = none → Same H H' → H' p = some (.lst ((trWs pl).map V.str)) → Q (.ref p) H'
theorem sml_belts {l : LnD} (h : LnOk l) : Sml l.belts := fun n hn => by have := h.bl n hn; omega
theorem sml_scans {l : LnD} (h : LnOk l) : Sml l.scans := fun n hn => by have := h.sr n hn; have := h.n3; omega
theorem sml_slips {l : LnD} (h : LnOk l) : Sml [l.most, l.among] := fun n hn => by
  have := h.m0
  have := h.m3
  have := h.a1
  have := h.a6
  simp only [List.mem_cons, List.not_mem_nil, or_false] at hn
  rcases hn with rfl | rfl <;> omega
theorem log_small {n : Int} (h : 0 ≤ n ∧ n ≤ 12) : n.natAbs.log2 < 1920 := by
  have q : ∀ m : Nat, m < 13 → m.log2 < 1920 := by decide +kernel
  exact q _ (by omega)
theorem scansW_len {l : LnD} (h : LnOk l) : (scansW l.scans).length ≤ 3 := by
  unfold scansW
  have := h.sl
  have := h.n3
  split
  · exact Nat.zero_le _
  · rw [List.length_cons, List.length_map]; omega
section
variable {P : Program} {w : World} {K : PySem.W.Frag} {mg : Str → Option Value} {base : Heap}
theorem scLw : FnScope NLw ["line"] (defScope sLw) := ⟨rfl, rfl, rfl, by decide +kernel, rfl, by decide +kernel, by decide +kernel⟩
theorem scTw : FnScope NTw ["tracker"] (defScope sTw) := ⟨rfl, rfl, rfl, by decide +kernel, rfl, by decide +kernel, by decide +kernel⟩
theorem ok_lw {f C fNb fMb fMs fMw pSl gSl pSt gSt : Addr} {fd gNb gMb gMs gMw dSl dSt : FuncData} (F : Fun K "line_words" "line_words" sLw f fd) (T : LnF K mg C) (zS : mg "str" = none)
    (Nb : DefF P w K mg base "numbered" 1 ["numbers"] (spNb K) fNb gNb) (Mb : MetF P w K mg base C "belts" 1 ["self"] (spListF K C "_belts") fMb gMb) (Ms : MetF P w K mg base C "scans" 1 ["self"] (spListF K C "_scans") fMs gMs) (Mw : MetF P w K mg base C "words" 1 ["self"] (spListF K C "_words") fMw gMw)
    (P1 : PropF P w K mg base C "slips" pSl gSl (spGet C "_slips") dSl) (P2 : PropF P w K mg base C "stretch" pSt gSt (spGet C "_stretch") dSt) : FnOk P w K mg base CX0 3 f fd ["line"] (spLw K C) := by
  refine F.ok scLw (fun vs H Q E h => ?_) (fun cdv A outer s H vs Q E hr h => ?_)
  · obtain ⟨a, l, rfl, _⟩ := h
    rfl
  · obtain ⟨a, l, rfl, la, k⟩ := h
    have nd := scLw.nd
    have hr1 := hr.mono (j := 1) (by decide)
    have hr2 := hr.mono (j := 2) (by decide)
    refine ⟨_, PSs.nox (pss_cons (ps_set (i := 1) nd rfl (Or.inl rfl) (pe_op op_cat (pe_lst (pa_cons pe_str pa_nil)) (pe_call Nb.G hr1 rfl Nb.m Nb.kp Nb.b .nil pass0 (pa_cons (pe_meth0 (pv 0) T.cl Mb.m Mb.G hr1 Mb.b .nil pass0) pa_nil))))
      (Evl.pss_cut (ps_if (pt_truth (pe_meth0 (pv 0) T.cl Ms.m Ms.G hr1 Ms.b .nil pass0) (fun _ => rfl)) (pss_one (ps_set (i := 1) nd rfl (Or.inl rfl) (pe_op op_cat (pe_op op_cat (pv 1) (pe_lst (pa_cons pe_str pa_nil))) (pe_call Nb.G hr1 rfl Nb.m Nb.kp Nb.b .nil pass0 (pa_cons (pe_meth0 (pv 0) T.cl Ms.m Ms.G hr1 Ms.b .nil pass0) pa_nil))))) pss_nil)
      (pss_cons (ps_set (i := 1) nd rfl (Or.inl rfl) (pe_op op_cat (pe_op op_cat (pe_op op_cat (pv 1) (pe_lst (pa_cons pe_str pa_nil))) (pe_call Nb.G hr1 rfl Nb.m Nb.kp Nb.b .nil pass0 (pa_cons (pe_prop (pv 0) T.cl P1.hp P1.G hr2 P1.b .nil pass0 rfl) pa_nil))) (pe_meth0 (pv 0) T.cl Mw.m Mw.G hr1 Mw.b .nil pass0)))
      (Evl.pss_cut (ps_if (pt_cmp (pc_notN (pe_prop (pv 0) T.cl P2.hp P2.G hr2 P2.b .nil pass0 rfl))) (pss_one (ps_set (i := 1) nd rfl (Or.inl rfl) (pe_op op_cat (pv 1) (pe_lst (pa_cons pe_str (pa_cons (pe_callTy call_str_int (by rfl) zS (by decide +kernel) (pa_cons (pe_prop (pv 0) T.cl P2.hp P2.G hr2 P2.b .nil pass0 rfl) pa_nil)) pa_nil)))))) pss_nil)
      (pss_one (ps_ret (pv 1))))))), ?_⟩
    obtain ⟨⟨dx, t, tS, tP, tW, ha, hT, hS, hP, hW⟩, ok⟩ := id la
    have n3 := ok.n3
    have sl := ok.sl
    have w3 : l.words.length ≤ 3 := ok.ws.length_le
    have s1 {l1 : Addr} {o : HO} (n : H l1 = none) : Same H (upd H l1 o) := (Same.refl _).new n
    -- words = ['belts'] + numbered(line.belts())
    refine ⟨by show 1 ≤ sizeLine; decide, fun l1 nl1 => ?_⟩
    have S1 : Same H (upd H l1 (.lst [.str "belts"])) := (Same.refl _).new nl1
    have E1 : upd H l1 (.lst [.str "belts"]) l1 = some (.lst [.str "belts"]) := upd_same
    generalize upd H l1 (.lst [.str "belts"]) = H1 at S1 E1
    refine ⟨_, rfl, a, dx, _, rfl, S1 _ _ ha, rfl, a, dx, _, t, _, rfl, S1 _ _ ha, rfl, sqT_same hT S1, fun l2 nl2 => ⟨l2, l.belts, rfl, .inl (SqL.of upd_same), by omega, sml_belts ok, fun l3 G1 nl3 s3 e3 => ?_⟩⟩
    have s2 : Same H1 (upd H1 l2 (.lst (l.belts.map V.int))) := (Same.refl _).new nl2
    have s23 := s2.trans s3
    refine ⟨l1, l3, _, _, rfl, rfl, s23 _ _ E1, e3, by rw [List.length_map, List.length_map]; show 1 + l.belts.length ≤ sizeLine; exact Nat.le_trans (by omega : 1 + l.belts.length ≤ 4) (by decide), fun p np => ?_⟩
    have S2 := (S1.trans s23).new (o := .lst ([.str "belts"] ++ (l.belts.map istr).map V.str)) np
    have nHp : H p = none := Same.free (S1.trans s23) np
    have ep : upd G1 p (.lst ([.str "belts"] ++ (l.belts.map istr).map V.str)) p = some (.lst (((("belts" : Str) :: l.belts.map istr)).map V.str)) := upd_same
    generalize upd G1 p (.lst ([.str "belts"] ++ (l.belts.map istr).map V.str)) = G2 at S2 ep
    clear E1 e3 np nl3 nl2 nl1 S1 s23 s2 s3
    refine ⟨fun σ G => ∃ q, σ = [some (.ref a), some (.ref q)] ∧ Same H G ∧ H q = none ∧ G q = some (.lst ((((("belts" : Str) :: l.belts.map istr)) ++ scansW l.scans).map V.str)), ?_, ?_⟩
    · refine ⟨_, rfl, a, dx, _, rfl, S2 _ _ ha, rfl, a, dx, _, tS, _, rfl, S2 _ _ ha, rfl, sqT_same hS S2, fun m1 nm1 => ⟨_, .inl ⟨_, SqL.of upd_same, rfl⟩, ?_⟩⟩
      have S3 := S2.new (o := .lst (l.scans.map V.int)) nm1
      have ep3 := ((Same.refl G2).new (o := .lst (l.scans.map V.int)) nm1) _ _ ep
      generalize upd G2 m1 (.lst (l.scans.map V.int)) = G3 at S3 ep3
      clear nm1
      by_cases hs : l.scans = []
      · rw [hs]
        refine iteF ⟨p, rfl, S3, nHp, ?_⟩
        show G3 p = some (.lst (((("belts" : Str) :: l.belts.map istr) ++ []).map V.str))
        rw [List.append_nil]
        exact ep3
      · rw [show (l.scans.map V.int).isEmpty = false by cases e : l.scans with
          | nil => exact absurd e hs
          | cons x y => rfl]
        refine iteT ?_
        refine ⟨_, rfl, by show 1 ≤ sizeLine; decide, fun m2 nm2 => ?_⟩
        have t4 : Same G3 (upd G3 m2 (.lst [.str "scans"])) := (Same.refl _).new nm2
        have em2 : upd G3 m2 (.lst [.str "scans"]) m2 = some (.lst [.str "scans"]) := upd_same
        generalize upd G3 m2 (.lst [.str "scans"]) = G4 at t4 em2
        refine ⟨p, m2, _, _, rfl, rfl, t4 _ _ ep3, em2, by rw [List.length_map, List.length_cons, List.length_map]; show l.belts.length + 1 + 1 ≤ sizeLine; exact Nat.le_trans (by omega : l.belts.length + 1 + 1 ≤ 5) (by decide), fun p2 np2 => ?_⟩
        have t5 := t4.new (o := .lst (((("belts" : Str) :: l.belts.map istr)).map V.str ++ [.str "scans"])) np2
        have ep2 : upd G4 p2 (.lst (((("belts" : Str) :: l.belts.map istr)).map V.str ++ [.str "scans"])) p2 = some (.lst (((("belts" : Str) :: l.belts.map istr)).map V.str ++ [.str "scans"])) := upd_same
        generalize upd G4 p2 (.lst (((("belts" : Str) :: l.belts.map istr)).map V.str ++ [.str "scans"])) = G5 at t5 ep2
        have S5 := S3.trans t5
        refine ⟨_, rfl, a, dx, _, rfl, S5 _ _ ha, rfl, a, dx, _, tS, _, rfl, S5 _ _ ha, rfl, sqT_same hS S5, fun m3 nm3 => ⟨m3, l.scans, rfl, .inl (SqL.of upd_same), by omega, sml_scans ok, fun m4 G6 nm4 s6 e6 => ?_⟩⟩
        have t6 := ((Same.refl G5).new (o := .lst (l.scans.map V.int)) nm3).trans s6
        refine ⟨p2, m4, _, _, rfl, rfl, t6 _ _ ep2, e6, by rw [List.length_append, List.length_map, List.length_cons, List.length_map, List.length_map, List.length_map]; show l.belts.length + 1 + 1 + l.scans.length ≤ sizeLine; exact Nat.le_trans (by omega : l.belts.length + 1 + 1 + l.scans.length ≤ 9) (by decide), fun p3 np3 => ?_⟩
        refine ⟨p3, rfl, (S5.trans t6).new np3, Same.free (S5.trans t6) np3, ?_⟩
        rw [upd_same]
        unfold scansW
        rw [if_neg hs, List.map_append, List.map_cons (f := V.str) (a := ("scans" : Str)), List.append_assoc]
        rfl
    · rintro σ G ⟨q, rfl, sG, nq, eq⟩
      have hW0 : ((("belts" : Str) :: l.belts.map istr) ++ scansW l.scans).length ≤ 7 := by
        have := scansW_len ok
        rw [List.length_append, List.length_cons, List.length_map]
        omega
      have hl : lineWs l = ((((("belts" : Str) :: l.belts.map istr) ++ scansW l.scans) ++ (("slips" : Str) :: ([l.most, l.among].map istr ++ l.words))) ++ stretchW l.stretch) := rfl
      generalize ((("belts" : Str) :: l.belts.map istr) ++ scansW l.scans) = W0 at eq hW0 hl
      refine ⟨_, rfl, by show 1 ≤ sizeLine; decide, fun m2 nm2 => ?_⟩
      have t1 : Same G (upd G m2 (.lst [.str "slips"])) := (Same.refl _).new nm2
      have em2 : upd G m2 (.lst [.str "slips"]) m2 = some (.lst [.str "slips"]) := upd_same
      generalize upd G m2 (.lst [.str "slips"]) = G1 at t1 em2
      refine ⟨q, m2, _, _, rfl, rfl, t1 _ _ eq, em2, by rw [List.length_map]; exact Nat.le_trans (show W0.length + 1 ≤ 8 by omega) (by decide), fun p2 np2 => ?_⟩
      have t2 := t1.new (o := .lst (W0.map V.str ++ [.str "slips"])) np2
      have ep2 : upd G1 p2 (.lst (W0.map V.str ++ [.str "slips"])) p2 = some (.lst (W0.map V.str ++ [.str "slips"])) := upd_same
      generalize upd G1 p2 (.lst (W0.map V.str ++ [.str "slips"])) = G2 at t2 ep2
      have S2 := sG.trans t2
      refine ⟨_, rfl, a, dx, _, rfl, S2 _ _ ha, a, dx, _, .ref tP, rfl, S2 _ _ ha, rfl, tP, [l.most, l.among], rfl, .inr (sqT_same hP S2), by show 2 ≤ 1000; decide, sml_slips ok, fun p3 G3 np3 s3 e3 => ?_⟩
      refine ⟨p2, p3, _, _, rfl, rfl, s3 _ _ ep2, e3, by rw [List.length_append, List.length_map]; exact Nat.le_trans (show W0.length + 1 + 2 ≤ 10 by omega) (by decide), fun p4 np4 => ?_⟩
      have S3 := S2.trans s3
      have S4 := S3.new (o := .lst (W0.map V.str ++ [.str "slips"] ++ ([l.most, l.among].map istr).map V.str)) np4
      have ep4 : upd G3 p4 (.lst (W0.map V.str ++ [.str "slips"] ++ ([l.most, l.among].map istr).map V.str)) p4 = some (.lst (W0.map V.str ++ [.str "slips"] ++ ([l.most, l.among].map istr).map V.str)) := upd_same
      generalize upd G3 p4 (.lst (W0.map V.str ++ [.str "slips"] ++ ([l.most, l.among].map istr).map V.str)) = G4 at S4 ep4
      refine ⟨_, rfl, a, dx, _, rfl, S4 _ _ ha, rfl, a, dx, _, tW, _, rfl, S4 _ _ ha, rfl, sqT_same hW S4, fun p5 np5 => ?_⟩
      have t5 : Same G4 (upd G4 p5 (.lst (l.words.map V.str))) := (Same.refl _).new np5
      refine ⟨p4, p5, _, _, rfl, rfl, t5 _ _ ep4, upd_same, Nat.le_trans (m := 13) (by simp only [List.length_append, List.length_map, List.length_cons, List.length_nil]; omega) (by decide), fun p6 np6 => ?_⟩
      have S6 := (S4.trans t5).new (o := .lst (W0.map V.str ++ [.str "slips"] ++ ([l.most, l.among].map istr).map V.str ++ l.words.map V.str)) np6
      have n6 : H p6 = none := Same.free (S4.trans t5) np6
      have ep6 : upd (upd G4 p5 (.lst (l.words.map V.str))) p6 (.lst (W0.map V.str ++ [.str "slips"] ++ ([l.most, l.among].map istr).map V.str ++ l.words.map V.str)) p6 = some (.lst ((W0 ++ (("slips" : Str) :: ([l.most, l.among].map istr ++ l.words))).map V.str)) := by
        rw [upd_same, List.map_append, List.map_cons (f := V.str) (a := ("slips" : Str)), List.map_append, List.append_assoc, List.append_assoc]
        rfl
      generalize upd (upd G4 p5 (.lst (l.words.map V.str))) p6 (.lst (W0.map V.str ++ [.str "slips"] ++ ([l.most, l.among].map istr).map V.str ++ l.words.map V.str)) = G6 at S6 ep6
      have hW1 : (W0 ++ (("slips" : Str) :: ([l.most, l.among].map istr ++ l.words))).length ≤ 13 := by
        rw [List.length_append, List.length_cons, List.length_append]
        show W0.length + (2 + l.words.length + 1) ≤ 13
        omega
      generalize (W0 ++ (("slips" : Str) :: ([l.most, l.among].map istr ++ l.words))) = W1 at ep6 hW1 hl
      refine ⟨fun σ G => ∃ q, σ = [some (.ref a), some (.ref q)] ∧ Same H G ∧ H q = none ∧ G q = some (.lst ((lineWs l).map V.str)), ?_, ?_⟩
      · refine ⟨_, rfl, a, dx, _, rfl, S6 _ _ ha, a, dx, _, optV l.stretch, rfl, S6 _ _ ha, rfl, ?_⟩
        match e : l.stretch with
        | none =>
          rw [e] at hl
          refine ⟨_, rfl, iteF ⟨p6, rfl, S6, n6, ?_⟩⟩
          rw [hl, show stretchW none = [] from rfl, List.append_nil]
          exact ep6
        | some n =>
          rw [e] at hl
          have hn : 0 ≤ n ∧ n ≤ 12 := by
            rcases ok.st with z | ⟨m, z, z1, z2⟩
            · rw [e] at z; cases z
            · rw [e] at z; cases z; omega
          refine ⟨_, rfl, iteT ⟨_, rfl, _, rfl, a, dx, _, rfl, S6 _ _ ha, a, dx, _, .int n, rfl, S6 _ _ ha, by rw [e]; rfl, n, rfl, log_small hn, by show 2 ≤ sizeLine; decide, fun p7 np7 => ?_⟩⟩
          have t7 : Same G6 (upd G6 p7 (.lst [.str "stretch", .str (istr n)])) := (Same.refl _).new np7
          refine ⟨p6, p7, _, _, rfl, rfl, t7 _ _ ep6, upd_same, by rw [List.length_map]; exact Nat.le_trans (show W1.length + 2 ≤ 15 by omega) (by decide), fun p8 np8 => ?_⟩
          refine ⟨p8, rfl, (S6.trans t7).new np8, Same.free (S6.trans t7) np8, ?_⟩
          rw [upd_same, hl, List.map_append]
          rfl
      · rintro σ G ⟨q, rfl, sG, nq, eq⟩
        exact ⟨_, rfl, k q G nq sG eq⟩
end
end Own

namespace Own
open PySem L2 ClX PySem.HandSPX
section
variable {P : Program} {w : World} {K : PySem.W.Frag} {mg : Str → Option Value} {base : Heap}
theorem ok_tw {f C fNb fMr p1 g1 p2 g2 p3 g3 p4 g4 : Addr} {fd gNb gMr d1 d2 d3 d4 : FuncData} (F : Fun K "tracker_words" "tracker_words" sTw f fd) (T : TrF K mg C) (zS : mg "str" = none)
    (Nb : DefF P w K mg base "numbered" 1 ["numbers"] (spNb K) fNb gNb) (Mr : MetF P w K mg base C "rooms" 1 ["self"] (spRooms K C) fMr gMr)
    (P1 : PropF P w K mg base C "seek" p1 g1 (spGet C "_seek") d1) (P2 : PropF P w K mg base C "empty" p2 g2 (spGet C "_empty") d2) (P3 : PropF P w K mg base C "strange" p3 g3 (spGet C "_strange") d3) (P4 : PropF P w K mg base C "pause" p4 g4 (spGet C "_pause") d4) : FnOk P w K mg base CX0 3 f fd ["tracker"] (spTw K C) := by
  refine F.ok scTw (fun vs H Q E h => ?_) (fun cdv A outer s H vs Q E hr h => ?_)
  · obtain ⟨a, l, rfl, _⟩ := h
    rfl
  · obtain ⟨a, pl, rfl, la, k⟩ := h
    have nd := scTw.nd
    have hr1 := hr.mono (j := 1) (by decide)
    have hr2 := hr.mono (j := 2) (by decide)
    refine ⟨_, PSs.nox (pss_cons (ps_set (i := 1) nd rfl (Or.inl rfl) (pe_lst (pa_cons (pe_callTy call_str_int (by rfl) zS (by decide +kernel) (pa_cons (pe_prop (pv 0) T.cl P1.hp P1.G hr2 P1.b .nil pass0 rfl) pa_nil)) (pa_cons (pe_prop (pv 0) T.cl P2.hp P2.G hr2 P2.b .nil pass0 rfl) (pa_cons (pe_prop (pv 0) T.cl P3.hp P3.G hr2 P3.b .nil pass0 rfl) (pa_cons (pe_prop (pv 0) T.cl P4.hp P4.G hr2 P4.b .nil pass0 rfl) pa_nil))))))
      (pss_one (ps_ret (pe_op op_cat (pe_op op_cat (pe_op op_cat (pe_lst (pa_cons pe_str pa_nil)) (pe_call Nb.G hr1 rfl Nb.m Nb.kp Nb.b .nil pass0 (pa_cons (pe_meth0 (pv 0) T.cl Mr.m Mr.G hr1 Mr.b .nil pass0) pa_nil))) (pe_lst (pa_cons pe_str pa_nil))) (pv 1))))), ?_⟩
    obtain ⟨dx, t, ha, hT, ok⟩ := id la
    have n3 := ok.n3
    have hs : 0 ≤ pl.seek ∧ pl.seek ≤ 12 := ⟨ok.s0, Int.le_trans ok.s3 (by decide)⟩
    have smr : Sml pl.rooms := fun n hn => by have := ok.rr n hn; omega
    refine ⟨_, rfl, a, dx, _, rfl, ha, a, dx, _, .int pl.seek, rfl, ha, rfl, pl.seek, rfl, log_small hs, ?_⟩
    refine ⟨_, rfl, a, dx, _, rfl, ha, a, dx, _, .str pl.empty, rfl, ha, rfl, ?_⟩
    refine ⟨_, rfl, a, dx, _, rfl, ha, a, dx, _, .str pl.strange, rfl, ha, rfl, ?_⟩
    refine ⟨_, rfl, a, dx, _, rfl, ha, a, dx, _, .str pl.pause, rfl, ha, rfl, ?_⟩
    refine ⟨by show 4 ≤ sizeLine; decide, fun l0 nl0 => ?_⟩
    have S0 : Same H (upd H l0 (.lst [.str (istr pl.seek), .str pl.empty, .str pl.strange, .str pl.pause])) := (Same.refl _).new nl0
    have E0 : upd H l0 (.lst [.str (istr pl.seek), .str pl.empty, .str pl.strange, .str pl.pause]) l0 = some (.lst [.str (istr pl.seek), .str pl.empty, .str pl.strange, .str pl.pause]) := upd_same
    refine ⟨by show 1 ≤ sizeLine; decide, fun l1 nl1 => ?_⟩
    change upd H l0 (.lst [.str (istr pl.seek), .str pl.empty, .str pl.strange, .str pl.pause]) l1 = none at nl1
    have S1 := S0.new (o := .lst [.str "rooms"]) nl1
    have t1 : Same (upd H l0 (.lst [.str (istr pl.seek), .str pl.empty, .str pl.strange, .str pl.pause])) (upd (upd H l0 (.lst [.str (istr pl.seek), .str pl.empty, .str pl.strange, .str pl.pause])) l1 (.lst [.str "rooms"])) := (Same.refl _).new nl1
    have E1 : upd (upd H l0 (.lst [.str (istr pl.seek), .str pl.empty, .str pl.strange, .str pl.pause])) l1 (.lst [.str "rooms"]) l1 = some (.lst [.str "rooms"]) := upd_same
    have E0 := t1 _ _ E0
    refine ⟨_, rfl, a, dx, _, rfl, S1 _ _ ha, rfl, a, pl.rooms, pl.seek, pl.empty, pl.strange, pl.pause, rfl, ⟨dx, t, S1 _ _ ha, sqT_same hT S1, ok⟩, fun l2 nl2 => ⟨l2, pl.rooms, rfl, .inl (SqL.of upd_same), by omega, smr, fun l3 G3 nl3 s3 e3 => ?_⟩⟩
    have t3 := ((Same.refl _).new (o := .lst (pl.rooms.map V.int)) nl2).trans s3
    have E0 := t3 _ _ E0
    have S3 := S1.trans t3
    refine ⟨l1, l3, _, _, rfl, rfl, t3 _ _ E1, e3, Nat.le_trans (m := 4) (by simp only [List.length_map, List.length_cons, List.length_nil]; omega) (by decide), fun l4 nl4 => ?_⟩
    have t4 : Same G3 (upd G3 l4 (.lst ([.str "rooms"] ++ (pl.rooms.map istr).map V.str))) := (Same.refl _).new nl4
    have E4 : upd G3 l4 (.lst ([.str "rooms"] ++ (pl.rooms.map istr).map V.str)) l4 = some (.lst ([.str "rooms"] ++ (pl.rooms.map istr).map V.str)) := upd_same
    generalize upd G3 l4 (.lst ([.str "rooms"] ++ (pl.rooms.map istr).map V.str)) = G4 at t4 E4
    have E0 := t4 _ _ E0
    refine ⟨by show 1 ≤ sizeLine; decide, fun l5 nl5 => ?_⟩
    have t5 : Same G4 (upd G4 l5 (.lst [.str "seek"])) := (Same.refl _).new nl5
    have E5 : upd G4 l5 (.lst [.str "seek"]) l5 = some (.lst [.str "seek"]) := upd_same
    generalize upd G4 l5 (.lst [.str "seek"]) = G5 at t5 E5
    have E0 := t5 _ _ E0
    refine ⟨l4, l5, _, _, rfl, rfl, t5 _ _ E4, E5, Nat.le_trans (m := 5) (by simp only [List.length_append, List.length_map, List.length_cons, List.length_nil]; omega) (by decide), fun l6 nl6 => ?_⟩
    have t6 : Same G5 (upd G5 l6 (.lst ([.str "rooms"] ++ (pl.rooms.map istr).map V.str ++ [.str "seek"]))) := (Same.refl _).new nl6
    refine ⟨_, rfl, l6, l0, _, _, rfl, rfl, upd_same, t6 _ _ E0, Nat.le_trans (m := 9) (by simp only [List.length_append, List.length_map, List.length_cons, List.length_nil]; omega) (by decide), fun l7 nl7 => ?_⟩
    have S6 := ((S3.trans t4).trans t5).trans t6
    refine k l7 _ (Same.free S6 nl7) (S6.new nl7) ?_
    rw [upd_same]
    unfold trWs
    rw [List.map_append, List.append_assoc]
    rfl
end
end Own

namespace Own
open PySem L2 ClX PySem.HandSPX
abbrev sPi : Stmt := inClass (topT 48) 0
abbrev NPi : List Str := ["self", "line", "tracker"]
def plText (l : LnD) (pl : Plan) : Str := Txt.join " " (lineWs l ++ trWs pl)
/-- the attributes of a plant -/
def plf (a b : Addr) (z : Str) : List (Str × V) := putF "_text" (.str z) (putF "_tracker" (.ref b) (putF "_line" (.ref a) []))
def PlAt (K : PySem.W.Frag) (CP CL CT : Addr) (H : Hp) (x : Addr) (l : LnD) (pl : Plan) : Prop := ∃ dx a b, H x = some (.ins CP dx (plf a b (plText l pl))) ∧ LnAt K CL H a l ∧ TrP K CT H b pl
def spPi (K : PySem.W.Frag) (CP CL CT : Addr) : Sp := fun vs H Q _ => ∃ x dx a b l pl, vs = [.ref x, .ref a, .ref b] ∧ H x = some (.ins CP dx []) ∧ LnAt K CL H a l ∧ TrP K CT H b pl ∧ pl.rooms.length = l.belts.length ∧
  ∀ H' : Hp, H' x = some (.ins CP dx (plf a b (plText l pl))) → (∀ c o, c ≠ x → H c = some o → H' c = some o) → Q .non H'
theorem sum_len : ∀ {ws : List Str}, (∀ z ∈ ws, z.length ≤ 8) → (ws.map (·.length)).sum ≤ 8 * ws.length
  | [], _ => Nat.le_refl _
  | z :: ws, h => by
    have h1 := h z List.mem_cons_self
    have h2 := sum_len (ws := ws) fun y hy => h y (List.mem_cons_of_mem _ hy)
    rw [List.map_cons, List.sum_cons, List.length_cons]
    omega
theorem str8 {ns : List Int} (h : Sml ns) : ∀ z ∈ ns.map istr, z.length ≤ 8 := fun z hz => by
  obtain ⟨n, hn, rfl⟩ := List.mem_map.mp hz
  exact istr_len (h n hn)
theorem lineWs_8 {l : LnD} (ok : LnOk l) : ∀ z ∈ lineWs l, z.length ≤ 8 := fun z hz => by
  unfold lineWs at hz
  simp only [List.mem_append, List.mem_cons] at hz
  rcases hz with ((((rfl | hz) | hz) | (rfl | (hz | hz))) | hz)
  · decide +kernel
  · exact str8 (sml_belts ok) z hz
  · unfold scansW at hz
    split at hz
    · cases hz
    · rcases List.mem_cons.mp hz with rfl | hz
      · decide +kernel
      · exact str8 (sml_scans ok) z hz
  · decide +kernel
  · exact str8 (sml_slips ok) z hz
  · have := ok.ws.subset hz
    have q : ∀ y ∈ slipW, y.length ≤ 8 := by decide +kernel
    exact q z this
  · match e : l.stretch with
    | none => rw [e] at hz; cases hz
    | some n =>
      rw [e] at hz
      have hn : 0 ≤ n ∧ n ≤ 12 := by
        rcases ok.st with y | ⟨m, y, z1, z2⟩
        · rw [e] at y; cases y
        · rw [e] at y; cases y; omega
      rcases List.mem_cons.mp hz with rfl | hz
      · decide +kernel
      · rw [List.mem_singleton.mp hz]; exact istr_len hn
theorem in_words {z : Str} {ws : List Str} (h : inV (.str z) (ws.map V.str) = true) : z ∈ ws := by
  induction ws with
  | nil => cases h
  | cons y r ih =>
    unfold inV at h ih
    rw [List.map_cons, List.any_cons, Bool.or_eq_true] at h
    rcases h with h | h
    · have h : (y == z) = true := h
      rw [beq_iff_eq.mp h]
      exact List.mem_cons_self
    · exact List.mem_cons_of_mem _ (ih h)
theorem trWs_8 {pl : Plan} (ok : pl.TrOk) : ∀ z ∈ trWs pl, z.length ≤ 8 := fun z hz => by
  have smr : Sml pl.rooms := fun n hn => by have := ok.rr n hn; omega
  have hs : 0 ≤ pl.seek ∧ pl.seek ≤ 12 := ⟨ok.s0, Int.le_trans ok.s3 (by decide)⟩
  unfold trWs at hz
  simp only [List.mem_append, List.mem_cons, List.not_mem_nil, or_false] at hz
  rcases hz with (rfl | hz) | (rfl | rfl | rfl | rfl | rfl)
  · decide +kernel
  · exact str8 smr z hz
  · decide +kernel
  · exact istr_len hs
  · have := in_words (ws := ["blank", "none"]) ok.e
    have q : ∀ y ∈ (["blank", "none"] : List Str), y.length ≤ 8 := by decide +kernel
    exact q _ this
  · have := in_words (ws := ["first", "none"]) ok.st
    have q : ∀ y ∈ (["first", "none"] : List Str), y.length ≤ 8 := by decide +kernel
    exact q _ this
  · have := in_words (ws := ["clear", "keep"]) ok.p
    have q : ∀ y ∈ (["clear", "keep"] : List Str), y.length ≤ 8 := by decide +kernel
    exact q _ this
theorem ws_len {l : LnD} {pl : Plan} (ok : LnOk l) (tk : pl.TrOk) : (lineWs l ++ trWs pl).length ≤ 30 := by
  have := ok.n3
  have := tk.n3
  have := scansW_len ok
  have w3 : l.words.length ≤ 3 := ok.ws.length_le
  have s2 : (stretchW l.stretch).length ≤ 2 := by cases l.stretch <;> exact Nat.le_of_ble_eq_true rfl
  unfold lineWs trWs
  simp only [List.length_append, List.length_cons, List.length_map, List.length_nil]
  omega
section
variable {P : Program} {w : World} {K : PySem.W.Frag} {mg : Str → Option Value} {base : Heap}
/-- what the walk asks of the class Plant -/
structure PlF (K : PySem.W.Frag) (mg : Str → Option Value) (C : Addr) : Prop where
  cl : Cls K C
  at_ : mg "Plant" = some (.ref C)
  n1 : NoAttr K C "_line"
  n2 : NoAttr K C "_tracker"
  n3 : NoAttr K C "_text"
theorem scPi : FnScope NPi NPi (defScope sPi) := ⟨rfl, rfl, rfl, by decide +kernel, rfl, by decide +kernel, by decide +kernel⟩
theorem lnAt_keep {C : Addr} {H H' : Hp} {x a : Addr} {l : LnD} (la : LnAt K C H a l) {Cx dx : Addr} {fs : List (Str × V)} (hx : H x = some (.ins Cx dx fs)) (n : a ≠ x) (e : ∀ c o, c ≠ x → H c = some o → H' c = some o) : LnAt K C H' a l := by
  have sq : ∀ {t : Addr} {xs : List V}, SqT K H t xs → SqT K H' t xs := fun {t xs} h => by
    rcases h with (h | ⟨ob, h⟩) | h
    · exact .inl (.inl (e _ _ (L2.ne_of h hx (fun z => nomatch z)) h))
    · exact .inl (.inr ⟨ob, e _ _ (L2.ne_of h hx (fun z => nomatch z)) h⟩)
    · exact .inr h
  obtain ⟨⟨d, t, tS, tP, tW, h1, h2, h3, h4, h5⟩, ok⟩ := la
  exact ⟨⟨d, t, tS, tP, tW, e _ _ n h1, sq h2, sq h3, sq h4, sq h5⟩, ok⟩
theorem trP_keep {C : Addr} {H H' : Hp} {x a : Addr} {pl : Plan} (la : TrP K C H a pl) {Cx dx : Addr} {fs : List (Str × V)} (hx : H x = some (.ins Cx dx fs)) (n : a ≠ x) (e : ∀ c o, c ≠ x → H c = some o → H' c = some o) : TrP K C H' a pl := by
  have sq : ∀ {t : Addr} {xs : List V}, SqT K H t xs → SqT K H' t xs := fun {t xs} h => by
    rcases h with (h | ⟨ob, h⟩) | h
    · exact .inl (.inl (e _ _ (L2.ne_of h hx (fun z => nomatch z)) h))
    · exact .inl (.inr ⟨ob, e _ _ (L2.ne_of h hx (fun z => nomatch z)) h⟩)
    · exact .inr h
  obtain ⟨d, t, h1, h2, ok⟩ := la
  exact ⟨d, t, e _ _ n h1, sq h2, ok⟩
theorem body_pi {f CP CL CT fLw fTw fLn fTn c0 : Addr} {gLw gTw gLn gTn : FuncData} {qual : Str} {cdv : Value} {A : Around} {outer : List Env} {s : Shared} {H : Hp} {vs : List V} {Q : VK} {E : XK} (T : PlF K mg CP) (zL : mg "len" = none) (e0 : ErrC P w K mg base "WrongCount" "given" c0)
    (Lw : DefF P w K mg base "line_words" 3 ["line"] (spLw K CL) fLw gLw) (Tw : DefF P w K mg base "tracker_words" 3 ["tracker"] (spTw K CT) fTw gTw) (Ln : SpcF P w K mg base CL "__len__" (spLenF K CL "_belts") fLn gLn) (Tn : SpcF P w K mg base CT "__len__" (spTLen K CT) fTn gTn)
    (hr : Room 5 (A.deeper (PyProof.Rows.envOfC qual (defScope sPi) s.heap.objs.size f cdv))) (h : spPi K CP CL CT vs H Q E) :
    ∃ t, PSs (cxOf (L2.CX P w) P w K mg base NPi qual (defScope sPi) f cdv A outer s H E) (defBody sPi) t ∧ t { nx := fun _ H' => Q .non H', rt := Q } (start NPi vs) H := by
  obtain ⟨x, dx, a, b, l, pl, rfl, hx, la, tb, hl, k⟩ := h
  have nd := scPi.nd
  have hr2 := hr.mono (j := 2) (by decide)
  have hr3 := hr.mono (j := 3) (by decide)
  refine ⟨_, pss_cons (ps_if (pt_cmpR op_ne (pe_callB (call_lenO Tn.s Tn.G hr2 Tn.b pass0) (by rfl) zL PySem.boot_len (pa_cons (pv 2) pa_nil)) (pe_callB (call_lenO Ln.s Ln.G hr2 Ln.b pass0) (by rfl) zL PySem.boot_len (pa_cons (pv 1) pa_nil)) (nomark _)) (pss_one (ps_raise rfl (takes_of rfl rfl rfl rfl) (pmk_err e0 hr (by rfl) (pa_cons (pe_callB (call_lenO Tn.s Tn.G hr2 Tn.b pass0) (by rfl) zL PySem.boot_len (pa_cons (pv 2) pa_nil)) pa_nil) (fun σ H R R' f ⟨y, hy, a', dx', fs', e1, e2, b', rs', s', e', st', p', e3, e4, e5, q⟩ => ⟨y, hy, a', dx', fs', e1, e2, b', rs', s', e', st', p', e3, e4, e5, f _ _ q⟩)))) pss_nil)
      (pss_cons (ps_fld (pv 0) (pv 1) rfl)
      (pss_cons (ps_fld (pv 0) (pv 2) rfl)
      (pss_one (ps_fld (pv 0) (pe_join pe_str (pe_op op_cat (pe_call Lw.G hr3 rfl Lw.m Lw.kp Lw.b .nil pass0 (pa_cons (pv 1) pa_nil)) (pe_call Tw.G hr3 rfl Tw.m Tw.kp Tw.b .nil pass0 (pa_cons (pv 2) pa_nil)))) rfl)))), ?_⟩
  obtain ⟨⟨dxa, t, tS, tP, tW, ha, hT, _⟩, ok⟩ := id la
  obtain ⟨dxb, t2, hb, hT2, tk⟩ := id tb
  have n3 := ok.n3
  have m3 := tk.n3
  refine ⟨_, rfl, b, dxb, _, rfl, hb, b, pl.rooms, pl.seek, pl.empty, pl.strange, pl.pause, rfl, tb, ⟨_, rfl, by omega, by omega⟩, ?_⟩
  refine ⟨_, rfl, a, dxa, _, rfl, ha, a, dxa, _, t, _, rfl, ha, rfl, hT, ⟨_, rfl, by omega, by rw [List.length_map]; omega⟩, ?_⟩
  rw [List.length_map, hl]
  refine ⟨rfl, _, rfl, ?_⟩
  rw [decide_eq_true rfl]
  refine iteF ?_
  have nax : a ≠ x := fun z => by
    rw [z, hx] at ha
    have q := HO.ins.inj (Option.some.inj ha)
    have q2 := congrArg (fun l : List (Str × V) => l.lookup ("_belts" : Str)) q.2.2
    exact nomatch (show (none : Option V) = some (.ref t) from q2)
  have nbx : b ≠ x := fun z => by
    rw [z, hx] at hb
    have q := HO.ins.inj (Option.some.inj hb)
    have q2 := congrArg (fun l : List (Str × V) => l.lookup ("_rooms" : Str)) q.2.2
    exact nomatch (show (none : Option V) = some (.ref t2) from q2)
  refine ⟨_, rfl, _, rfl, x, CP, dx, _, rfl, hx, T.cl, T.n1, (by show 0 < 1000; decide), ?_⟩
  refine ⟨_, rfl, _, rfl, x, CP, dx, _, rfl, upd_same, T.cl, T.n2, putF_small (k := 0) (Nat.le_refl _) (by decide), ?_⟩
  have keep : ∀ c o, c ≠ x → H c = some o → upd (upd H x (.ins CP dx (putF "_line" (.ref a) []))) x (.ins CP dx (putF "_tracker" (.ref b) (putF "_line" (.ref a) []))) c = some o := fun c o n e => by
    rw [upd_ne n, upd_ne n]
    exact e
  have hx2 : upd (upd H x (.ins CP dx (putF "_line" (.ref a) []))) x (.ins CP dx (putF "_tracker" (.ref b) (putF "_line" (.ref a) []))) x = some (.ins CP dx (putF "_tracker" (.ref b) (putF "_line" (.ref a) []))) := upd_same
  have la2 := lnAt_keep la hx nax keep
  have tb2 := trP_keep tb hx nbx keep
  generalize upd (upd H x (.ins CP dx (putF "_line" (.ref a) []))) x (.ins CP dx (putF "_tracker" (.ref b) (putF "_line" (.ref a) []))) = H2 at keep hx2 la2 tb2
  have wl := ws_len (l := l) (pl := pl) ok tk
  refine ⟨⟨_, rfl⟩, _, rfl, a, l, rfl, la2, fun p1 G1 np1 s1 e1 => ?_⟩
  have tb3 : TrP K CT G1 b pl := by
    obtain ⟨d, u, h1, h2, h3⟩ := tb2
    exact ⟨d, u, s1 _ _ h1, sqT_same h2 s1, h3⟩
  refine ⟨_, rfl, b, pl, rfl, tb3, fun p2 G2 np2 s2 e2 => ?_⟩
  rw [List.length_append] at wl
  refine ⟨p1, p2, _, _, rfl, rfl, s2 _ _ e1, e2, Nat.le_trans (m := 30) (by rw [List.length_map, List.length_map]; exact wl) (by decide), fun p3 np3 => ?_⟩
  have s3 := (s1.trans s2).new (o := .lst ((lineWs l).map V.str ++ (trWs pl).map V.str)) np3
  refine ⟨_, p3, lineWs l ++ trWs pl, rfl, rfl, .inl (SqL.of (by rw [upd_same, List.map_append])), ?_, ?_⟩
  · have q := sum_len (ws := lineWs l ++ trWs pl) fun z hz => (List.mem_append.mp hz).elim (lineWs_8 ok z) (trWs_8 tk z)
    rw [List.length_append] at q ⊢
    have : (" " : Str).length = 1 := by decide +kernel
    rw [this]
    omega
  · refine ⟨_, rfl, x, CP, dx, _, rfl, s3 _ _ hx2, T.cl, T.n3, putF_small (k := 1) (putF_len (k := 0) (Nat.le_refl _)) (by decide), k _ upd_same fun c o n e => ?_⟩
    rw [upd_ne n]
    exact s3 _ _ (keep c o n e)
theorem ok_pi {f CP CL CT fLw fTw fLn fTn c0 : Addr} {fd gLw gTw gLn gTn : FuncData} (F : Fun K "__init__" "Plant.__init__" sPi f fd) (T : PlF K mg CP) (zL : mg "len" = none) (e0 : ErrC P w K mg base "WrongCount" "given" c0)
    (Lw : DefF P w K mg base "line_words" 3 ["line"] (spLw K CL) fLw gLw) (Tw : DefF P w K mg base "tracker_words" 3 ["tracker"] (spTw K CT) fTw gTw) (Ln : SpcF P w K mg base CL "__len__" (spLenF K CL "_belts") fLn gLn) (Tn : SpcF P w K mg base CT "__len__" (spTLen K CT) fTn gTn) :
    FnOk P w K mg base (L2.CX P w) 6 f fd NPi (spPi K CP CL CT) :=
  F.okX scPi (fun vs H Q E ⟨x, dx, a, b, l, pl, e, _⟩ => by rw [e]; rfl) (fun cdv A outer s H vs Q E hr h => body_pi T zL e0 Lw Tw Ln Tn hr h)
end
end Own

namespace Own
open PySem L2 ClX PySem.HandSPX
abbrev sMadeP : Stmt := topT 71
def spMadeP (K : PySem.W.Frag) (CP CL CT : Addr) : Sp := fun vs H Q _ => ∃ D b s t wd r pl, vs = [.ref D] ∧ PlanH H D b s t wd r pl ∧ LnOk (pl.line pl.scans) ∧ pl.TrOk ∧ pl.rooms.length = pl.belts.length ∧
  ∀ (x : Addr) (H' : Hp) (ss : List Int), H x = none → Same H H' → ss.Perm pl.scans → ss.Pairwise (· ≤ ·) → PlAt K CP CL CT H' x (pl.line ss) pl → Q (.ref x) H'
theorem LnAt.same' {K : PySem.W.Frag} {C : Addr} {H H' : Hp} {x : Addr} {l : LnD} (h : LnAt K C H x l) (s : Same H H') : LnAt K C H' x l := by
  obtain ⟨⟨d, t, tS, tP, tW, h1, h2, h3, h4, h5⟩, ok⟩ := h
  exact ⟨⟨d, t, tS, tP, tW, s _ _ h1, sqT_same h2 s, sqT_same h3 s, sqT_same h4 s, sqT_same h5 s⟩, ok⟩
theorem TrP.same {K : PySem.W.Frag} {C : Addr} {H H' : Hp} {x : Addr} {pl : Plan} (h : TrP K C H x pl) (s : Same H H') : TrP K C H' x pl := by
  obtain ⟨d, u, h1, h2, h3⟩ := h
  exact ⟨d, u, s _ _ h1, sqT_same h2 s, h3⟩
theorem PlAt.same {K : PySem.W.Frag} {CP CL CT : Addr} {H H' : Hp} {x : Addr} {l : LnD} {pl : Plan} (h : PlAt K CP CL CT H x l pl) (s : Same H H') : PlAt K CP CL CT H' x l pl := by
  obtain ⟨dx, a, b, h1, h2, h3⟩ := h
  exact ⟨dx, a, b, s _ _ h1, h2.same' s, h3.same s⟩
section
variable {P : Program} {w : World} {K : PySem.W.Frag} {mg : Str → Option Value} {base : Heap}
theorem scMadeP : FnScope ["_law_plan"] ["_law_plan"] (defScope sMadeP) := ⟨rfl, rfl, rfl, by decide +kernel, rfl, by decide +kernel, by decide +kernel⟩
theorem ok_madeP {f fI CP CL CT fMl fMt : Addr} {fd gI gMl gMt : FuncData} (F : Fun K "_law_made_plant" "_law_made_plant" sMadeP f fd) (T : PlF K mg CP) (M : Mk K CP fI) (GI : FnOk P w K mg base (L2.CX P w) 6 fI gI NPi (spPi K CP CL CT)) (bI : Binds K gI NPi [])
    (Ml : DefF P w K mg base "_law_made_line" 10 ["_law_plan"] (spMadeL K CL) fMl gMl) (Mt : DefF P w K mg base "_law_made_tracker" 6 ["_law_plan"] (spMadeT K CT) fMt gMt) : FnOk P w K mg base CX0 11 f fd ["_law_plan"] (spMadeP K CP CL CT) := by
  refine F.ok scMadeP (fun vs H Q E h => ?_) (fun cdv A outer s H vs Q E hr h => ?_)
  · obtain ⟨D, b, sa, t, wd, r, pl, rfl, _⟩ := h
    rfl
  · obtain ⟨D, b, sa, t, wd, r, pl, rfl, ph, ok, tk, hl, k⟩ := h
    have nd := scMadeP.nd
    refine ⟨_, PSs.nox (pss_one (ps_ret (pe_make M GI (hr.mono (by decide)) (by rfl) T.at_ bI .nil passF (pa_cons (pe_call Ml.G hr rfl Ml.m Ml.kp Ml.b .nil pass0 (pa_cons (pv 0) pa_nil)) (pa_cons (pe_call Mt.G (hr.mono (by decide)) rfl Mt.m Mt.kp Mt.b .nil pass0 (pa_cons (pv 0) pa_nil)) pa_nil))))), ?_⟩
    refine ⟨_, rfl, D, b, sa, t, wd, r, pl, rfl, ph, ok, fun a H1 ss na s1 pm sr la => ?_⟩
    refine ⟨_, rfl, D, b, sa, t, wd, r, pl, rfl, ph.keep s1, tk, fun c H2 nc tc s2 => ?_⟩
    intro x dx nx ndx ne
    have sA : Same H2 (upd (upd H2 dx (.own x)) x (.ins CP dx [])) := ((Same.refl _).new ndx).new (by rw [upd_ne (Ne.symm ne)]; exact nx)
    refine ⟨x, dx, a, c, pl.line ss, pl, rfl, upd_same, (la.same' s2).same' sA, tc.same sA, hl, fun H' hx e => ⟨rfl, ?_⟩⟩
    have sB : Same H2 H' := fun q o hq => e q o (L2.ne_of_none hq nx) (sA _ _ hq)
    exact k x H' ss (Same.free (s1.trans s2) nx) ((s1.trans s2).trans sB) pm sr ⟨dx, a, c, hx, (la.same' s2).same' sB, tc.same sB⟩
/-- the getters of a plant -/
theorem scPg1 : FnScope ["self"] ["self"] (defScope (inClass (topT 48) 1)) := ⟨rfl, rfl, rfl, by decide +kernel, rfl, by decide +kernel, by decide +kernel⟩
theorem scPg2 : FnScope ["self"] ["self"] (defScope (inClass (topT 48) 2)) := ⟨rfl, rfl, rfl, by decide +kernel, rfl, by decide +kernel, by decide +kernel⟩
theorem ok_pg1 {f C : Addr} {fd : FuncData} (F : Fun K "line" "Plant.line" (inClass (topT 48) 1) f fd) (T : PlF K mg C) : FnOk P w K mg base CX0 1 f fd ["self"] (spGet C "_line") := by
  refine F.ok scPg1 (fun vs H Q E ⟨a, dx, fs, v, e, _⟩ => by rw [e]; rfl) (fun cdv A outer s H vs Q E hr ⟨a, dx, fs, v, e, ea, l, q⟩ => ?_)
  subst e
  exact ⟨_, pss_one (ps_ret (pe_fld (pv 0) rfl)), _, rfl, a, C, dx, fs, v, rfl, ea, T.cl, T.n1, l, q⟩
theorem ok_pg2 {f C : Addr} {fd : FuncData} (F : Fun K "tracker" "Plant.tracker" (inClass (topT 48) 2) f fd) (T : PlF K mg C) : FnOk P w K mg base CX0 1 f fd ["self"] (spGet C "_tracker") := by
  refine F.ok scPg2 (fun vs H Q E ⟨a, dx, fs, v, e, _⟩ => by rw [e]; rfl) (fun cdv A outer s H vs Q E hr ⟨a, dx, fs, v, e, ea, l, q⟩ => ?_)
  subst e
  exact ⟨_, pss_one (ps_ret (pe_fld (pv 0) rfl)), _, rfl, a, C, dx, fs, v, rfl, ea, T.cl, T.n2, l, q⟩
end
end Own

namespace Own
open PySem PySem.Spec PyProof.Rows L2 ClX
/-- C.m is a staticmethod: its record at p, its def at g -/
structure SMet (K : PySem.W.Frag) (C : Addr) (mc : Value) (m : Str) (p g : Addr) : Prop where
  at_ : PySem.W.findCls K (.ref C) mc m = some (.get (.builtin "staticmethod.__get__") (.ref p) .none (.ref C))
  rc : ∃ rest, PySem.W.recIn K p "staticmethod" = some (.ref g :: rest)
  kp : PySem.W.keepIn K (.ref g) = true
section
variable {X : Cx} {pins : List (Addr × Obj)} {σ : L2.St} {H : Hp} {s : Shared} {C p g : Addr} {mc : Value} {m : Str} {A : Around} {E : Value → Shared → Prop}
theorem getmethsm_ok {pl : Sem Bool} {Q : Value × List Value → Shared → Prop} (I : Inv X pins σ H s) (r : CRead X.K C mc) (k : SMet X.K C mc m p g)
    (h : ∀ s', Inv X pins σ H s' → Q (.ref g, []) s') : wpAny (model X.prog X.w) A (getMethod (.ref C) m pl) Q E s := by
  obtain ⟨rest, hp⟩ := k.rc
  refine PySem.W.method_cls I.kIn r.ga (PySem.W.cls_bind I.kIn r.rd k.at_ ?_)
  exact wpAny_call (PySem.W.sm_get (s := { s with toks := s.toks + 1 }) I.kIn hp (PySem.W.handed_on rfl (h _ (I.tok _))))
end
/-- C.m(..), m a staticmethod -/
def tSMeth (C : Addr) (sp : Sp) (dvs : List V) (E : XK) (ta : TE) (t : TA) : TE := fun σ H Q => ta σ H fun x H1 => x = .ref C ∧ t σ H1 fun vs H2 => sp (vs ++ dvs) H2 Q E
section
variable {X : Cx} {CX : CXT} {k : Nat} {C p g : Addr} {mc : Value} {m : Str} {fd : FuncData} {ps : List Str} {sp : Sp} {dvs : List V} {ds : List Value} {E : XK} {ta : TE} {t : TA} {o e : Expr} {es : List Expr} {apos pos : Pos}
theorem pe_smeth {pl : Sem Bool} (he : PE X o ta) (r : CRead X.K C mc) (c : SMet X.K C mc m p g) (F : FnOk X.prog X.w X.K X.mg X.base CX k g fd ps sp) (hr : Room k X.A) (hb : Binds X.K fd ps ds) (hd : Vals dvs ds) (hx : Passes CX X E) (ha : PA X (e :: es) t)
    (hst : starEach (e :: es) X.env = (false, eval e X.env) :: starEach es X.env := by rfl) (hpl : (backTo pos (starEach es X.env)).any (·.1) = false := by rfl)
    (ht : eval (.Call (.Attribute o m apos) (e :: es) [] pos) X.env = (do
      let ov ← eval o X.env
      standAt apos.atName
      let (f, first) ← holding [ov] (getMethod ov m pl)
      callWith pos f first (backTo pos (starEach (e :: es) X.env)) (backToKw pos (keywordEach [] X.env))) := by rfl) :
    PE X (.Call (.Attribute o m apos) (e :: es) [] pos) (tSMeth C sp dvs E ta t) := by
  refine ⟨fun pins s σ H Q I h => ?_⟩
  refine PySem.W.methodCall_KW (pl := pl) (thn (he.run pins s σ H _ I h) fun u s1 ⟨x, H1, I1, rx, ex, q⟩ => ?_) ht
  subst ex
  obtain rfl : u = Value.ref C := rx
  refine getmethsm_ok I1 r c fun s2 I2 => ?_
  refine PySem.W.callWith_K (first := []) (h₀ := X.base) I.ok.mod.kin c.kp (thn (ha.run pos pins s2 σ H1 _ I2 q) fun us s3 ⟨vs, H2, I3, rv, q2⟩ => ⟨I3.kIn, ?_⟩) hst hpl
  exact run_fn (us := us) (vs := vs) F hr hb hd hx I3 rv q2
end
/-- C.m(x=..), m a staticmethod, every argument by its name -/
def tSMethN (C : Addr) (n : Nat) (sp : Sp) (gV : List V → List V → List V) (E : XK) (ta : TE) (tk : TA) : TE := fun σ H Q => ta σ H fun x H1 => x = .ref C ∧ tk σ H1 fun zs H2 => zs.length = n ∧ sp (gV [] zs) H2 Q E
section
variable {X : Cx} {CX : CXT} {k : Nat} {C p g : Addr} {mc : Value} {m : Str} {fd : FuncData} {ps ks : List Str} {sp : Sp} {E : XK} {ta : TE} {tk : TA} {o : Expr} {kws : List Keyword} {apos pos : Pos} {gu : List Value → List Value → List Value} {gV : List V → List V → List V}
theorem pe_smethN {pl : Sem Bool} (ho : PE X o ta) (r : CRead X.K C mc) (c : SMet X.K C mc m p g) (F : FnOk X.prog X.w X.K X.mg X.base CX k g fd ps sp) (hr : Room k X.A) (hb : KBn X.K fd ps 0 ks gu gV) (hx : Passes CX X E) (hkw : PK X kws tk)
    (hall : (backToKw pos (keywordEach kws X.env)).all (·.1.isSome) = true := by rfl) (hks : (backToKw pos (keywordEach kws X.env)).filterMap (·.1) = ks := by rfl)
    (hpl : ((backTo pos (starEach [] X.env)).any (·.1) || (backToKw pos (keywordEach kws X.env)).any (·.1.isNone)) = false := by rfl)
    (he : eval (.Call (.Attribute o m apos) [] kws pos) X.env = (do
      let ov ← eval o X.env
      standAt apos.atName
      let (f, first) ← holding [ov] (getMethod ov m pl)
      callWith pos f first (backTo pos (starEach [] X.env)) (backToKw pos (keywordEach kws X.env))) := by rfl) :
    PE X (.Call (.Attribute o m apos) [] kws pos) (tSMethN C ks.length sp gV E ta tk) := by
  refine ⟨fun pins s σ H Q I h => ?_⟩
  refine PySem.W.methodCall_KW (pl := pl) (thn (ho.run pins s σ H _ I h) fun u s1 ⟨x, H1, I1, rx, ex, q⟩ => ?_) he
  subst ex
  obtain rfl : u = Value.ref C := rx
  refine getmethsm_ok I1 r c fun s2 I2 => ?_
  refine PySem.W.callWith_KW0 (h₀ := X.base) I2.ok.mod.kin c.kp hall (thn (hkw.run pos pins s2 σ H1 _ I2 q) fun ws s3 ⟨zs, H2, I3, rz, l2, q2⟩ => ⟨I3.kIn, ?_⟩) hpl
  rw [hks]
  exact run_fnN F hr hb hx I3 .nil rz rfl l2 q2
end
end Own

namespace Own
open PySem PySem.Spec PyProof.Rows L2
section
variable {X : Cx}
/-- a local bound to a dict comprehension -/
theorem ps_setDc {i : Nat} {y : Str} {py : Pos} {kx vx tg iter : Expr} {ifs : List Expr} {scope : Scope} {own : List (Str × Nat)} {pos spos : Pos} {wi : TI} {g : TG} {tt : TT} {tk tv : TE} (hc : X.calm = true) (hN : X.N.Nodup) (hy : X.N[i]? = some y) (hyl : X.env.scope.names.lookup y = some .local)
    (hsw : swapsWith (.DictComp kx vx [⟨tg, iter, ifs, 0⟩] scope pos) (some (.Name y py)) spos.line X.env = pure true) (hi : PI X tg iter wi) (ok : BlkOk X.N X.env.scope scope own)
    (hg : ∀ (s : Shared) (H : Hp) (C : Addr) (cl : List (Str × Addr)) (fp : List Addr), PG (X.blk s H scope (compEnvC scope cl C X.env) fp) tg g) (ht : ∀ (s : Shared) (H : Hp) (C : Addr) (cl : List (Str × Addr)) (fp : List Addr), PTs (X.blk s H scope (compEnvC scope cl C X.env) fp) ifs tt)
    (hk : ∀ (s : Shared) (H : Hp) (C : Addr) (cl : List (Str × Addr)) (fp : List Addr), PE (X.blk s H scope (compEnvC scope cl C X.env) fp) kx tk) (he : ∀ (s : Shared) (H : Hp) (C : Addr) (cl : List (Str × Addr)) (fp : List Addr), PE (X.blk s H scope (compEnvC scope cl C X.env) fp) vx tv)
    (hs : ∀ x, foldedSetIterable iter X.env x = pure x := by intro _; rfl) :
    PS X (.Assign [.Name y py] (.DictComp kx vx [⟨tg, iter, ifs, 0⟩] scope pos) spos) (tAsg (tDc wi g tt tk tv (own.map (·.2))) (gName i)) := by
  refine ⟨fun pins s σ H D I h => ?_⟩
  rw [exec_Assign_Name_used _ _ _ _ hsw]
  refine wpAny_bind (wpAny_standAt (wpAny_bind ?_))
  show wpAny _ X.A (do let _ ← comprehension (.DictComp kx vx [⟨tg, iter, ifs, 0⟩] scope pos) scope X.env (firstIterPos [⟨tg, iter, ifs, 0⟩] pos) newDict false (eval iter X.env) (some (assign (.Name y py) X.env))) _ _ s
  have h : tDc wi g tt tk tv (own.map (·.2)) σ H (fun x H1 => gName i x σ H1 D.nx) := h
  refine wpAny_bind (thn (dc_core (Qf := fun _ s' => SP X pins D .next s') hc hN I hi ok hg ht hk he hs h fun L C s' m H' I' q hn f => ?_) fun _ s' hq => wpAny_pure (wpAny_pure hq))
  show wpAny _ _ (assign (.Name y py) X.env (.ref L)) _ _ _
  refine wpAny_assign_Name (store_ok2 (v := V.ref L) I' hN hy (.inl hyl) rfl (fun s2 I2 ⟨a, sb, ha⟩ => ?_) (.inr hyl))
  obtain ⟨f0, f1, f2, f3, f4, f5⟩ := f
  have haC : C ≠ a := by
    rcases ha with z | z
    · rw [z]; exact f1
    · exact fun e => f4 y a z e.symm
  refine ⟨m, hn.sameBut sb haC, fun h3 sb3 => ?_⟩
  exact ⟨_, H', I2.turned (t' := s2.toks) (fun b o hb e => (sb3.2 b hb).trans e) f0 f1 f3 f4 f5, q⟩
theorem sw_trueD {kx vx : Expr} {gs : List Comprehension} {scope : Scope} {pos py : Pos} {y : Str} {l : Nat} {env : Env} (hk : env.scope.kind = .function) (hy : env.scope.names.lookup y = some .local) (hl : (py.line == pos.line) = true)
    (ha : (scope.names.any fun (n, k) => n == y && (k == .local || k == .cell)) = false) : swapsWith (.DictComp kx vx gs scope pos) (some (.Name y py)) l env = pure true := by
  have ky : env.kindOf y = some .local := hy
  have hb : env.blockKind = .function := by unfold Env.blockKind; rw [hk]; rfl
  unfold swapsWith
  simp only [hb, ky, ha, Expr.pos, hl]
  rfl
end
end Own

set_option linter.all false
/-! zip of a tuple and a list: the two iterators by what next asks of them. -/
namespace Own
open PySem PySem.Spec PyProof.Rows
open PySem.Sem (wp)
/-- an iterator that stands at i, over the values of what lies at l -/
structure Nx (prog : Program) (w : World) (i l : Addr) (its : Array Value) where
  st : Heap → Nat → Prop
  keep : ∀ {h h' : Heap} {k : Nat} {c : Addr}, st h k → Heap.ExtBut c h h' → i ≠ c → l ≠ c → st h' k
  lt : ∀ {h : Heap} {k : Nat}, st h k → i < h.objs.size
  item : ∀ {A : Around} {E : Value → Shared → Prop} {s : Shared} {Q : Value → Shared → Prop} {k : Nat} {x : Value}, st s.heap k → its[k]? = some x → (∀ h', st h' (k + 1) → Heap.SameBut i s.heap h' → Q x { s with heap := h' }) → wpAny (model prog w) A (Builtin.SmallTypes.nextOf (.ref i)) Q E s
  stop : ∀ {A : Around} {E : Value → Shared → Prop} {s : Shared} {Q : Value → Shared → Prop} {k : Nat}, A.handled = none → st s.heap k → its[k]? = none → (∀ h' e, Heap.ExtBut i s.heap h' → (∃ o, h'.get? e = some o ∧ o.cls = .type "StopIteration") → E (.ref e) { s with heap := h' }) → wpAny (model prog w) A (Builtin.SmallTypes.nextOf (.ref i)) Q E s
def nxT {prog : Program} {w : World} {i l : Addr} {its : Array Value} (n : l ≠ i) : Nx prog w i l its where
  st h k := h.IsTupleIter i l k ∧ h.IsTuple l its
  keep q e n1 n2 := ⟨q.1.extBut e n1, q.2.extBut e n2⟩
  lt q := by obtain ⟨⟨_, e, _⟩, _⟩ := q; exact Heap.lt_size e
  item q hx hQ := RZ.nextOf_tuple_item q.1 q.2 hx fun h' a b => hQ h' ⟨a, q.2.extBut b.extBut n⟩ b
  stop hh q hx hE := RZ.nextOf_tuple_end hh q.1 q.2 hx hE
def nxL {prog : Program} {w : World} {i l : Addr} {its : Array Value} (n : l ≠ i) : Nx prog w i l its where
  st h k := h.IsListIter i l k ∧ h.IsList l its
  keep q e n1 n2 := ⟨q.1.extBut e n1, q.2.extBut e n2⟩
  lt q := by obtain ⟨⟨_, e, _⟩, _⟩ := q; exact Heap.lt_size e
  item q hx hQ := wpAny_nextOf_list_item q.1 q.2 hx fun h' a b => hQ h' ⟨a, q.2.extBut b.extBut n⟩ b
  stop hh q hx hE := wpAny_nextOf_list_end hh q.1 q.2 hx hE
section
variable {prog : Program} {w : World} {A : Around} {E : Value → Shared → Prop} {s : Shared}
/-- everything but the zip, its pair to hand out and its two iterators stays -/
abbrev Kz (z TO i1 i2 : Addr) (h h' : Heap) : Prop := ∀ c o, c ≠ z → c ≠ TO → c ≠ i1 → c ≠ i2 → h.get? c = some o → h'.get? c = some o
theorem zipN_item {z TI TO i1 i2 l1 l2 : Addr} {k1 k2 : Nat} {xs ys : Array Value} {x y a b : Value} {Q : Value → Shared → Prop} (D : ZipApart z TI TO i1 i2 l1 l2) (n1 : Nx prog w i1 l1 xs) (n2 : Nx prog w i2 l2 ys)
    (hz : IsZip s.heap z TI TO .none) (hTI : IsPair s.heap TI (.ref i1) (.ref i2)) (hTO : IsPair s.heap TO a b) (h1 : n1.st s.heap k1) (h2 : n2.st s.heap k2) (hx : xs[k1]? = some x) (hy : ys[k2]? = some y)
    (hQ : ∀ h', IsZip h' z TI TO (rawInt s.heap.objs.size) → IsPair h' TO x y → n1.st h' (k1 + 1) → n2.st h' (k2 + 1) → IsPair h' s.heap.objs.size x y → h'.objs.size = s.heap.objs.size + 1 → Kz z TO i1 i2 s.heap h' → Q (.ref s.heap.objs.size) { s with heap := h' }) :
    wpAny (model prog w) A (Builtin.«zip.__next__» ⟨[.ref z], []⟩) (fun fin s' => ∃ v, fin = .done (.ret v) ∧ Q v s') E s := by
  show wpAny _ _ (field (.ref z) 2 >>= _) _ _ _
  refine wpAny_bind (wpAny_field hz rfl (x := .bool false) rfl ?_)
  show wpAny _ _ (field (.ref z) 3 >>= _) _ _ _
  refine wpAny_bind (wpAny_field hz rfl (x := .ref TI) rfl ?_)
  refine wpAny_bind (wpAny_seqItems hTI rfl ?_)
  show wpAny _ _ (Builtin.SmallTypes.ownedTupleIsFree (.ref z) >>= _) _ _ _
  refine wpAny_bind ?_
  unfold Builtin.SmallTypes.ownedTupleIsFree
  refine wpAny_bind (wpAny_field hz rfl (x := .none) rfl (wpAny_pure ?_))
  simp only [if_true]
  refine wpAny_bind (wpAny_rule ?_)
  refine wpAny_bind (wpAny_field hz rfl (x := .ref TO) rfl ?_)
  refine wpAny_bind (wpAny_setField_rec hz (by simp) fun g1 gz1 gs1 => ?_)
  replace gz1 : IsZip g1 z TI TO .ellipsis := gz1
  have e1 := gs1.extBut
  refine wpAny_bind ?_
  simp only [List.zipIdx_cons, List.zipIdx_nil, List.forIn_cons, List.forIn_nil]
  refine wpAny_bind (wpAny_bind (wpAny_onRaise ?_))
  show wpAny _ _ (Builtin.SmallTypes.nextOf (.ref i1) >>= _) _ _ _
  refine wpAny_bind (n1.item (s := { s with heap := g1 }) (n1.keep h1 e1 D.i1z D.l1z) hx fun g2 t1 gs2 => wpAny_pure ?_)
  have e2 := gs2.extBut
  have p2 : IsPair g2 TO a b := e2 _ _ D.TOi1 (e1 _ _ D.TOz hTO)
  refine wpAny_bind (wpAny_seqItems p2 rfl ?_)
  refine wpAny_bind (wpAny_updateSeq_pair p2 fun g3 p3 gs3 => ?_)
  replace p3 : IsPair g3 TO x b := p3
  have e3 := gs3.extBut
  refine wpAny_bind (wpAny_letGo (wpAny_pure ?_))
  refine wpAny_bind (wpAny_bind (wpAny_onRaise ?_))
  show wpAny _ _ (Builtin.SmallTypes.nextOf (.ref i2) >>= _) _ _ _
  refine wpAny_bind (n2.item (s := { s with heap := g3 }) (n2.keep (n2.keep (n2.keep h2 e1 D.i2z D.l2z) e2 D.i12.symm D.l2i1) e3 D.TOi2.symm D.l2TO) hy fun g4 t2 gs4 => wpAny_pure ?_)
  have e4 := gs4.extBut
  have p4 : IsPair g4 TO x b := e4 _ _ D.TOi2 p3
  refine wpAny_bind (wpAny_seqItems p4 rfl ?_)
  refine wpAny_bind (wpAny_updateSeq_pair p4 fun g5 p5 gs5 => ?_)
  replace p5 : IsPair g5 TO x y := p5
  have e5 := gs5.extBut
  refine wpAny_bind (wpAny_letGo (wpAny_pure (wpAny_pure ?_)))
  refine wpAny_bind (wpAny_seqItems p5 rfl ?_)
  refine wpAny_bind (wpAny_newTuple ?_)
  have hsz : g5.objs.size = s.heap.objs.size := by rw [gs5.1, gs4.1, gs3.1, gs2.1, gs1.1]
  have z5 : IsZip g5 z TI TO .ellipsis := e5 _ _ D.TOz.symm (e4 _ _ D.i2z.symm (e3 _ _ D.TOz.symm (e2 _ _ D.i1z.symm gz1)))
  have k5 : Kz z TO i1 i2 s.heap g5 := fun c o c1 c2 c3 c4 e => e5 _ _ c2 (e4 _ _ c4 (e3 _ _ c2 (e2 _ _ c3 (e1 _ _ c1 e))))
  have u1 : n1.st g5 (k1 + 1) := n1.keep (n1.keep (n1.keep t1 e3 D.TOi1.symm D.l1TO) e4 D.i12 D.l1i2) e5 D.TOi1.symm D.l1TO
  have u2 : n2.st g5 (k2 + 1) := n2.keep t2 e5 D.TOi2.symm D.l2TO
  have zlt : z < g5.objs.size := Heap.lt_size z5
  show wpAny _ _ (Builtin.SmallTypes.ownedTupleHandOut (.ref z) (.ref g5.objs.size) >>= _) _ _ _
  refine wpAny_bind ?_
  unfold Builtin.SmallTypes.ownedTupleHandOut
  have z6 : IsZip (g5.push { cls := .type "tuple", data := .seq #[x, y] }) z TI TO .ellipsis := Heap.get?_push_of_some _ z5
  have e6 : Heap.ExtBut z g5 (g5.push { cls := .type "tuple", data := .seq #[x, y] }) := (Heap.ExtBut.refl z g5).push _
  refine wpAny_bind (wpAny_setField_rec z6 (by simp) fun g7 z7 gs7 => ?_)
  replace z7 : IsZip g7 z TI TO (rawInt g5.objs.size) := z7
  refine wpAny_setField_rec z7 (by simp) fun g8 z8 gs8 => ?_
  replace z8 : IsZip g8 z TI TO (rawInt g5.objs.size) := z8
  have up : Heap.ExtBut z g5 g8 := (e6.trans gs7.extBut).trans gs8.extBut
  have t8 : IsPair g8 g5.objs.size x y := gs8.extBut _ _ (Nat.ne_of_gt zlt) (gs7.extBut _ _ (Nat.ne_of_gt zlt) (Heap.get?_push_size _ rfl))
  have s8 : g8.objs.size = g5.objs.size + 1 := by rw [gs8.1, gs7.1, Heap.size_push]
  rw [hsz] at z8 t8 s8
  refine wpAny_pure ⟨_, rfl, ?_⟩
  show Q (.ref g5.objs.size) _
  rw [hsz]
  exact hQ g8 z8 (up _ _ D.TOz p5) (n1.keep u1 up D.i1z D.l1z) (n2.keep u2 up D.i2z D.l2z) t8 s8 fun c o c1 c2 c3 c4 e => up c o c1 (k5 c o c1 c2 c3 c4 e)
theorem zipN_end {z TI TO i1 i2 l1 l2 : Addr} {k1 k2 : Nat} {xs ys : Array Value} {a b : Value} {Q : Fin → Shared → Prop} (hh : A.handled = none) (D : ZipApart z TI TO i1 i2 l1 l2) (n1 : Nx prog w i1 l1 xs) (n2 : Nx prog w i2 l2 ys)
    (hz : IsZip s.heap z TI TO .none) (hTI : IsPair s.heap TI (.ref i1) (.ref i2)) (hTO : IsPair s.heap TO a b) (h1 : n1.st s.heap k1) (h2 : n2.st s.heap k2) (hend : xs[k1]? = none ∨ ys[k2]? = none)
    (hE : ∀ h' e, Kz z TO i1 i2 s.heap h' → (∃ o, h'.get? e = some o ∧ o.cls = .type "StopIteration") → E (.ref e) { s with heap := h' }) :
    wpAny (model prog w) A (Builtin.«zip.__next__» ⟨[.ref z], []⟩) Q E s := by
  show wpAny _ _ (field (.ref z) 2 >>= _) _ _ _
  refine wpAny_bind (wpAny_field hz rfl (x := .bool false) rfl ?_)
  show wpAny _ _ (field (.ref z) 3 >>= _) _ _ _
  refine wpAny_bind (wpAny_field hz rfl (x := .ref TI) rfl ?_)
  refine wpAny_bind (wpAny_seqItems hTI rfl ?_)
  show wpAny _ _ (Builtin.SmallTypes.ownedTupleIsFree (.ref z) >>= _) _ _ _
  refine wpAny_bind ?_
  unfold Builtin.SmallTypes.ownedTupleIsFree
  refine wpAny_bind (wpAny_field hz rfl (x := .none) rfl (wpAny_pure ?_))
  simp only [if_true]
  refine wpAny_bind (wpAny_rule ?_)
  refine wpAny_bind (wpAny_field hz rfl (x := .ref TO) rfl ?_)
  refine wpAny_bind (wpAny_setField_rec hz (by simp) fun g1 gz1 gs1 => ?_)
  replace gz1 : IsZip g1 z TI TO .ellipsis := gz1
  have e1 := gs1.extBut
  refine wpAny_bind ?_
  simp only [List.zipIdx_cons, List.zipIdx_nil, List.forIn_cons, List.forIn_nil]
  refine wpAny_bind (wpAny_bind (wpAny_onRaise ?_))
  show wpAny _ _ (Builtin.SmallTypes.nextOf (.ref i1) >>= _) _ _ _
  have t1 := n1.keep h1 e1 D.i1z D.l1z
  cases hx : xs[k1]? with
  | none =>
    refine wpAny_bind (n1.stop (s := { s with heap := g1 }) hh t1 hx fun g2 e e2 he => ?_)
    obtain ⟨oe, hoe, hce⟩ := he
    have z2 : IsZip g2 z TI TO .ellipsis := e2 _ _ D.i1z.symm gz1
    have hez : e ≠ z := fun q => by subst q; rw [z2] at hoe; cases hoe; simp at hce
    refine wpAny_setField_rec z2 (by simp) fun g3 _ gs3 => hE g3 e (fun c o c1 _ c3 _ q => gs3.extBut _ _ c1 (e2 _ _ c3 (e1 _ _ c1 q))) ⟨oe, gs3.extBut _ _ hez hoe, hce⟩
  | some x =>
    have hy : ys[k2]? = none := by
      rcases hend with h | h
      · rw [hx] at h; cases h
      · exact h
    refine wpAny_bind (n1.item (s := { s with heap := g1 }) t1 hx fun g2 _ gs2 => wpAny_pure ?_)
    have e2 := gs2.extBut
    have p2 : IsPair g2 TO a b := e2 _ _ D.TOi1 (e1 _ _ D.TOz hTO)
    refine wpAny_bind (wpAny_seqItems p2 rfl ?_)
    refine wpAny_bind (wpAny_updateSeq_pair p2 fun g3 p3 gs3 => ?_)
    have e3 := gs3.extBut
    refine wpAny_bind (wpAny_letGo (wpAny_pure ?_))
    refine wpAny_bind (wpAny_bind (wpAny_onRaise ?_))
    show wpAny _ _ (Builtin.SmallTypes.nextOf (.ref i2) >>= _) _ _ _
    refine wpAny_bind (n2.stop (s := { s with heap := g3 }) hh (n2.keep (n2.keep (n2.keep h2 e1 D.i2z D.l2z) e2 D.i12.symm D.l2i1) e3 D.TOi2.symm D.l2TO) hy fun g4 e e4 he => ?_)
    obtain ⟨oe, hoe, hce⟩ := he
    have z4 : IsZip g4 z TI TO .ellipsis := e4 _ _ D.i2z.symm (e3 _ _ D.TOz.symm (e2 _ _ D.i1z.symm gz1))
    have hez : e ≠ z := fun q => by subst q; rw [z4] at hoe; cases hoe; simp at hce
    refine wpAny_setField_rec z4 (by simp) fun g5 _ gs5 => hE g5 e (fun c o c1 c2 c3 c4 q => gs5.extBut _ _ c1 (e4 _ _ c4 (e3 _ _ c2 (e2 _ _ c3 (e1 _ _ c1 q))))) ⟨oe, gs5.extBut _ _ hez hoe, hce⟩
theorem pyNext_zipN_item {z TI TO i1 i2 l1 l2 : Addr} {k1 k2 : Nat} {xs ys : Array Value} {x y a b : Value} {Q : Option Value → Shared → Prop} (D : ZipApart z TI TO i1 i2 l1 l2) (n1 : Nx prog w i1 l1 xs) (n2 : Nx prog w i2 l2 ys)
    (hz : IsZip s.heap z TI TO .none) (hTI : IsPair s.heap TI (.ref i1) (.ref i2)) (hTO : IsPair s.heap TO a b) (h1 : n1.st s.heap k1) (h2 : n2.st s.heap k2) (hx : xs[k1]? = some x) (hy : ys[k2]? = some y)
    (hQ : ∀ h', IsZip h' z TI TO (rawInt s.heap.objs.size) → IsPair h' TO x y → n1.st h' (k1 + 1) → n2.st h' (k2 + 1) → IsPair h' s.heap.objs.size x y → h'.objs.size = s.heap.objs.size + 1 → Kz z TO i1 i2 s.heap h' → Q (some (.ref s.heap.objs.size)) { s with heap := h' }) :
    wpAny (model prog w) A (pyNext (.ref z)) Q E s := by
  have hT : s.TypeIs (.ref z) "zip" := ⟨_, hz, rfl⟩
  unfold pyNext
  exact wpAny_bind (wpAny_attempt (wpAny_callSpecial?_slot (name := Str.ofString "__next__") hT F.slot_zip_next
    (wpAny_call_entry F.slot_zip_next hT F.entry_zip_next (zipN_item D n1 n2 hz hTI hTO h1 h2 hx hy fun h' a1 a2 a3 a4 a5 a6 a7 => wpAny_pure (hQ h' a1 a2 a3 a4 a5 a6 a7)) (F.args_zip_next_1 _))))
theorem pyNext_zipN_end {z TI TO i1 i2 l1 l2 : Addr} {k1 k2 : Nat} {xs ys : Array Value} {a b : Value} {Q : Option Value → Shared → Prop} (hh : A.handled = none) (D : ZipApart z TI TO i1 i2 l1 l2) (n1 : Nx prog w i1 l1 xs) (n2 : Nx prog w i2 l2 ys)
    (hz : IsZip s.heap z TI TO .none) (hTI : IsPair s.heap TI (.ref i1) (.ref i2)) (hTO : IsPair s.heap TO a b) (h1 : n1.st s.heap k1) (h2 : n2.st s.heap k2) (hend : xs[k1]? = none ∨ ys[k2]? = none)
    (hQ : ∀ h', Kz z TO i1 i2 s.heap h' → Q none { s with heap := h' }) : wpAny (model prog w) A (pyNext (.ref z)) Q E s := by
  have hT : s.TypeIs (.ref z) "zip" := ⟨_, hz, rfl⟩
  unfold pyNext
  refine wpAny_bind (wpAny_attempt (wpAny_callSpecial?_slot (name := Str.ofString "__next__") hT F.slot_zip_next
    (wpAny_call_entry F.slot_zip_next hT F.entry_zip_next (zipN_end hh D n1 n2 hz hTI hTO h1 h2 hend fun h' e hk he => ?_) (F.args_zip_next_1 _))))
  obtain ⟨o, ho, hc⟩ := he
  refine wpAny_bind (wpAny_isInstance (T := "StopIteration") (b := true) ⟨o, ho, hc⟩ isSubtype_stop ?_)
  exact wpAny_pure (hQ _ hk)
end
theorem push5 (h : Heap) (o1 o2 o3 o4 o5 : Obj) (f1 : o1.isFreed = false) (f2 : o2.isFreed = false) (f3 : o3.isFreed = false) (f4 : o4.isFreed = false) (f5 : o5.isFreed = false) :
    (((((h.push o1).push o2).push o3).push o4).push o5).get? h.objs.size = some o1 ∧ (((((h.push o1).push o2).push o3).push o4).push o5).get? (h.objs.size + 1) = some o2 ∧ (((((h.push o1).push o2).push o3).push o4).push o5).get? (h.objs.size + 2) = some o3 ∧
    (((((h.push o1).push o2).push o3).push o4).push o5).get? (h.objs.size + 3) = some o4 ∧ (((((h.push o1).push o2).push o3).push o4).push o5).get? (h.objs.size + 4) = some o5 ∧ (((((h.push o1).push o2).push o3).push o4).push o5).objs.size = h.objs.size + 5 ∧
    ∀ c o, h.get? c = some o → (((((h.push o1).push o2).push o3).push o4).push o5).get? c = some o := by
  have z1 : (h.push o1).objs.size = h.objs.size + 1 := Heap.size_push ..
  have z2 : ((h.push o1).push o2).objs.size = h.objs.size + 2 := by rw [Heap.size_push, z1]
  have z3 : (((h.push o1).push o2).push o3).objs.size = h.objs.size + 3 := by rw [Heap.size_push, z2]
  have z4 : ((((h.push o1).push o2).push o3).push o4).objs.size = h.objs.size + 4 := by rw [Heap.size_push, z3]
  have u {h' : Heap} {c : Addr} {q : Obj} (o : Obj) (e : h'.get? c = some q) : (h'.push o).get? c = some q := Heap.get?_push_of_some _ e
  refine ⟨u _ (u _ (u _ (u _ (Heap.get?_push_size _ f1)))), ?_, ?_, ?_, ?_, by rw [Heap.size_push, z4], fun c o e => u _ (u _ (u _ (u _ (u _ e))))⟩
  · rw [← z1]; exact u _ (u _ (u _ (Heap.get?_push_size _ f2)))
  · rw [← z2]; exact u _ (u _ (Heap.get?_push_size _ f3))
  · rw [← z3]; exact u _ (Heap.get?_push_size _ f4)
  · rw [← z4]; exact Heap.get?_push_size _ f5
/-- zip(a tuple, a list), as it is made -/
theorem meets_zipTL (l1 l2 : Addr) (xs ys : Array Value) :
    Meets (Builtin.«zip.__new__» ⟨[.type "zip", .ref l1, .ref l2], []⟩) (fun _ R s => s.heap.IsTuple l1 xs ∧ s.heap.IsList l2 ys ∧
      ∀ h', IsZip h' (s.heap.objs.size + 4) (s.heap.objs.size + 2) (s.heap.objs.size + 3) .none → IsPair h' (s.heap.objs.size + 2) (.ref s.heap.objs.size) (.ref (s.heap.objs.size + 1)) →
      IsPair h' (s.heap.objs.size + 3) .none .none → h'.IsTupleIter s.heap.objs.size l1 0 → h'.IsListIter (s.heap.objs.size + 1) l2 0 → h'.objs.size = s.heap.objs.size + 5 →
      (∀ c o, s.heap.get? c = some o → h'.get? c = some o) → R (.ok (.ret (.ref (s.heap.objs.size + 4)))) { s with heap := h' }) :=
  .of_wp fun prog w A R s h => by
    obtain ⟨hp, g, d, tk, os⟩ := s; obtain ⟨hl1, hl2, h⟩ := h
    have hsub := sub_zip
    have hL1 : Heap.IsTuple (Shared.heap ⟨hp, g, d, tk, os⟩) l1 xs := hl1
    have hL2 : Heap.IsList (Shared.heap ⟨hp.push { cls := .type "tuple_iterator", data := .fields #[.ref l1, .int 0 0] }, g, d, tk, os⟩) l2 ys := Heap.IsList.push hl2 _
    wp_walk using wpAny_pyIter_tuple hL1, wpAny_pyIter_list hL2
    refine ⟨_, rfl, ?_⟩
    have q1 : ∀ (h0 : Heap) (o : Obj), (h0.push o).objs.size = h0.objs.size + 1 := fun h0 o => Heap.size_push ..
    simp only [q1] at h ⊢
    have P := push5 hp { cls := Value.type "tuple_iterator", data := Data.fields #[Value.ref l1, Value.int 0 0] } { cls := Value.type "list_iterator", data := Data.fields #[Value.ref l2, Value.int 0 0] } { cls := .type "tuple", data := .seq #[.ref hp.objs.size, .ref (hp.objs.size + 1)] } { cls := .type "tuple", data := .seq #[.none, .none] } { cls := .type "zip", data := .fields #[.none, .bool false, .bool false, .ref (hp.objs.size + 2), .ref (hp.objs.size + 3)] } rfl rfl rfl rfl rfl
    obtain ⟨p1, p2, p3, p4, p5, p6, p7⟩ := P
    exact h _ p5 p3 p4 ⟨_, p1, rfl, rfl⟩ ⟨_, p2, rfl, rfl⟩ p6 p7
theorem call_zipTL {prog : Program} {w : World} {A : Around} {E : Value → Shared → Prop} {s : Shared} {l1 l2 : Addr} {xs ys : Array Value} {Q : Value → Shared → Prop} (hl1 : s.heap.IsTuple l1 xs) (hl2 : s.heap.IsList l2 ys)
    (h : ∀ h', IsZip h' (s.heap.objs.size + 4) (s.heap.objs.size + 2) (s.heap.objs.size + 3) .none → IsPair h' (s.heap.objs.size + 2) (.ref s.heap.objs.size) (.ref (s.heap.objs.size + 1)) →
      IsPair h' (s.heap.objs.size + 3) .none .none → h'.IsTupleIter s.heap.objs.size l1 0 → h'.IsListIter (s.heap.objs.size + 1) l2 0 → h'.objs.size = s.heap.objs.size + 5 →
      (∀ c o, s.heap.get? c = some o → h'.get? c = some o) → Q (.ref (s.heap.objs.size + 4)) { s with heap := h' }) :
    wpAny (model prog w) A (call (.type "zip") [.ref l1, .ref l2]) Q E s :=
  callType_new F.called_zip (by decide) (F.typeCall_zip_2 _ _) (F.newCall_zip_2 _ _) (fun obj => F.args_object_init_3 obj _ _) F.entry_zip_new
    (meets_zipTL l1 l2 xs ys) ⟨hl1, hl2, fun h' a1 a2 a3 a4 a5 a6 a7 => ⟨⟨_, a1, rfl⟩, h h' a1 a2 a3 a4 a5 a6 a7⟩⟩
end Own

set_option linter.all false
namespace Own
open PySem PySem.Spec PyProof.Rows L2
/-- a tuple at a and a list at b, side by side -/
def ItzM (K : PySem.W.Frag) (a b : Addr) : It :=
  ⟨fun i H => ∃ (xs ys : List V) (x y : V), SqT K H a xs ∧ SqL K H b ys ∧ xs[i]? = some x ∧ ys[i]? = some y,
    fun i H v H' => ∃ T x y, v = .ref T ∧ H T = none ∧ H' = upd H T (.tup [x, y]) ∧ (∀ xs, SqT K H a xs → xs[i]? = some x) ∧ ∀ ys, SqL K H b ys → ys[i]? = some y,
    fun i H => ∃ xs ys : List V, SqT K H a xs ∧ SqL K H b ys ∧ (xs.length ≤ i ∨ ys.length ≤ i)⟩
theorem turn_zipM {P : Program} {w : World} {K : PySem.W.Frag} {elts : List Expr} {kk : Nat} {tpos : Pos} {a b z TI TO i1 i2 : Addr} (D : ZipApart z TI TO i1 i2 a b) :
    Turn P w K (.Tuple elts kk tpos) (ItzM K a b) [z, TI, TO, i1, i2] z (fun i h => IsZip h z TI TO .none ∧ IsPair h TI (.ref i1) (.ref i2) ∧ (∃ x y, IsPair h TO x y) ∧ h.IsTupleIter i1 a i ∧ h.IsListIter i2 b i) where
  mem := List.mem_cons_self
  obj := fun i h st c hc => by
    obtain ⟨hz, hTI, ⟨x, y, hTO⟩, ⟨o1, e1, _, d1⟩, ⟨o2, e2, _, d2⟩⟩ := st
    simp only [List.mem_cons, List.not_mem_nil, or_false] at hc
    rcases hc with rfl | rfl | rfl | rfl | rfl
    · exact ⟨_, hz, fun v q => nomatch q⟩
    · exact ⟨_, hTI, fun v q => nomatch q⟩
    · exact ⟨_, hTO, fun v q => nomatch q⟩
    · exact ⟨o1, e1, fun v q => by rw [d1] at q; cases q⟩
    · exact ⟨o2, e2, fun v q => by rw [d2] at q; cases q⟩
  keep := fun i h h' st k => by
    obtain ⟨hz, hTI, ⟨x, y, hTO⟩, h1, h2⟩ := st
    exact ⟨k z (by simp) _ hz, k TI (by simp) _ hTI, ⟨x, y, k TO (by simp) _ hTO⟩, h1.at fun o q => k i1 (by simp) o q, h2.at fun o q => k i2 (by simp) o q⟩
  item := by
    intro X hP hw hK hc i pins s σ H E I hf st hg
    subst hP hw hK
    obtain ⟨hz, hTI, ⟨x0, y0, hTO⟩, h1, h2⟩ := st
    obtain ⟨xs, ys, x, y, hqx, hqy, hx, hy⟩ := hg
    obtain ⟨us, rv, p, _⟩ := I.tuple hqx
    obtain ⟨us2, rv2, p2, _⟩ := I.list hqy
    obtain ⟨u, hu, ru⟩ := rv.get hx
    obtain ⟨u2, hu2, ru2⟩ := rv2.get hy
    have hzl : z < s.heap.objs.size := Heap.lt_size hz
    refine pyNext_zipN_item D (nxT (its := us.toArray) D.l1i1) (nxL (its := us2.toArray) D.l2i2) hz hTI hTO ⟨h1, p⟩ ⟨h2, p2.isList⟩ (x := u) (y := u2) (by simpa using hu) (by simpa using hu2) fun h' z' TO' h1' h2' hT hsz hk => ?_
    refine ⟨_, rfl, wpAny_letOwnedTupleGo_zip (s := { s with heap := h' }) z' fun h'' z'' sb => ?_⟩
    have hT2 : h''.get? s.heap.objs.size = some { cls := .type "tuple", data := .seq #[u, u2] } := (sb.2 _ (Nat.ne_of_gt hzl)).trans hT
    have new : ObjOk X.prog X.w (upd H s.heap.objs.size (.tup [x, y])) h'' s.heap.objs.size (.tup [x, y]) := ⟨by show 2 ≤ sizeLine; decide, [u, u2], .cons ru (.cons ru2 .nil), ⟨_, hT2, rfl, _, rfl⟩⟩
    have I1 : Inv X pins σ (upd H s.heap.objs.size (.tup [x, y])) { s with heap := h'' } :=
      I.turnedNew (t' := s.toks) (ch := [z, TI, TO, i1, i2]) (fun c o hb q => (sb.2 c (fun q' => hb (by simp [q']))).trans (hk c o (fun q' => hb (by simp [q'])) (fun q' => hb (by simp [q'])) (fun q' => hb (by simp [q'])) (fun q' => hb (by simp [q'])) q)) hf (Nat.le_refl _) new
    refine ⟨.ref s.heap.objs.size, _, I1, rfl, ⟨_, x, y, rfl, I.hok.fresh (Nat.le_refl _), rfl, fun l hl => by rw [I.tuple_inj hl hqx]; exact hx, fun l hl => by rw [I.list_inj hl hqy]; exact hy⟩, ⟨z'', ?_, ⟨u, u2, ?_⟩, ?_, ?_⟩, fun c hcm => ?_⟩
    · exact (sb.2 _ D.TIz).trans (hk _ _ D.TIz D.TITO D.TIi1 D.TIi2 hTI)
    · exact (sb.2 _ D.TOz).trans TO'
    · exact h1'.1.at fun o q => (sb.2 _ D.i1z).trans q
    · exact h2'.1.at fun o q => (sb.2 _ D.i2z).trans q
    · have hlt : c < s.heap.objs.size := by
        simp only [List.mem_cons, List.not_mem_nil, or_false] at hcm
        rcases hcm with rfl | rfl | rfl | rfl | rfl
        · exact hzl
        · exact Heap.lt_size hTI
        · exact Heap.lt_size hTO
        · obtain ⟨_, e1, _⟩ := h1; exact Heap.lt_size e1
        · obtain ⟨_, e2, _⟩ := h2; exact Heap.lt_size e2
      rw [upd_ne (Nat.ne_of_lt hlt)]
      exact (hf c hcm).1
  done := by
    intro X hP hw hK hc i pins s σ H E I hf st hg
    subst hP hw hK
    obtain ⟨hz, hTI, ⟨x0, y0, hTO⟩, h1, h2⟩ := st
    obtain ⟨xs, ys, hqx, hqy, hend⟩ := hg
    obtain ⟨us, rv, p, _⟩ := I.tuple hqx
    obtain ⟨us2, rv2, p2, _⟩ := I.list hqy
    have l1 := rv.length
    have l2 := rv2.length
    have he : us.toArray[i]? = none ∨ us2.toArray[i]? = none := by
      rcases hend with q | q
      · exact .inl (by simp; omega)
      · exact .inr (by simp; omega)
    exact pyNext_zipN_end (I.ok.hd hc) D (nxT (its := us.toArray) D.l1i1) (nxL (its := us2.toArray) D.l2i2) hz hTI hTO ⟨h1, p⟩ ⟨h2, p2.isList⟩ he fun h' hk => ⟨rfl, I.turnedL (t' := s.toks) (ch := [z, TI, TO, i1, i2]) (fun c o hb q =>
      hk c o (fun q' => hb (by simp [q'])) (fun q' => hb (by simp [q'])) (fun q' => hb (by simp [q'])) (fun q' => hb (by simp [q'])) q) hf⟩
  self := fun A i s Q E st h => wpAny_pyIter_zip st.1 h
def iZipM (K : PySem.W.Frag) (ta : TA) : TI := fun σ H R => ta σ H fun vs H1 => ∃ a b xs ys, vs = [.ref a, .ref b] ∧ SqT K H1 a xs ∧ SqL K H1 b ys ∧ R (ItzM K a b) H1
theorem pi_zipM {X : Cx} {e e2 : Expr} {ta : TA} {p pos tpos : Pos} {elts : List Expr} {kk : Nat} (hg : Gl X "zip") (hm : X.mg "zip" = none) (ha : PA X [e, e2] ta)
    (hs : starEach [e, e2] X.env = (false, eval e X.env) :: starEach [e2] X.env := by rfl) (hpl : (backTo pos (starEach [e2] X.env)).any (·.1) = false := by rfl) :
    PI X (.Tuple elts kk tpos) (.Call (.Name "zip" p) [e, e2] [] pos) (iZipM X.K ta) := by
  refine ⟨fun pins s σ H R I h => ?_⟩
  refine Call_ (ld_blt I hg hm PyProof.Rows.boot_zip (PyProof.Rows.callWith_type1 (thn (ha.run pos pins s σ H _ I h) fun us s1 ⟨vs, H1, I1, r1, q1⟩ => ?_) hs hpl))
  obtain ⟨a, b, xs, ys, ex, hqx, hqy, q⟩ := q1
  subst ex
  cases r1 with
  | cons r rr =>
    cases rr with
    | cons r' rr =>
      cases rr
      cases r
      cases r'
      obtain ⟨its, rv, p1, _⟩ := I1.tuple hqx
      obtain ⟨its2, rv2, p2, _⟩ := I1.list hqy
      obtain ⟨o1, ho1, _⟩ := id p1
      refine call_zipTL (show s1.heap.IsTuple a its.toArray from p1) p2.isList fun h' hz hTI hTO h1 h2 hsz hk => wpAny_pyIter_zip hz ?_
      have I2 : Inv X pins σ H1 { s1 with heap := h' } := I1.kept (t' := s1.toks) hk
      refine ⟨s1.heap.objs.size + 4, [s1.heap.objs.size + 4, s1.heap.objs.size + 2, s1.heap.objs.size + 3, s1.heap.objs.size, s1.heap.objs.size + 1], _, _, H1, rfl, I2, turn_zipM (PySem.W.ktu_apart s1.heap.objs.size a b (Heap.lt_size ho1) p2.lt), ⟨hz, hTI, ⟨_, _, hTO⟩, h1, h2⟩, fun c hcm => ?_, q⟩
      have hle : s1.heap.objs.size ≤ c := by
        simp only [List.mem_cons, List.not_mem_nil, or_false] at hcm
        rcases hcm with z | z | z | z | z <;> rw [z] <;> first | exact Nat.le_refl _ | exact Nat.le_add_right _ _
      exact I1.fpOk hle (I1.hok.fresh hle)
theorem go_zipM {K : PySem.W.Frag} {a b : Addr} {xs ys : List V} {H : Hp} {i : Nat} (hl : xs.length = ys.length) (h : i < xs.length) (h1 : SqT K H a xs) (h2 : SqL K H b ys) : (ItzM K a b).go i H ∧ ∀ v H', (ItzM K a b).yld i H v H' → ∃ T x y, v = .ref T ∧ H T = none ∧ H' = upd H T (.tup [x, y]) ∧ xs[i]? = some x ∧ ys[i]? = some y :=
  ⟨⟨xs, ys, _, _, h1, h2, List.getElem?_eq_getElem h, List.getElem?_eq_getElem (hl ▸ h)⟩, fun v H' ⟨T, x, y, e1, hT, e2, f1, f2⟩ => ⟨T, x, y, e1, hT, e2, f1 _ h1, f2 _ h2⟩⟩
end Own

namespace Own
open PySem PySem.Spec PyProof.Rows L2
section
variable {X : Cx}
/-- sum(t) of a tuple of ints -/
def rSumT (K : PySem.W.Frag) : List V → Hp → VK → Prop := fun vs H Q => ∃ (a : Addr) (ns : List Int), vs = [V.ref a] ∧ SqT K H a (ns.map V.int) ∧ Q (.int ns.sum) H
theorem cr_sumT (hc : X.calm = true) : CallR X (.builtin "sum") (rSumT X.K) := by
  intro pins s σ H vs us Q I r h
  obtain ⟨a, ns, rfl, hs, q⟩ := h
  obtain ⟨its, rv, hl, _⟩ := I.tuple hs
  rw [Vals.ref1 r]
  obtain ⟨xs, e⟩ := rv.ints.allInts.items
  have hn : numsOf (intItems xs).toList = ns := by rw [← e]; exact rv.ints.numsOf
  rw [nums_intItems] at hn
  rw [e] at hl
  refine PySem.W.ktm_sumG (I.ok.hd hc) hl fun h' tk t' hk => ?_
  rw [preSum_eq, List.take_of_length_le (by simp), hn]
  exact ⟨.int _, H, I.kept hk, ⟨_, rfl⟩, q⟩
theorem tuple_mul1 (l : Addr) (items : Array Value) (n : Nat) (sl : Array (Option Value)) (dd : Option Addr) (u : Tok) :
    Meets (Builtin.«tuple.__mul__» ⟨[.ref l, .int 1 u], []⟩) (fun _ R s => s.heap.get? l = some { cls := .type "tuple", dict := dd, data := .seq items n, slots := sl } ∧ R (.ok (.ret (Value.ref l))) s) :=
  .of_wp fun prog w A R s h => by
    obtain ⟨hp, g, d, tk, os⟩ := s
    obtain ⟨hl, h⟩ := h
    have f1 := AutoSeq1.idx_int
    wp_walk using wpAny_loadPart' hl
    exact ⟨_, rfl, h⟩
/-- t * k for k at least 1: once is t itself -/
def rRepA (K : PySem.W.Frag) : R2 := fun x y H Q => rRepT K x y H Q ∨ ∃ l xs, x = .ref l ∧ y = .int 1 ∧ SqT K H l xs ∧ xs ≠ [] ∧ Q (.ref l) H
theorem op_repA : OpR X (binaryOp .Mult) (rRepA X.K) := by
  intro pins s σ H x y v u Q I rx ry h
  rcases h with h | ⟨l, xs, rfl, rfl, hT, hne, q⟩
  · exact op_repT pins s σ H x y v u Q I rx ry h
  · cases rx
    obtain ⟨t, rfl⟩ := ry
    obtain ⟨its, r, ⟨⟨cls, dd, data, sl⟩, ho, hc, n, hd⟩, hs⟩ := I.tuple hT
    simp only at hc hd
    subst hc hd
    exact wpAny_binaryOp_repeat_ref (T := "tuple") (U := "int") (by decide) ⟨_, ho, rfl⟩ (fun s' => typeIs_int s' 1 t) noFill_tuple_mul F.fills_int_mul F.slot_int_rmul repeat_tuple F.slot_int_index.lookup
      (call_meets F.slot_int_rmul (typeIs_int s 1 t) F.entry_int_rmul (F.args_int_rmul_2 _ _) (int_rmul_tuple 1 t l its.toArray n dd sl)
        ⟨ho, rfl, ⟨_, ho, rfl⟩, call_meets F.slot_tuple_mul ⟨_, ho, rfl⟩ F.entry_tuple_mul (F.args_tuple_mul_2 _ _) (tuple_mul1 l its.toArray n sl dd t) ⟨ho, ⟨.ref l, H, I, rfl, q⟩⟩⟩)
/-- what isinstance(x, tuple) says -/
def isT : PyData → Bool
  | .tuple _ => true
  | _ => false
theorem isi_tup {K : PySem.W.Frag} {H : Hp} {v : V} {d : PyData} (hd : Dp K H v d) : ∃ t u : Value, ClsV (.ty "tuple") u ∧ TyX K H v t ∧ PySem.W.kitOne K t u = some (isT d) := by
  cases hd with
  | non => exact ⟨.type "NoneType", .type "tuple", .ty _, .base .non, (show PySem.W.kitOne _ _ _ = some false from kit_ty (by decide +kernel))⟩
  | bl b => exact ⟨.type "bool", .type "tuple", .ty _, .base (.bl b), (show PySem.W.kitOne _ _ _ = some false from kit_ty (by decide +kernel))⟩
  | int n => exact ⟨.type "int", .type "tuple", .ty _, .base (.int n), (show PySem.W.kitOne _ _ _ = some false from kit_ty (by decide +kernel))⟩
  | str z => exact ⟨.type "str", .type "tuple", .ty _, .base (.str z), (show PySem.W.kitOne _ _ _ = some false from kit_ty (by decide +kernel))⟩
  | lst h1 h2 => exact ⟨.type "list", .type "tuple", .ty _, sqL_ty h1, (show PySem.W.kitOne _ _ _ = some false from kit_ty (by decide +kernel))⟩
  | tup h1 h2 => exact ⟨.type "tuple", .type "tuple", .ty _, sqT_ty h1, (show PySem.W.kitOne _ _ _ = some true from kit_ty (by decide +kernel))⟩
def isI : PyData → Bool
  | .int _ => true
  | .bool _ => true
  | _ => false
def isB : PyData → Bool
  | .bool _ => true
  | _ => false
theorem isi_int {K : PySem.W.Frag} {H : Hp} {v : V} {d : PyData} (hd : Dp K H v d) : ∃ t u : Value, ClsV (.ty "int") u ∧ TyX K H v t ∧ PySem.W.kitOne K t u = some (isI d) := by
  cases hd with
  | non => exact ⟨.type "NoneType", .type "int", .ty _, .base .non, (show PySem.W.kitOne _ _ _ = some false from kit_ty (by decide +kernel))⟩
  | bl b => exact ⟨.type "bool", .type "int", .ty _, .base (.bl b), (show PySem.W.kitOne _ _ _ = some true from kit_ty (by decide +kernel))⟩
  | int n => exact ⟨.type "int", .type "int", .ty _, .base (.int n), (show PySem.W.kitOne _ _ _ = some true from kit_ty (by decide +kernel))⟩
  | str z => exact ⟨.type "str", .type "int", .ty _, .base (.str z), (show PySem.W.kitOne _ _ _ = some false from kit_ty (by decide +kernel))⟩
  | lst h1 h2 => exact ⟨.type "list", .type "int", .ty _, sqL_ty h1, (show PySem.W.kitOne _ _ _ = some false from kit_ty (by decide +kernel))⟩
  | tup h1 h2 => exact ⟨.type "tuple", .type "int", .ty _, sqT_ty h1, (show PySem.W.kitOne _ _ _ = some false from kit_ty (by decide +kernel))⟩
theorem isi_bool {K : PySem.W.Frag} {H : Hp} {v : V} {d : PyData} (hd : Dp K H v d) : ∃ t u : Value, ClsV (.ty "bool") u ∧ TyX K H v t ∧ PySem.W.kitOne K t u = some (isB d) := by
  cases hd with
  | non => exact ⟨.type "NoneType", .type "bool", .ty _, .base .non, (show PySem.W.kitOne _ _ _ = some false from kit_ty (by decide +kernel))⟩
  | bl b => exact ⟨.type "bool", .type "bool", .ty _, .base (.bl b), (show PySem.W.kitOne _ _ _ = some true from kit_ty (by decide +kernel))⟩
  | int n => exact ⟨.type "int", .type "bool", .ty _, .base (.int n), (show PySem.W.kitOne _ _ _ = some false from kit_ty (by decide +kernel))⟩
  | str z => exact ⟨.type "str", .type "bool", .ty _, .base (.str z), (show PySem.W.kitOne _ _ _ = some false from kit_ty (by decide +kernel))⟩
  | lst h1 h2 => exact ⟨.type "list", .type "bool", .ty _, sqL_ty h1, (show PySem.W.kitOne _ _ _ = some false from kit_ty (by decide +kernel))⟩
  | tup h1 h2 => exact ⟨.type "tuple", .type "bool", .ty _, sqT_ty h1, (show PySem.W.kitOne _ _ _ = some false from kit_ty (by decide +kernel))⟩
end
end Own

namespace Own
open PySem L2 ClX PySem.HandSPX NdefX
abbrev sCkF : Stmt := topT 20
theorem upd_back {H : Hp} {a : Addr} {o u : HO} (h : H a = some u) : upd (upd H a o) a u = H := by
  funext b
  by_cases e : b = a
  · rw [e, upd_same, h]
  · rw [upd_ne e, upd_ne e]
theorem scCkF : FnScope ["fields", "names", "name"] ["fields", "names"] (defScope sCkF) := ⟨rfl, rfl, rfl, by decide +kernel, rfl, by decide +kernel, by decide +kernel⟩
def fieldsL : List Str := ["belts", "scans", "slips", "words", "stretch"]
/-- the first key that is none of the words -/
def badKey (l : List (Str × V)) (ws : List Str) : Option Str := (l.find? fun q => !wordB (.str q.1) ws).map (·.1)
/-- as ErrOut; the dict at d may be locked -/
def ErrOutB (K : PySem.W.Frag) (d : Addr) (H H' : Hp) (dd : Addr) (cname attr : Str) (dt : PyData) : Prop := (∀ b o, b ≠ d → H b = some o → H' b = some o) ∧ H dd = none ∧ ∃ (fs : List (Str × V)) (y : V), H' dd = some (.xd fs) ∧ fs.lookup ("code" : Str) = some (V.str cname) ∧ fs.lookup attr = some y ∧ Dp K (newr H H') y dt
def spCkFX (K : PySem.W.Frag) (cF : Addr) : Sp := fun vs H Q E => ∃ (d t : Addr) (l : List (Str × V)) (ws : List Str), vs = [.ref d, .ref t] ∧ H d = some (.dK (kwV l)) ∧ KT K t (ws.map V.str) ∧
  (badKey l ws = none → Q .non H) ∧ (∀ z, badKey l ws = some z → ∀ dd H', ErrOutB K d H H' dd "InvalidField" "name" (.str z) → E (.ref cF) (some dd) H')
section
variable {P : Program} {w : World} {K : PySem.W.Frag} {mg : Str → Option Value} {base : Heap}
theorem badKey_at {l : List (Str × V)} {ws : List Str} {i : Nat} {q : Str × V} (hi' : l[i]? = some q) (hp : ∀ (j : Nat) (q' : Str × V), j < i → l[j]? = some q' → wordB (.str q'.1) ws = true) (hb : wordB (.str q.1) ws = false) : badKey l ws = some q.1 := by
  unfold badKey
  have : l.find? (fun q => !wordB (.str q.1) ws) = some q := by
    induction l generalizing i with
    | nil => cases hi'
    | cons e r ih =>
      cases i with
      | zero =>
        cases hi'
        exact List.find?_cons_of_pos (by rw [hb]; rfl)
      | succ i =>
        have h0 := hp 0 e (Nat.succ_pos _) rfl
        rw [List.find?_cons_of_neg (by rw [h0]; simp)]
        exact ih hi' fun j d' hj e' => hp (j + 1) d' (Nat.succ_lt_succ hj) e'
  rw [this]
  rfl
theorem badKey_none {l : List (Str × V)} {ws : List Str} (hp : ∀ (j : Nat) (q' : Str × V), l[j]? = some q' → wordB (.str q'.1) ws = true) : badKey l ws = none := by
  unfold badKey
  have : l.find? (fun q => !wordB (.str q.1) ws) = none := by
    rw [List.find?_eq_none]
    intro q hq
    obtain ⟨j, hj⟩ := List.getElem?_of_mem hq
    rw [hp j q hj]
    simp
  rw [this]
  rfl
theorem ok_ckFX {f cF : Addr} {fd : FuncData} (F : Fun K "check_fields" "check_fields" sCkF f fd) (c : ErrC P w K mg base "InvalidField" "name" cF) : FnOk P w K mg base (L2.CX P w) 6 f fd ["fields", "names"] (spCkFX K cF) := by
  refine F.okX scCkF (fun vs H Q E h => ?_) (fun cdv A outer s H vs Q E hr h => ?_)
  · obtain ⟨d, t, l, ws, rfl, _⟩ := h
    rfl
  · obtain ⟨d, t, l, ws, rfl, hd, ht, k1, k2⟩ := h
    refine ⟨_, pss_one (ps_lock (ps_for (passes_of rfl) rfl (pi_keys (pv 0)) (pg_name (i := 2) scCkF.nd rfl (Or.inl rfl)) (pss_one (ps_if (pt_cmpR op_notIn_seq (pv 2) (pv 1) (by rfl)) (pss_one (ps_raise rfl (takes_of rfl rfl rfl rfl) (pmk_err c hr (by rfl) (pa_cons (pv 2) pa_nil) (fun σ H R R' f ⟨x, h, q⟩ => ⟨x, h, f _ _ q⟩)))) pss_nil)))), ?_⟩
    refine ⟨d, _, hd, trivial, fun od => ?_⟩
    refine ⟨_, rfl, d, od, rfl, .inl ⟨kwV l, upd_same, ?_⟩⟩
    refine for_it walk_keys (fun i σ H' => ∃ v : Option V, σ = [some (.ref d), some (.ref t), v] ∧ H' = upd H d (.frz od (.dK (kwV l))) ∧ ∀ (j : Nat) (q' : Str × V), j < i → l[j]? = some q' → wordB (.str q'.1) ws = true) ⟨_, rfl, rfl, fun j q' hj => absurd hj (Nat.not_lt_zero _)⟩ ?_ ?_ ?_
    · rintro i σ H' _ ⟨v, rfl, rfl, _⟩
      exact upd_same
    · rintro i x σ H' H'' hi ⟨v, rfl, rfl, hp⟩ ⟨rfl, k', v', hk, rfl⟩
      obtain ⟨q, hq, e⟩ : ∃ q, l[i]? = some q ∧ (k', v') = ((Sum.inr q.1 : Key), q.2) := by
        have hk' : (l.map fun q : Str × V => ((Sum.inr q.1 : Key), q.2))[i]? = some (k', v') := hk
        rw [List.getElem?_map] at hk'
        cases e : l[i]? with
        | none => rw [e] at hk'; cases hk'
        | some q => rw [e] at hk'; exact ⟨q, rfl, (Option.some.inj hk').symm⟩
      obtain ⟨rfl, rfl⟩ := Prod.mk.inj e
      refine ⟨_, rfl, _, rfl, t, _, rfl, .inr (.inr ht), rfl, all_flat ws, _, rfl, ?_⟩
      show if (!inV (.str q.1) (ws.map V.str)) = true then _ else _
      rw [str_inV]
      refine ite2 (fun c => ?_) (fun c => ?_)
      · have hb : wordB (.str q.1) ws = false := by simpa using c
        exact ⟨_, rfl, .str q.1, .str q.1, rfl, .str _, .str _, fun dd H' eo => k2 q.1 (badKey_at hq hp hb) dd H' ⟨fun b o hbd hbo => eo.1 b o (by rw [upd_ne hbd]; exact hbo), upd_none eo.2.1, by
          obtain ⟨_, _, fs, y, e3, e4, e5, e6⟩ := eo
          exact ⟨fs, y, e3, e4, e5, dp_same (fun b o q => by
            obtain ⟨q1, q2⟩ := newr_some q
            rw [newr_at (upd_none q1)]
            exact q2) _ _ e6⟩⟩⟩
      · have hb : wordB (.str q.1) ws = true := by simpa using c
        refine ⟨_, rfl, rfl, fun j q' hj hj' => ?_⟩
        rcases Nat.lt_succ_iff_lt_or_eq.mp hj with hj | rfl
        · exact hp j q' hj hj'
        · rw [hq] at hj'
          cases hj'
          exact hb
    · rintro σ H' ⟨v, rfl, rfl, hp⟩
      refine ⟨upd_same, ?_⟩
      show Q .non (upd (upd H d _) d _)
      rw [upd_back hd]
      refine k1 (badKey_none fun j q' hj => hp j q' ?_ hj)
      have h1 := (List.getElem?_eq_some_iff.mp hj).1
      show j < (kwV l).length
      unfold kwV
      rw [List.length_map]
      exact h1
end
end Own

namespace Own
open PySem L2 ClX PySem.HandSPX
abbrev sLC : Stmt := sLG 9
/-- a field's value: the keyword's, or the line's -/
def fv (l : List (Str × V)) (x : Str) (v : V) : V := (valV (kwV l) (Sum.inr x)).getD v
def spChL (K : PySem.W.Frag) (C : Addr) (cA : Nat → Addr) (cF : Addr) : Sp := fun vs H Q E => ∃ (a d dx t tS tW : Addr) (vP vT : V) (l : List (Str × V)), vs = [.ref a, .ref d] ∧ H a = some (.ins C dx (lnf t tS vP tW vT)) ∧ H d = some (.dK (kwV l)) ∧
  ((∃ z, badKey l fieldsL = some z ∧ ∀ dd H', ErrOutB K d H H' dd "InvalidField" "name" (.str z) → E (.ref cF) (some dd) H') ∨
   (badKey l fieldsL = none ∧ ∃ (B aS aW : Addr) (xs xS xW : List V) (ds dS dW : List PyData) (dP dT : PyData), fv l "belts" (.ref t) = .ref B ∧ (SqT K H B xs ∨ SqL K H B xs) ∧ fv l "scans" (.ref tS) = .ref aS ∧ fv l "words" (.ref tW) = .ref aW ∧
    DpAll K H xs ds ∧ xs.length ≤ 1000 ∧ (∀ d ∈ ds, Shal 2 d) ∧ Sq K H aS xS ∧ DpAll K H xS dS ∧ (∀ d ∈ dS, Shal 2 d) ∧ xS.length ≤ sizeLine ∧ Sq K H aW xW ∧ DpAll K H xW dW ∧ (∀ d ∈ dW, Shal 2 d ∧ ∀ es, d ≠ .tuple es) ∧ Dp K H (fv l "slips" vP) dP ∧ Shal 2 dP ∧ Dp K H (fv l "stretch" vT) dT ∧ Shal 2 dT ∧
    (∀ n d, lnErr xs.length ds dS dP dW dT = some (n, d) → ∀ dd H', ErrOut K H H' dd (errN n) "given" d → E (.ref (cA n)) (some dd) H') ∧
    (lnErr xs.length ds dS dP dW dT = none → ∀ (x dx t tS tW : Addr) (ns : List Int) (H' : Hp), H x = none → Same H H' → H' x = some (.ins C dx (lnf t tS (fv l "slips" vP) tW (fv l "stretch" vT))) → ns.Perm (dS.map dInt) → ns.Pairwise (· ≤ ·) → SqT K H' t xs → SqT K H' tS (ns.map V.int) → SqT K H' tW xW → Q (.ref x) H')))
/-- Line.changed as it stands behind the top -/
structure LnCh (K : PySem.W.Frag) (f : Addr) : Prop where
  ex : ∃ (oc : Value) (od : Option Addr) (kV doc pm : Value) (an : Option Addr) (cdv ct : Value) (osl : Array (Option Value)), K.lookup f = some ⟨oc, od, .func (PySem.W.fnOf "changed" "Line.changed" (defArgs sLC) (defBody sLC) (defScope sLC) .none kV doc pm an cdv ct), osl⟩ ∧ PySem.W.codeIn K cdv "Line.changed" = true
  kp : PySem.W.keepIn K (.ref f) = true
section
variable {P : Program} {w : World} {K : PySem.W.Frag} {mg : Str → Option Value} {base : Heap}
abbrev NCh : List Str := ["self", "fields", "belts", "scans", "slips", "words", "stretch"]
theorem scLC : FnScope NCh ["self", "fields"] (defScope sLC) := ⟨rfl, rfl, rfl, by decide +kernel, rfl, by decide +kernel, by decide +kernel⟩
/-- what changed leans on -/
structure ChF (P : Program) (w : World) (K : PySem.W.Frag) (mg : Str → Option Value) (base : Heap) (fI C a0 a1 a2 : Addr) (cA : Nat → Addr) (cF : Addr) : Prop where
  T : LnF K mg C
  M : Mk K C fI
  I : LnInit K fI a0 a1 a2
  c : CkL P w K mg base cA
  F : ∃ f fd, FnOk P w K mg base (L2.CX P w) 6 f fd ["fields", "names"] (spCkFX K cF) ∧ mg "check_fields" = some (.ref f) ∧ PySem.W.keepIn K (.ref f) = true ∧ Binds K fd ["fields", "names"] []
  wf : ∃ t, mg "LINE_FIELDS" = some (.ref t) ∧ KT K t (fieldsL.map V.str)
theorem body_chL {f fI C a0 a1 a2 cF : Addr} {cA : Nat → Addr} {qual : Str} {cdv : Value} {A : Around} {outer : List Env} {s : Shared} {H : Hp} {vs : List V} {Q : VK} {E : XK} (ch : ChF P w K mg base fI C a0 a1 a2 cA cF)
    (hr : Room 9 (A.deeper (PyProof.Rows.envOfC qual (defScope sLC) s.heap.objs.size f cdv))) (h : spChL K C cA cF vs H Q E) :
    ∃ t, PSs (cxOf (L2.CX P w) P w K mg base NCh qual (defScope sLC) f cdv A outer s H E) (defBody sLC) t ∧ t { nx := fun _ H' => Q .non H', rt := Q } (start NCh vs) H := by
  obtain ⟨a, d, dx, t, tS, tW, vP, vT, l, rfl, ha, hd, hh⟩ := h
  obtain ⟨fF, gF, GF, mF, kF, bF⟩ := ch.F
  obtain ⟨tf, mf, kf⟩ := ch.wf
  have T := ch.T
  have nd := scLC.nd
  have hu : (A.deeper (PyProof.Rows.envOfC qual (defScope sLC) s.heap.objs.size f cdv)).units + 1 < cLine := by have := hr.units; omega
  have px : Passes (L2.CX P w) (cxOf (L2.CX P w) P w K mg base NCh qual (defScope sLC) f cdv A outer s H E) E := passes_call (takes_of rfl rfl rfl rfl) (fun _ _ _ _ h => h)
  refine ⟨_, pss_cons (ps_expr (pe_call GF (hr.mono (by decide)) rfl mF kF bF .nil px (pa_cons (pv 1) (pa_cons (pe_glob (v := .ref tf) (by rfl) mf rfl) pa_nil))))
    (pss_cons (ps_set (i := 2) nd rfl (Or.inl rfl) (pe_dget2 hu (pv 1) pe_str (pe_fld (pv 0) rfl) ⟨rfl, rfl, rfl, rfl⟩))
    (pss_cons (ps_set (i := 3) nd rfl (Or.inl rfl) (pe_dget2 hu (pv 1) pe_str (pe_fld (pv 0) rfl) ⟨rfl, rfl, rfl, rfl⟩))
    (pss_cons (ps_set (i := 4) nd rfl (Or.inl rfl) (pe_dget2 hu (pv 1) pe_str (pe_fld (pv 0) rfl) ⟨rfl, rfl, rfl, rfl⟩))
    (pss_cons (ps_set (i := 5) nd rfl (Or.inl rfl) (pe_dget2 hu (pv 1) pe_str (pe_fld (pv 0) rfl) ⟨rfl, rfl, rfl, rfl⟩))
    (pss_cons (ps_set (i := 6) nd rfl (Or.inl rfl) (pe_dget2 hu (pv 1) pe_str (pe_fld (pv 0) rfl) ⟨rfl, rfl, rfl, rfl⟩))
    (pss_one (ps_ret (pe_mkSs ch.M (ln_all1 ch.I T ch.c) hr (by rfl) T.at_ px (pv 2) (pk_cons (pv 3) (pk_cons (pv 4) (pk_cons (pv 5) (pk_cons (pv 6) pk_nil)))))))))))), ?_⟩
  refine ⟨_, rfl, d, tf, l, fieldsL, rfl, hd, kf, fun hb => ?_, fun z hb => ?_⟩
  rotate_left
  · rcases hh with ⟨z', hz', k⟩ | ⟨hn, _⟩
    · rw [hb] at hz'
      cases hz'
      exact k
    · rw [hb] at hn
      cases hn
  rcases hh with ⟨z', hz', _⟩ | ⟨_, B, aS, aW, xs, xS, xW, ds, dS, dW, dP, dT, eB, hB, eS, eW, hds, hl, hsh, hS, hdS, hsS, hzS, hW, hdW, hsW, hP, hsP, hT, hsT, kE, kQ⟩
  · rw [hb] at hz'
    cases hz'
  refine ⟨_, rfl, d, rfl, .inl ⟨_, .inl hd⟩, _, rfl, a, C, dx, _, _, rfl, ha, T.cl, T.n1, rfl, _, DGet.k (k := Sum.inr "belts") hd, ?_⟩
  refine ⟨_, rfl, d, rfl, .inl ⟨_, .inl hd⟩, _, rfl, a, C, dx, _, _, rfl, ha, T.cl, T.n2, rfl, _, DGet.k (k := Sum.inr "scans") hd, ?_⟩
  refine ⟨_, rfl, d, rfl, .inl ⟨_, .inl hd⟩, _, rfl, a, C, dx, _, _, rfl, ha, T.cl, T.n3, rfl, _, DGet.k (k := Sum.inr "slips") hd, ?_⟩
  refine ⟨_, rfl, d, rfl, .inl ⟨_, .inl hd⟩, _, rfl, a, C, dx, _, _, rfl, ha, T.cl, T.n4, rfl, _, DGet.k (k := Sum.inr "words") hd, ?_⟩
  refine ⟨_, rfl, d, rfl, .inl ⟨_, .inl hd⟩, _, rfl, a, C, dx, _, _, rfl, ha, T.cl, T.n5, rfl, _, DGet.k (k := Sum.inr "stretch") hd, ?_⟩
  refine ⟨_, rfl, _, rfl, _, rfl, _, rfl, _, rfl, B, xs, eB, hB, rfl, ?_⟩
  refine ln_end (aS := aS) (aW := aW) (vP := fv l "slips" vP) (vT := fv l "stretch" vT) ?_ hds hl hsh hS hdS hsS hzS hW hdW hsW hP hsP hT hsT kE kQ
  show [fv l "scans" (.ref tS), fv l "slips" vP, fv l "words" (.ref tW), fv l "stretch" vT] = _
  rw [eS, eW]
theorem ch_of {f fI C a0 a1 a2 cF : Addr} {cA : Nat → Addr} {ks : List Str} (I : LnCh K f) (ch : ChF P w K mg base fI C a0 a1 a2 cA cF) (hnd : ks.Nodup) (hsz : ks.length ≤ sizeLine)
    (hb : ∀ (kV doc pm : Value) (an : Option Addr) (cdv ct a : Value) (ws : List Value), ws.length = ks.length → bindArgs (PySem.W.fnOf "changed" "Line.changed" (defArgs sLC) (defBody sLC) (defScope sLC) .none kV doc pm an cdv ct) ⟨[a], ks.zip ws⟩ =
      (alloc ({ cls := .type "dict", data := .dict #[] } : Obj) : Sem Addr) >>= fun d => (forIn (ks.zip ws) PUnit.unit fun x _ => (nsSet d x.1 x.2 >>= fun _ => pure (ForInStep.yield PUnit.unit))) >>= fun _ => pure [(("self" : Str), a), (("fields" : Str), Value.ref d)]) :
    FnKw P w K mg base (L2.CX P w) 10 f ks (spChL K C cA cF) := by
  obtain ⟨oc, od, kV, doc, pm, an, cdv, ct, osl, lk, hcd⟩ := I.ex
  exact fn_kwo (p0 := "self") (pd := "fields") lk hcd scLC StX.cxUp hnd hsz (fun a ws l => hb kV doc pm an cdv ct a ws l)
    (fun A outer s H vs Q E hr h => body_chL ch hr h)
variable {f fI C a0 a1 a2 cF : Addr} {cA : Nat → Addr}
theorem ch_0 (I : LnCh K f) (ch : ChF P w K mg base fI C a0 a1 a2 cA cF) : FnKw P w K mg base (L2.CX P w) 10 f [] (spChL K C cA cF) := ch_of I ch (by decide) (by decide) (fun kV doc pm an cdv ct a ws l => match ws, l with | [], _ => rfl)
theorem ch_belts (I : LnCh K f) (ch : ChF P w K mg base fI C a0 a1 a2 cA cF) : FnKw P w K mg base (L2.CX P w) 10 f ["belts"] (spChL K C cA cF) := ch_of I ch (by decide +kernel) (by show 1 ≤ sizeLine; decide) (fun kV doc pm an cdv ct a ws l => match ws, l with | [_], _ => rfl)
theorem ch_stretch (I : LnCh K f) (ch : ChF P w K mg base fI C a0 a1 a2 cA cF) : FnKw P w K mg base (L2.CX P w) 10 f ["stretch"] (spChL K C cA cF) := ch_of I ch (by decide +kernel) (by show 1 ≤ sizeLine; decide) (fun kV doc pm an cdv ct a ws l => match ws, l with | [_], _ => rfl)
theorem ch_words (I : LnCh K f) (ch : ChF P w K mg base fI C a0 a1 a2 cA cF) : FnKw P w K mg base (L2.CX P w) 10 f ["words"] (spChL K C cA cF) := ch_of I ch (by decide +kernel) (by show 1 ≤ sizeLine; decide) (fun kV doc pm an cdv ct a ws l => match ws, l with | [_], _ => rfl)
theorem ch_slips (I : LnCh K f) (ch : ChF P w K mg base fI C a0 a1 a2 cA cF) : FnKw P w K mg base (L2.CX P w) 10 f ["slips"] (spChL K C cA cF) := ch_of I ch (by decide +kernel) (by show 1 ≤ sizeLine; decide) (fun kV doc pm an cdv ct a ws l => match ws, l with | [_], _ => rfl)
theorem ch_scans (I : LnCh K f) (ch : ChF P w K mg base fI C a0 a1 a2 cA cF) : FnKw P w K mg base (L2.CX P w) 10 f ["scans"] (spChL K C cA cF) := ch_of I ch (by decide +kernel) (by show 1 ≤ sizeLine; decide) (fun kV doc pm an cdv ct a ws l => match ws, l with | [_], _ => rfl)
theorem ch_wt (I : LnCh K f) (ch : ChF P w K mg base fI C a0 a1 a2 cA cF) : FnKw P w K mg base (L2.CX P w) 10 f ["words", "stretch"] (spChL K C cA cF) := ch_of I ch (by decide +kernel) (by show 2 ≤ sizeLine; decide) (fun kV doc pm an cdv ct a ws l => match ws, l with | [_, _], _ => rfl)
theorem ch_sp (I : LnCh K f) (ch : ChF P w K mg base fI C a0 a1 a2 cA cF) : FnKw P w K mg base (L2.CX P w) 10 f ["scans", "slips"] (spChL K C cA cF) := ch_of I ch (by decide +kernel) (by show 2 ≤ sizeLine; decide) (fun kV doc pm an cdv ct a ws l => match ws, l with | [_, _], _ => rfl)
theorem ch_rb (I : LnCh K f) (ch : ChF P w K mg base fI C a0 a1 a2 cA cF) : FnKw P w K mg base (L2.CX P w) 10 f ["rooms", "belts"] (spChL K C cA cF) := ch_of I ch (by decide +kernel) (by show 2 ≤ sizeLine; decide) (fun kV doc pm an cdv ct a ws l => match ws, l with | [_, _], _ => rfl)
theorem ch_pk (I : LnCh K f) (ch : ChF P w K mg base fI C a0 a1 a2 cA cF) : FnKw P w K mg base (L2.CX P w) 10 f ["slips", "seek"] (spChL K C cA cF) := ch_of I ch (by decide +kernel) (by show 2 ≤ sizeLine; decide) (fun kV doc pm an cdv ct a ws l => match ws, l with | [_, _], _ => rfl)
theorem ch_tw (I : LnCh K f) (ch : ChF P w K mg base fI C a0 a1 a2 cA cF) : FnKw P w K mg base (L2.CX P w) 10 f ["stretch", "words"] (spChL K C cA cF) := ch_of I ch (by decide +kernel) (by show 2 ≤ sizeLine; decide) (fun kV doc pm an cdv ct a ws l => match ws, l with | [_, _], _ => rfl)
/-- changed(..) of good values -/
theorem ch_make {H : Hp} {a d dx t tS tP tW B aS aP aW : Addr} {st : Option Int} {kw : List (Str × V)} {l : LnD} {Q : VK} {E : XK} (ha : H a = some (.ins C dx (lnf t tS (.ref tP) tW (optV st)))) (hd : H d = some (.dK (kwV kw))) (hb : badKey kw fieldsL = none) (ok : LnOk l)
    (eB : fv kw "belts" (.ref t) = .ref B) (hB : SqT K H B (l.belts.map V.int) ∨ SqL K H B (l.belts.map V.int)) (eS : fv kw "scans" (.ref tS) = .ref aS) (hS : Sq K H aS (l.scans.map V.int)) (eP : fv kw "slips" (.ref tP) = .ref aP) (hP : SqT K H aP [.int l.most, .int l.among])
    (eW : fv kw "words" (.ref tW) = .ref aW) (hW : Sq K H aW (l.words.map V.str)) (eT : fv kw "stretch" (optV st) = optV l.stretch)
    (k : ∀ (x : Addr) (H' : Hp) (ss : List Int), H x = none → Same H H' → ss.Perm l.scans → ss.Pairwise (· ≤ ·) → LnAt K C H' x { l with scans := ss } → Q (.ref x) H') : spChL K C cA cF [.ref a, .ref d] H Q E := by
  have n3 := ok.n3
  have sl := ok.sl
  have len : (l.belts.map V.int).length = l.belts.length := List.length_map _
  refine ⟨a, d, dx, t, tS, tW, .ref tP, optV st, kw, rfl, ha, hd, .inr ⟨hb, B, aS, aW, _, _, _, intD l.belts, intD l.scans, strD l.words, .tuple [.int l.most, .int l.among], optD l.stretch, eB, hB, eS, eW, dpI _, by rw [len]; omega, shI, hS, dpI _, shI, by rw [List.length_map]; exact Nat.le_trans sl (by decide), hW, dpS _, strD_sh, ?_, slips_sh, ?_, shO _, fun n d e => ?_, fun _ x dx t' tS tW ns H' hx sm hxf pm sr hT hS hW => ?_⟩⟩
  · rw [eP]; exact .tup hP (.cons (.int _) (.cons (.int _) .nil))
  · rw [eT]; exact dpO _
  · rw [len, lnErr_good ok] at e
    cases e
  · rw [map_dInt] at pm
    rw [eP, eT] at hxf
    exact k x H' ns hx sm pm sr ⟨⟨dx, t', tS, aP, tW, hxf, hT, hS, sqT_same hP sm, hW⟩, lnOk_perm ok pm⟩
theorem fv_nil {x : Str} {d : V} : fv [] x d = d := rfl
theorem fv_hit {x : Str} {v d : V} {l : List (Str × V)} : fv ((x, v) :: l) x d = v := by
  unfold fv kwV
  rw [List.map_cons, valV_pos rfl]
  rfl
theorem fv_miss {x y : Str} {v d : V} {l : List (Str × V)} (h : ¬ y = x) : fv ((y, v) :: l) x d = fv l x d := by
  unfold fv kwV
  rw [List.map_cons, valV_neg (fun z => h (Sum.inr.inj z))]
/-- a.changed(..) of good values; what isn't given stays -/
theorem ch_go {H : Hp} {a p : Addr} {kw : List (Str × V)} {l0 l : LnD} {Q : VK} {E : XK} (la : LnAt K C H a l0) (hp : H p = none) (hb : badKey kw fieldsL = none) (ok : LnOk l)
    (hB : (l.belts = l0.belts ∧ ∀ v, fv kw "belts" v = v) ∨ ∃ B, (∀ v, fv kw "belts" v = .ref B) ∧ (SqT K H B (l.belts.map V.int) ∨ SqL K H B (l.belts.map V.int)))
    (hS : (l.scans = l0.scans ∧ ∀ v, fv kw "scans" v = v) ∨ ∃ B, (∀ v, fv kw "scans" v = .ref B) ∧ Sq K H B (l.scans.map V.int))
    (hP : (l.most = l0.most ∧ l.among = l0.among ∧ ∀ v, fv kw "slips" v = v) ∨ ∃ B, (∀ v, fv kw "slips" v = .ref B) ∧ SqT K H B [.int l.most, .int l.among])
    (hW : (l.words = l0.words ∧ ∀ v, fv kw "words" v = v) ∨ ∃ B, (∀ v, fv kw "words" v = .ref B) ∧ Sq K H B (l.words.map V.str))
    (hT : (l.stretch = l0.stretch ∧ ∀ v, fv kw "stretch" v = v) ∨ ∀ v, fv kw "stretch" v = optV l.stretch)
    (k : ∀ (x : Addr) (H' : Hp) (ss : List Int), H x = none → Same H H' → ss.Perm l.scans → ss.Pairwise (· ≤ ·) → LnAt K C H' x { l with scans := ss } → Q (.ref x) H') : spChL K C cA cF [.ref a, .ref p] (upd H p (.dK (kwV kw))) Q E := by
  have sm : Same H (upd H p (.dK (kwV kw))) := (Same.refl _).new hp
  obtain ⟨⟨dx, t, tS, tP, tW, ha, hT0, hS0, hP0, hW0⟩, _⟩ := la
  obtain ⟨B, eB, sB⟩ : ∃ B, fv kw "belts" (.ref t) = .ref B ∧ (SqT K (upd H p (.dK (kwV kw))) B (l.belts.map V.int) ∨ SqL K (upd H p (.dK (kwV kw))) B (l.belts.map V.int)) := by
    rcases hB with ⟨e, f⟩ | ⟨B, f, h | h⟩
    · exact ⟨t, f _, .inl (by rw [e]; exact sqT_same hT0 sm)⟩
    · exact ⟨B, f _, .inl (sqT_same h sm)⟩
    · exact ⟨B, f _, .inr (seqs_l (Seqs.of sm) h)⟩
  obtain ⟨aS, eS, sS⟩ : ∃ B, fv kw "scans" (.ref tS) = .ref B ∧ Sq K (upd H p (.dK (kwV kw))) B (l.scans.map V.int) := by
    rcases hS with ⟨e, f⟩ | ⟨B, f, h⟩
    · exact ⟨tS, f _, .inr (by rw [e]; exact sqT_same hS0 sm)⟩
    · exact ⟨B, f _, sq_seqs (Seqs.of sm) h⟩
  obtain ⟨aP, eP, sP⟩ : ∃ B, fv kw "slips" (.ref tP) = .ref B ∧ SqT K (upd H p (.dK (kwV kw))) B [.int l.most, .int l.among] := by
    rcases hP with ⟨e, e2, f⟩ | ⟨B, f, h⟩
    · exact ⟨tP, f _, by rw [e, e2]; exact sqT_same hP0 sm⟩
    · exact ⟨B, f _, sqT_same h sm⟩
  obtain ⟨aW, eW, sW⟩ : ∃ B, fv kw "words" (.ref tW) = .ref B ∧ Sq K (upd H p (.dK (kwV kw))) B (l.words.map V.str) := by
    rcases hW with ⟨e, f⟩ | ⟨B, f, h⟩
    · exact ⟨tW, f _, .inr (by rw [e]; exact sqT_same hW0 sm)⟩
    · exact ⟨B, f _, sq_seqs (Seqs.of sm) h⟩
  have eT : fv kw "stretch" (optV l0.stretch) = optV l.stretch := by
    rcases hT with ⟨e, f⟩ | f
    · rw [f, e]
    · exact f _
  exact ch_make (sm _ _ ha) upd_same hb ok eB sB eS sS eP sP eW sW eT fun x H' ss nx s2 pm sr la' => k x H' ss (sm.free nx) (sm.trans s2) pm sr la'
end
end Own

namespace Own
open PySem L2 ClX PySem.Spec PyProof.Rows
/-! ### o.m(**d): d a dict with one key, a text -/
def dict0 : Obj := { cls := .type "dict", data := .dict #[] }
section
variable {prog : Program} {w : World} {A : Around} {E : Value → Shared → Prop}
theorem dk_one {P : Program} {w : World} {h : Heap} {a : Addr} {vs : List (Key × Value)} {k : Str} {v : V} (r : KV [(Sum.inr k, v)] vs) (d : h.DictOf (mixKind P w) a vs) : ∃ (o : Obj) (e : DictEntry) (n : Nat) (t : Tok), h.get? a = some o ∧ o.ExactDict ∧ o.data = .dict #[e] n ∧ e.key = .str k t ∧ RelV v e.val := by
  cases r with
  | cons hd tl =>
    cases tl
    rename_i kv
    obtain ⟨ek, rv⟩ := hd
    obtain ⟨o, es, ep, ho, hx, hdat, hk, hp, hnd⟩ := d
    obtain ⟨l⟩ := es
    cases hp with
    | cons h1 h2 h3 =>
      cases h3
      rename_i e
      have h1 : keyIs kv.1 e.key = true := h1
      rw [← show (Sum.inr k : Key) = kv.1 from ek] at h1
      rcases keyIs_shape h1 with ⟨i, t, ek', ev⟩ | ⟨z, t, ek', ev⟩
      · cases ek'
      · cases ek'
        exact ⟨o, e, ep, t, ho, hx, hdat, ev, by rw [h2]; exact rv⟩
theorem merge_one {s : Shared} {d a : Addr} {oa : Obj} {e : DictEntry} {n : Nat} {k : Str} {t : Tok} {Q : Unit → Shared → Prop} (hd : s.heap.get? d = some dict0) (ha : s.heap.get? a = some oa) (hx : oa.ExactDict) (hda : oa.data = .dict #[e] n) (hk : e.key = .str k t) (hda' : a ≠ d) (hs : (a == sysModules) = false)
    (h : ∀ h' : Heap, (∃ o n', h'.get? d = some o ∧ o.data = .dict #[e] n') → (∀ b u, b ≠ d → s.heap.get? b = some u → h'.get? b = some u) → Q () { s with heap := h' }) : wpAny (model prog w) A (mergeMapping d (.ref a) true) Q E s := by
  unfold mergeMapping
  have hT : s.TypeIs (.ref a) "dict" := ⟨oa, ha, hx.1⟩
  refine wpAny_bind (wpAny_isInstance hT isSubtype_dict_dict ?_)
  simp only [if_true]
  refine wpAny_bind (wpAny_specialOf hT F.slot_dict_iter.lookup (wpAny_bind (wpAny_pure ?_)))
  rw [beq_self_eq_true]
  dsimp only
  rw [hs, if_neg Bool.false_ne_true]
  refine wpAny_bind (wpAny_dictEntries hd rfl ?_)
  rw [if_pos (show (#[] : Array DictEntry).isEmpty = true from rfl)]
  refine wpAny_bind (wpAny_dictEntries ha hda ?_)
  obtain ⟨hsh, key, val⟩ := e
  have hk : key = .str k t := hk
  subst hk
  have o1 : ∀ {β : Type} (x : DictEntry) (b : β) (g : DictEntry → β → Sem (ForInStep β)), (forIn #[x] b g : Sem β) = (g x b >>= fun r => match r with | .done y => pure y | .yield y => pure y) := fun x b g => by
    rw [← Array.forIn_toList]
    show forIn [x] b g = _
    rw [List.forIn_cons]
    congr 1
  have o2 : ∀ {β : Type} (b : β) (g : Nat → β → Sem (ForInStep β)), (forIn (List.range (#[(⟨hsh, .str k t, val⟩ : DictEntry)].size)) b g : Sem β) = (g 0 b >>= fun r => match r with | .done y => pure y | .yield y => pure y) := fun b g => by
    show forIn [0] b g = _
    rw [List.forIn_cons]
    congr 1
  rw [o1]
  dsimp only
  refine wpAny_bind (wpAny_bind (wpAny_pure (wpAny_pure ?_)))
  refine wpAny_bind (wpAny_dictEntries ha hda ?_)
  refine wpAny_bind (wpAny_dictEpoch ha hda ?_)
  rw [o2]
  refine wpAny_bind (wpAny_bind (wpAny_bind (wpAny_dictEntries ha hda ?_)))
  have e0 : (#[(⟨hsh, .str k t, val⟩ : DictEntry)] : Array DictEntry)[0]? = some ⟨hsh, .str k t, val⟩ := rfl
  rw [e0]
  dsimp only
  have hfind : ∀ {Q1 : Option Nat → Shared → Prop}, Q1 none s → wpAny (model prog w) A (dictFind d (.str k t) hsh) Q1 E s := fun q => KTD.kt_dictFind_strs hd rfl (by simp) (by simpa using q)
  refine wpAny_bind (wpAny_holding (wpAny_bind (hfind ?_)))
  rw [if_neg (by exact fun z => nomatch z)]
  unfold dictPut
  refine wpAny_bind (hfind ?_)
  dsimp only
  refine wpAny_updateDictKeys hd rfl ?_ (by show 0 ≤ sizeLine; exact Nat.zero_le _) (by show 1 ≤ 0 + 1; decide)
  have gd : (s.heap.update d (Obj.mapDictKeys fun x => x.push ⟨hsh, .str k t, val⟩)).get? d = some (dict0.mapDictKeys fun x => x.push ⟨hsh, .str k t, val⟩) := Heap.get?_update_self _ hd rfl
  have go : ∀ b u, b ≠ d → s.heap.get? b = some u → (s.heap.update d (Obj.mapDictKeys fun x => x.push ⟨hsh, .str k t, val⟩)).get? b = some u := fun b u hb q => (Heap.get?_update_other _ _ (Ne.symm hb)).trans q
  refine wpAny_bind (wpAny_dictEpoch (go a oa hda' ha) hda ?_)
  rw [if_neg (by simp)]
  exact wpAny_pure (wpAny_pure (wpAny_pure (h _ ⟨_, _, gd, rfl⟩ go)))
theorem kd_args {f : Value} {x : Sem Value} {s : Shared} {Q : Args → Shared → Prop}
    (hx : wpAny (model prog w) A x (fun m s1 => ∃ (a : Addr) (oa : Obj) (e : DictEntry) (n : Nat) (k : Str) (t : Tok), m = .ref a ∧ s1.heap.get? s.heap.objs.size = some dict0 ∧ s1.heap.get? a = some oa ∧ oa.ExactDict ∧ oa.data = .dict #[e] n ∧ e.key = .str k t ∧ a ≠ s.heap.objs.size ∧ (a == sysModules) = false ∧
      ∀ h' : Heap, (∀ b u, b ≠ s.heap.objs.size → s1.heap.get? b = some u → h'.get? b = some u) → (∃ u, h'.get? s.heap.objs.size = some u) → Q ⟨[], [(k, e.val)]⟩ { s1 with heap := h' }) E { s with heap := s.heap.push dict0 }) : wpAny (model prog w) A (evalArgs f true [] [(none, x)]) Q E s := by
  unfold evalArgs
  refine wpAny_bind ?_
  show wpAny (model prog w) A (pure [] : Sem (List Value)) _ E s
  refine wpAny_pure (wpAny_bind (wpAny_pure ?_))
  dsimp only
  refine wpAny_holding ?_
  rw [if_neg (by exact fun z => nomatch z)]
  refine wpAny_bind ?_
  unfold mergedKeywords
  refine wpAny_bind (wpAny_alloc (wpAny_bind (wpAny_holding ?_)))
  dsimp only
  rw [List.forIn_cons]
  refine wpAny_bind (wpAny_bind ?_)
  rw [if_pos (show ([] : List (Str × Sem Value)).isEmpty = true from rfl)]
  dsimp only
  refine wpAny_bind (wpAny_pure (wpAny_bind (wpAny_mono hx (fun m s1 hm => ?_) fun _ _ z => z)))
  obtain ⟨a, oa, e, n, k, t, rfl, hd, ha, hX, hda, hk, had, hs, hq⟩ := hm
  refine wpAny_bind (wpAny_onRaise ?_)
  refine wpAny_holding ?_
  refine wpAny_tryCatch ?_
  refine wpAny_onRaise (merge_one hd ha hX hda hk had hs fun h' ⟨o, n', g1, g2⟩ kp => ?_)
  refine wpAny_pure ?_
  dsimp only
  rw [List.forIn_nil]
  refine wpAny_pure ?_
  rw [if_pos (show ([] : List (Str × Sem Value)).isEmpty = true from rfl)]
  refine wpAny_pure (wpAny_pure (wpAny_bind (wpAny_pure (wpAny_bind (wpAny_holding ?_)))))
  unfold keywordsIn
  refine wpAny_bind (wpAny_dictEntries g1 g2 ?_)
  obtain ⟨hsh, key, val⟩ := e
  have hk : key = .str k t := hk
  subst hk
  refine wpAny_bind ?_
  rw [← Array.forIn_toList]
  show wpAny _ _ (forIn [(⟨hsh, .str k t, val⟩ : DictEntry)] _ _) _ _ _
  rw [List.forIn_cons]
  refine wpAny_bind (wpAny_pure ?_)
  dsimp only
  rw [List.forIn_nil]
  exact wpAny_pure (wpAny_pure (wpAny_pure (hq h' kp ⟨_, g1⟩)))
end
theorem callWith_kd {M : Model} {A : Around} {E : Value → Shared → Prop} {s : Shared} {P : Heap → Prop} {f : Value} {first : List Value} {pos : Pos} {Q : Value → Shared → Prop} {x : Sem Value} (hk : ∀ h, P h → ∃ k, (k = Keeper.frame ∨ k = Keeper.machine ∨ k = Keeper.boundFrame) ∧ PySem.W.Looks M h (keeperOf f) k)
    (h : wpAny M A (evalArgs f true [] [(none, x)]) (fun a s₁ => P s₁.heap ∧ wpAny M A (call f (first ++ a.pos) a.kw) Q E s₁) E s) : wpAny M A (callWith pos f first [] [(none, x)]) Q E s := by
  unfold callWith
  refine wpAny_bind (wpAny_holding (wpAny_mono h (fun a s₁ h₁ => wpAny_bind (wpAny_standAt ?_)) fun _ _ x => x))
  obtain ⟨k, hk', L⟩ := hk _ h₁.1
  have hst : (([] : List (Bool × Sem Value)).any (·.1) || [((none : Option Str), x)].any (·.1.isNone)) = true := rfl
  simp only [hst]
  refine wpAny_bind (L.here ?_)
  have tail : ∀ {t : Sem Value}, wpAny M A t Q E s₁ → wpAny M A (t >>= fun r => holding [r] point >>= fun _ => pure r) Q E s₁ :=
    fun ht => wpAny_bind (wpAny_mono ht (fun r s₂ hr => wpAny_bind (wpAny_holding (wpAny_point (wpAny_pure hr)))) fun _ _ x => x)
  have marked (mk : Value) : wpAny M A (callMarked mk f (first ++ a.pos) a.kw) Q E s₁ := by unfold callMarked; exact Calls.wpAny_keep h₁.2
  rcases hk' with rfl | rfl | rfl <;> dsimp only <;> first | exact tail (marked _) | exact tail (wpAny_operating h₁.2)
/-- o.m(**d): the attribute's value, then the call -/
theorem kdcall_of {M : Model} {A : Around} {E : Value → Shared → Prop} {s : Shared} {env : PySem.Env} {o e : Expr} {m : Str} {p apos pos : Pos} {Q : Value → Shared → Prop} (hbase : attributeBase o m env (eval o env) = eval o env)
    (h : wpAny M A (eval o env) (fun ov s₁ => wpAny M A (getAttr ov m true) (fun f s₂ => wpAny M A (callWith pos f [] [] [(none, (do let v ← eval e env; standAt pos; pure v))]) Q E s₂) E s₁) E s) :
    wpAny M A (eval (.Call (.Attribute o m apos) [] [⟨none, e, p⟩] pos) env) Q E s := by
  have hform : methodCallForm (([] : List Expr).length + [(⟨none, e, p⟩ : Keyword)].length) (backTo pos (starEach [] env)) (backToKw pos (keywordEach [⟨none, e, p⟩] env)) = false := rfl
  have hpos : methodCallPos false o env apos pos = pure pos := rfl
  have hcal : ∀ ov, calleeOf false o env ov m = (getAttr ov m true >>= fun v => pure (v, [])) := fun _ => rfl
  rw [arm_eval_Call, hbase]
  refine wpAny_bind (wpAny_mono h (fun ov s₁ h₁ => ?_) fun _ _ x => x)
  refine wpAny_bind (wpAny_standAt ?_)
  unfold methodCall
  rw [hform, hpos, hcal]
  refine wpAny_bind (wpAny_holding (wpAny_bind (wpAny_mono h₁ (fun f s₂ h₂ => wpAny_pure ?_) fun _ _ x => x)))
  exact wpAny_bind (wpAny_pure h₂)
/-- o.m(**d) of an instance of C, d a dict with one key of these -/
def tMethKd (C : Addr) (m : Str) (g : Addr) (ks : List Str) (sp : Sp) (E : XK) (ta te : TE) : TE := fun σ H Q => ta σ H fun x H1 => ∃ a dx fs, x = .ref a ∧ H1 a = some (.ins C dx fs) ∧ fs.lookup m = none ∧
  ∀ q, H1 q = none → te σ (upd H1 q (.met g a)) fun y H2 => ∃ (D : Addr) (k : Str) (v : V), y = .ref D ∧ H2 D = some (.dK [(Sum.inr k, v)]) ∧ k ∈ ks ∧ H2 q = some (.met g a) ∧ ∀ p, H2 p = none → sp [.ref a, .ref p] (upd H2 p (.dK (kwV [(k, v)]))) Q E
section
variable {X : Cx} {CX : CXT} {k : Nat} {f C : Addr} {ks : List Str} {sp : Sp} {E : XK} {m : Str} {o ev : Expr} {ta te : TE} {p pos apos : Pos}
theorem pe_methKd (c : Cls X.K C) (b : BMeth X.K C m f) (F : ∀ x ∈ ks, FnKw X.prog X.w X.K X.mg X.base CX k f [x] sp) (hr : Room k X.A) (hx : Passes CX X E) (ho : PE X o ta) (hv : PE X ev te) (hbase : attributeBase o m X.env (eval o X.env) = eval o X.env := by rfl) :
    PE X (.Call (.Attribute o m apos) [] [⟨none, ev, p⟩] pos) (tMethKd C m f ks sp E ta te) := by
  refine ⟨fun pins s σ H Q I h => ?_⟩
  refine kdcall_of hbase (thn (ho.run pins s σ H _ I h) fun u s0 ⟨x, H0, I0, rx, a, dx, fs, ex, hi, hl, q⟩ => ?_)
  subst ex
  obtain rfl : u = Value.ref a := rx
  refine getbound_ok I0 hi c b hl fun qm s1 hq1 I1 => ?_
  have q := q qm hq1
  generalize upd H0 qm (.met f a) = H1 at I1 q
  have I1p : Inv X ((s1.heap.objs.size, dict0) :: pins) σ H1 { s1 with heap := s1.heap.push dict0 } := by
    refine (I1.kept (t' := s1.toks) (h' := s1.heap.push dict0) fun b u q => Heap.get?_push_of_some _ q).pins_of fun q hq => ?_
    rcases List.mem_cons.mp hq with rfl | hq
    · exact ⟨Heap.get?_push_size _ rfl, I1.hok.fresh (Nat.le_refl _), Nat.ne_of_gt I1.lt, I1.nofs (Nat.le_refl _), fun v z => nomatch z⟩
    · obtain ⟨q1, q2⟩ := I1.pin q (List.mem_append_right _ hq)
      exact ⟨Heap.get?_push_of_some _ q1, q2⟩
  refine callWith_kd (P := PySem.W.MethP X.K qm f (.ref a)) (PySem.W.keeps_M b.fi) (kd_args (wpAny_bind (wpAny_mono (hv.run _ _ σ H1 _ I1p q) (fun v s2 ⟨y, H2, I2, ry, D, k', v0, ey, hD, hk, hmt, q2⟩ => wpAny_bind (wpAny_standAt (wpAny_pure ?_))) fun _ _ z => z)))
  subst ey
  obtain rfl : v = Value.ref D := ry
  obtain ⟨z, y, vs, r, dd⟩ := (show ObjOk X.prog X.w H2 s2.heap D (.dK [(Sum.inr k', v0)]) from I2.hok D _ hD)
  obtain ⟨o', e', n', t', g1, g2, g3, g4, g5⟩ := dk_one r dd
  have hpin := I2.pin (s1.heap.objs.size, dict0) (List.mem_append_right _ (.head _))
  refine ⟨D, o', e', n', k', t', rfl, hpin.1, g1, g2, g3, g4, fun z => ?_, y, fun h' kp2 ⟨u, hu⟩ => ?_⟩
  · rw [← z, hD] at hpin
    exact nomatch hpin.2.1
  have I3 : Inv X pins σ H2 { s2 with heap := h' } := by
    refine (I2.pins_of (pins' := pins) fun q hq => I2.pin q (List.mem_append_right _ (.tail _ hq))).turned (it := s1.heap.objs.size) kp2 hpin.2.1 hpin.2.2.1 (.inr I1.sz) (fun x c e z => ?_) (fun q hq z => ?_)
    · obtain ⟨v, ob, h1, h2⟩ := I2.cell x c e
      rw [z, hpin.1] at h1
      cases h1
      cases h2
    · have h1 := (I1.pin q hq).1
      rw [z] at h1
      exact absurd (Heap.lt_size h1) (Nat.lt_irrefl _)
  refine ⟨met_P I3 hmt, wpAny_call (PySem.W.method_call (met_P I3 hmt).1 (codeAny_mono (F k' hk X.A X.stack { s2 with heap := h' } H2 (.ref a) (.ref a) [e'.val] [v0] Q E hr I3.env0 rfl (.cons g5 .nil) rfl fun p hp => q2 p hp) fun r s' hq => ?_))⟩
  cases r with
  | error er => exact hx pins σ H2 _ er s' I3 hq
  | ok fl =>
    cases fl with
    | ret u => exact I3.after hq
    | next => exact False.elim hq
    | brk => exact False.elim hq
    | cont => exact False.elim hq
end
end Own

set_option linter.all false
/-! enumerate of a tuple -/
namespace Own
open PySem PySem.Spec PyProof.Rows L2
open AutoSeq1 (wpAny_loadPart')
section
variable {prog : Program} {w : World} {A : Around} {E : Value → Shared → Prop} {s : Shared}
/-- all but the enumerate and what it walks stays -/
abbrev Ke (e it : Addr) (h h' : Heap) : Prop := ∀ b o, b ≠ e → b ≠ it → h.get? b = some o → h'.get? b = some o
theorem enumN_item {e it l : Addr} {k : Nat} {xs : Array Value} {x old : Value} {Q : Option Value → Shared → Prop} (n : Nx prog w it l xs) (he : IsEnum s.heap e it (k : Int) old) (hit : n.st s.heap k) (hx : xs[k]? = some x) (hne : e ≠ it) (hle : l ≠ e)
    (hQ : ∀ h', IsEnumOut h' e it ((k : Int) + 1) x s.heap.objs.size → n.st h' (k + 1) → h'.get? s.heap.objs.size = some { cls := .type "tuple", data := .seq #[.int k s.toks, x] } → h'.objs.size = s.heap.objs.size + 1 → Ke e it s.heap h' → Q (some (.ref s.heap.objs.size)) { s with heap := h', toks := s.toks + 1 }) :
    wpAny (model prog w) A (pyNext (.ref e)) Q E s := by
  have hT : s.TypeIs (.ref e) "enumerate" := ⟨_, he, rfl⟩
  have inE : ∀ {h : Heap} {j : Nat}, n.st h j → ∀ {h'}, Heap.ExtBut e h h' → n.st h' j := fun q _ x => n.keep q x (Ne.symm hne) hle
  unfold pyNext
  refine wpAny_bind (wpAny_attempt (wpAny_callSpecial?_slot (name := Str.ofString "__next__") hT F.slot_enumerate_next (wpAny_call_entry F.slot_enumerate_next hT F.entry_enumerate_next ?_ (F.args_enumerate_next_1 _))))
  have el : e < s.heap.objs.size := Heap.lt_size he
  show wpAny _ _ (field (.ref e) 2 >>= _) _ _ _
  refine wpAny_bind (wpAny_field he rfl (x := .ref it) rfl (wpAny_bind (n.item hit hx fun g1 t1 b1 => ?_)))
  have he1 : IsEnum g1 e it (k : Int) old := (b1.2 e hne).trans he
  have p1 := b1.extBut
  show wpAny _ _ (field (.ref e) 3 >>= _) _ _ _
  refine wpAny_bind (wpAny_field he1 rfl (x := rawInt k) rfl ?_)
  show wpAny _ _ (field (.ref e) 4 >>= _) _ _ _
  refine wpAny_bind (wpAny_field he1 rfl (x := .none) rfl ?_)
  show wpAny _ _ (mkInt k >>= _) _ _ _
  refine wpAny_bind (wpAny_mkInt ?_)
  show wpAny _ _ (setField (.ref e) 3 (rawInt ((k : Int) + 1)) >>= _) _ _ _
  refine wpAny_bind (wpAny_setField_rec he1 (by simp) fun g2 he2 b2 => ?_)
  have he2 : IsEnum g2 e it ((k : Int) + 1) old := he2
  show wpAny _ _ (setField (.ref e) 4 .none >>= _) _ _ _
  refine wpAny_bind (wpAny_setField_rec he2 (by simp) fun g3 he3 b3 => ?_)
  have he3 : IsEnum g3 e it ((k : Int) + 1) old := he3
  have z3 : g3.objs.size = s.heap.objs.size := by rw [b3.1, b2.1, b1.1]
  have t3 : n.st g3 (k + 1) := inE (inE t1 b2.extBut) b3.extBut
  have k3 : Ke e it s.heap g3 := fun b o be bi q => b3.extBut b o be (b2.extBut b o be (p1 b o bi q))
  show wpAny _ _ (newTuple [.int k s.toks, x] >>= _) _ _ _
  refine wpAny_bind (wpAny_newTuple ?_)
  have he4 : IsEnum (g3.push { cls := .type "tuple", data := .seq #[.int k s.toks, x] }) e it ((k : Int) + 1) old := Heap.get?_push_of_some _ he3
  have p4 : Heap.ExtBut e g3 (g3.push { cls := .type "tuple", data := .seq #[.int k s.toks, x] }) := (Heap.ExtBut.refl e g3).push _
  have n4 : (g3.push { cls := .type "tuple", data := .seq #[.int k s.toks, x] }).get? g3.objs.size = some { cls := .type "tuple", data := .seq #[.int k s.toks, x] } := Heap.get?_push_size _ rfl
  have z4 : (g3.push { cls := .type "tuple", data := .seq #[.int k s.toks, x] }).objs.size = g3.objs.size + 1 := Heap.size_push ..
  show wpAny _ _ (Builtin.SmallTypes.ownedTupleIsFree (.ref e) >>= _) _ _ { s with heap := g3.push { cls := .type "tuple", data := .seq #[.int k s.toks, x] }, toks := s.toks + 1 }
  generalize (g3.push { cls := .type "tuple", data := .seq #[.int k s.toks, x] }) = g4 at he4 p4 n4 z4
  rw [z3] at n4 z4 ⊢
  refine wpAny_bind ?_
  unfold Builtin.SmallTypes.ownedTupleIsFree
  refine wpAny_bind (wpAny_field he4 rfl (x := .none) rfl (wpAny_pure ?_))
  simp only [if_true]
  refine wpAny_bind (wpAny_rule (wpAny_bind (wpAny_field he4 rfl (x := old) rfl (wpAny_bind (wpAny_setField_rec he4 (by simp) fun g5 he5 b5 => ?_)))))
  have he5 : IsEnum g5 e it ((k : Int) + 1) x := he5
  show wpAny _ _ (Builtin.SmallTypes.ownedTupleHandOut (.ref e) (.ref s.heap.objs.size) >>= _) _ _ _
  refine wpAny_bind ?_
  unfold Builtin.SmallTypes.ownedTupleHandOut
  refine wpAny_bind (wpAny_setField_rec he5 (by simp) fun g6 he6 b6 => ?_)
  have he6 : IsEnumOut g6 e it ((k : Int) + 1) x s.heap.objs.size := he6
  refine wpAny_setField_rec he6 (by simp) fun g7 he7 b7 => ?_
  have he7 : IsEnumOut g7 e it ((k : Int) + 1) x s.heap.objs.size := he7
  have up : Heap.ExtBut e g4 g7 := (b5.extBut.trans b6.extBut).trans b7.extBut
  refine wpAny_bind (wpAny_letGo (wpAny_pure ⟨_, rfl, wpAny_pure (hQ g7 he7 (inE (inE t3 p4) up) (up _ _ (Nat.ne_of_gt el) n4) ?_ fun b o be bi q => up b o be (p4 b o be (k3 b o be bi q)))⟩))
  rw [b7.1, b6.1, b5.1, z4]
theorem enumN_end {e it l : Addr} {k : Nat} {xs : Array Value} {old : Value} {Q : Option Value → Shared → Prop} (hh : A.handled = none) (n : Nx prog w it l xs) (he : IsEnum s.heap e it (k : Int) old) (hit : n.st s.heap k) (hx : xs[k]? = none)
    (hQ : ∀ h', Heap.ExtBut it s.heap h' → Q none { s with heap := h' }) : wpAny (model prog w) A (pyNext (.ref e)) Q E s := by
  have hT : s.TypeIs (.ref e) "enumerate" := ⟨_, he, rfl⟩
  unfold pyNext
  refine wpAny_bind (wpAny_attempt (wpAny_callSpecial?_slot (name := Str.ofString "__next__") hT F.slot_enumerate_next (wpAny_call_entry F.slot_enumerate_next hT F.entry_enumerate_next ?_ (F.args_enumerate_next_1 _))))
  show wpAny _ _ (field (.ref e) 2 >>= _) _ _ _
  refine wpAny_bind (wpAny_field he rfl (x := .ref it) rfl (wpAny_bind (n.stop hh hit hx fun h' z g ⟨o, ho, hc⟩ => ?_)))
  exact wpAny_bind (wpAny_isInstance (T := "StopIteration") (b := true) ⟨o, ho, hc⟩ isSubtype_stop (wpAny_pure (hQ _ g)))
/-- enumerate(a tuple), as it is made -/
theorem meets_enumT (l : Addr) (xs : Array Value) :
    Meets (Builtin.«enumerate.__new__» ⟨[.type "enumerate", .ref l], []⟩) (fun _ R s => s.heap.IsTuple l xs ∧
      ∀ h', IsEnum h' (s.heap.objs.size + 1) s.heap.objs.size 0 .none → h'.IsTupleIter s.heap.objs.size l 0 → (∀ c o, s.heap.get? c = some o → h'.get? c = some o) → R (.ok (.ret (.ref (s.heap.objs.size + 1)))) { s with heap := h' }) :=
  .of_wp fun prog w A R s h => by
    obtain ⟨hp, g, d, tk, os⟩ := s; obtain ⟨hl, h⟩ := h
    have hsub := sub_enumerate
    obtain ⟨o, ho, hc, n, hd⟩ := id hl
    have hL : Heap.IsTuple (Shared.heap ⟨hp, g, d, tk, os⟩) l xs := hl
    have z1 : (hp.push { cls := .type "tuple_iterator", data := .fields #[.ref l, .int 0 0] }).objs.size = hp.objs.size + 1 := Heap.size_push ..
    have fin : ∀ (o2 : Obj), o2 = { cls := .type "enumerate", data := .fields #[.none, .bool false, .ref hp.objs.size, rawInt 0, .none, .none] } → R (.ok (.ret (.ref (hp.push { cls := .type "tuple_iterator", data := .fields #[.ref l, .int 0 0] }).objs.size))) ⟨(hp.push { cls := .type "tuple_iterator", data := .fields #[.ref l, .int 0 0] }).push o2, g, d, tk, os⟩ := fun o2 e => by
      subst e
      rw [z1]
      refine h _ (by rw [← z1]; exact Heap.get?_push_size _ rfl) ⟨_, Heap.get?_push_of_some _ (Heap.get?_push_size _ rfl), rfl, rfl⟩ fun c o q => Heap.get?_push_of_some _ (Heap.get?_push_of_some _ q)
    wp_walk using wpAny_loadPart' ho
    refine wpAny_stack_any fun st => wpAny_pure ?_
    split
    · rename_i c _ _ _ _ _
      cases (c == Value.type "enumerate") <;> (wp_walk using wpAny_loadPart' ho, wpAny_pyIter_tuple hL) <;> exact ⟨_, rfl, fin _ rfl⟩
    · wp_walk using wpAny_loadPart' ho, wpAny_pyIter_tuple hL
      exact ⟨_, rfl, fin _ rfl⟩
theorem call_enumT {l : Addr} {xs : Array Value} {Q : Value → Shared → Prop} (hl : s.heap.IsTuple l xs)
    (h : ∀ h', IsEnum h' (s.heap.objs.size + 1) s.heap.objs.size 0 .none → h'.IsTupleIter s.heap.objs.size l 0 → (∀ c o, s.heap.get? c = some o → h'.get? c = some o) → Q (.ref (s.heap.objs.size + 1)) { s with heap := h' }) : wpAny (model prog w) A (call (.type "enumerate") [.ref l]) Q E s :=
  callType_new F.called_enumerate (by decide) (F.typeCall_enumerate_1 _) (F.newCall_enumerate_1 _) (fun obj => F.args_object_init_2 obj _) F.entry_enumerate_new (meets_enumT l xs) ⟨hl, fun h' a1 a2 a3 => ⟨⟨_, a1, rfl⟩, h h' a1 a2 a3⟩⟩
end
/-- the tuple at a, each item in a new pair behind its place -/
def IteT (K : PySem.W.Frag) (a : Addr) : It :=
  ⟨fun i H => ∃ (xs : List V) (x : V), SqT K H a xs ∧ xs[i]? = some x, fun i H v H' => ∃ T x, v = .ref T ∧ H T = none ∧ H' = upd H T (.tup [.int (i : Nat), x]) ∧ ∀ xs, SqT K H a xs → xs[i]? = some x, fun i H => ∃ xs : List V, SqT K H a xs ∧ xs.length ≤ i⟩
theorem turn_enumT {P : Program} {w : World} {K : PySem.W.Frag} {elts : List Expr} {kk : Nat} {tpos : Pos} (a e it : Addr) :
    Turn P w K (.Tuple elts kk tpos) (IteT K a) [e, it] e (fun i h => (∃ old, IsEnum h e it ((i : Nat) : Int) old) ∧ h.IsTupleIter it a i ∧ e ≠ it ∧ a ≠ e ∧ a ≠ it) where
  mem := List.mem_cons_self
  obj := fun i h st b hb => by
    obtain ⟨⟨old, he⟩, ⟨o, ho, hc, hd⟩, _⟩ := st
    simp only [List.mem_cons, List.not_mem_nil, or_false] at hb
    rcases hb with rfl | rfl
    · exact ⟨_, he, fun v q => nomatch q⟩
    · exact ⟨o, ho, fun v q => by rw [hd] at q; cases q⟩
  keep := fun i h h' st k => let ⟨⟨old, he⟩, hi, hne⟩ := st; ⟨⟨old, k e (by simp) _ he⟩, hi.at fun o q => k it (by simp) o q, hne⟩
  item := by
    intro X hP hw hK hc i pins s σ H E I hf st hg
    subst hP hw hK
    obtain ⟨⟨old, he⟩, hit, hne, hae, hai⟩ := st
    obtain ⟨xs, x, hq, hx⟩ := hg
    obtain ⟨us, rv, p, _⟩ := I.tuple hq
    obtain ⟨u, hu, ru⟩ := rv.get hx
    have hel : e < s.heap.objs.size := Heap.lt_size he
    refine enumN_item (nxT (its := us.toArray) hai) he ⟨hit, p⟩ (x := u) (by simpa using hu) hne hae fun h' ho hit' hT hsz hk => ?_
    refine ⟨_, rfl, wpAny_letOwnedTupleGo_enum (s := { s with heap := h', toks := s.toks + 1 }) ho fun h'' he' sb => ?_⟩
    have hT2 : h''.get? s.heap.objs.size = some { cls := .type "tuple", data := .seq #[.int i s.toks, u] } := (sb.2 _ (Nat.ne_of_gt hel)).trans hT
    have new : ObjOk X.prog X.w (upd H s.heap.objs.size (.tup [.int (i : Nat), x])) h'' s.heap.objs.size (.tup [.int (i : Nat), x]) := ⟨by show 2 ≤ sizeLine; decide, [.int i s.toks, u], .cons ⟨_, rfl⟩ (.cons ru .nil), ⟨_, hT2, rfl, _, rfl⟩⟩
    have I1 : Inv X pins σ (upd H s.heap.objs.size (.tup [.int (i : Nat), x])) { s with heap := h'', toks := s.toks + 1 } :=
      I.turnedNew (ch := [e, it]) (fun b ob hb q => (sb.2 b (fun z => hb (by simp [z]))).trans (hk b ob (fun z => hb (by simp [z])) (fun z => hb (by simp [z])) q)) hf (Nat.le_refl _) new
    refine ⟨.ref s.heap.objs.size, _, I1, rfl, ⟨_, x, rfl, I.hok.fresh (Nat.le_refl _), rfl, fun ys hy => by rw [I.tuple_inj hy hq]; exact hx⟩, ⟨⟨u, ?_⟩, hit'.1.at fun o q => (sb.2 it (Ne.symm hne)).trans q, hne, hae, hai⟩, fun b hb => ?_⟩
    · rw [show ((i + 1 : Nat) : Int) = (i : Int) + 1 by omega]
      exact he'
    · have hlt : b < s.heap.objs.size := by
        simp only [List.mem_cons, List.not_mem_nil, or_false] at hb
        rcases hb with rfl | rfl
        · exact hel
        · obtain ⟨_, q, _⟩ := hit
          exact Heap.lt_size q
      rw [upd_ne (Nat.ne_of_lt hlt)]
      exact (hf b hb).1
  done := by
    intro X hP hw hK hc i pins s σ H E I hf st hg
    subst hP hw hK
    obtain ⟨⟨old, he⟩, hit, hne, hae, hai⟩ := st
    obtain ⟨xs, hq, hx⟩ := hg
    obtain ⟨us, rv, p, _⟩ := I.tuple hq
    obtain ⟨f0, f1, f2, f3, f4, f5⟩ := hf it (by simp)
    have hl := rv.length
    exact enumN_end (I.ok.hd hc) (nxT (its := us.toArray) hai) he ⟨hit, p⟩ (by simp; omega) fun h' eb => ⟨rfl, I.turned (t' := s.toks) (fun b o hb q => eb b o hb q) f0 f1 f3 f4 f5⟩
  self := fun A i s Q E st h => let ⟨⟨_, he⟩, _⟩ := st; wpAny_pyIter_enum he h
def iEnumT (K : PySem.W.Frag) (ta : TA) : TI := fun σ H R => ta σ H fun vs H1 => ∃ a xs, vs = [.ref a] ∧ SqT K H1 a xs ∧ R (IteT K a) H1
theorem pi_enumT {X : Cx} {e : Expr} {ta : TA} {p pos tpos : Pos} {elts : List Expr} {kk : Nat} (hg : Gl X "enumerate") (hm : X.mg "enumerate" = none) (ha : PA X [e] ta) (hs : starEach [e] X.env = [(false, eval e X.env)] := by rfl) :
    PI X (.Tuple elts kk tpos) (.Call (.Name "enumerate" p) [e] [] pos) (iEnumT X.K ta) := by
  refine ⟨fun pins s σ H R I h => ?_⟩
  refine Call_ (ld_blt I hg hm boot_enumerate (PyProof.Rows.callWith_type1 (thn (ha.run pos pins s σ H _ I h) fun us s1 ⟨vs, H1, I1, r1, a, xs, ex, hq, q⟩ => ?_) hs rfl))
  subst ex
  cases r1 with
  | cons r rr =>
    cases rr
    cases r
    obtain ⟨us, rv, p', _⟩ := I1.tuple hq
    have hal : a < s1.heap.objs.size := by obtain ⟨_, z, _⟩ := p'; exact Heap.lt_size z
    refine call_enumT p' fun h' he hit hk => wpAny_pyIter_enum he ?_
    have I2 : Inv X pins σ H1 { s1 with heap := h' } := I1.kept (t' := s1.toks) hk
    refine ⟨s1.heap.objs.size + 1, [s1.heap.objs.size + 1, s1.heap.objs.size], _, _, H1, rfl, I2, turn_enumT a (s1.heap.objs.size + 1) s1.heap.objs.size, ⟨⟨.none, he⟩, hit, Nat.succ_ne_self _, Nat.ne_of_lt (Nat.lt_succ_of_lt hal), Nat.ne_of_lt hal⟩, fun b hb => ?_, q⟩
    have hle : s1.heap.objs.size ≤ b := by
      simp only [List.mem_cons, List.not_mem_nil, or_false] at hb
      rcases hb with rfl | rfl
      · exact Nat.le_add_right _ _
      · exact Nat.le_refl _
    exact I1.fpOk hle (I1.hok.fresh hle)
theorem walk_enumT {K : PySem.W.Frag} {a : Addr} {xs : List V} : Walk (IteT K a) xs.length (fun H => SqT K H a xs) (YPair (fun i => some (.int (i : Nat))) (fun i => xs[i]?)) := by
  refine ⟨fun i _ hi q => ⟨xs, xs[i], q, by simp [hi]⟩, fun _ q => ⟨xs, q, Nat.le_refl _⟩, fun i H v H' _ q y => ?_⟩
  obtain ⟨T, x, h1, h2, h3, h4⟩ := y
  exact ⟨T, .int (i : Nat), x, h1, h2, h3, rfl, h4 xs q⟩
end Own

namespace Own
open PySem L2 PySem.HandSPX
def tbl : List (Str × Option Str) := [("WrongCount", some ("given" : Str)), ("InvalidNumber", some ("given" : Str)), ("InvalidWord", some ("given" : Str)), ("InvalidPoint", some ("given" : Str)), ("InvalidField", some ("name" : Str)), ("InvalidText", some ("at" : Str)), ("InvalidDeed", some ("at" : Str)), ("NotNow", some ("at" : Str)), ("InvalidChute", some ("given" : Str)), ("InvalidOffer", some ("at" : Str)), ("Unlike", none), ("TooMany", some ("most" : Str)), ("InvalidName", some ("given" : Str)), ("DuplicateName", some ("name" : Str)), ("Full", some ("most" : Str)), ("InvalidLimit", some ("given" : Str)), ("InvalidCommand", some ("at" : Str)), ("InvalidPage", some ("at" : Str)), ("UnknownName", some ("name" : Str)), ("NothingLeft", none)]
def grp1 : List V := [.str "WrongCount", .str "InvalidNumber", .str "InvalidWord", .str "InvalidPoint", .str "InvalidChute", .str "InvalidName", .str "InvalidLimit"]
def grp2 : List V := [.str "InvalidText", .str "InvalidDeed", .str "NotNow", .str "InvalidOffer", .str "InvalidCommand", .str "InvalidPage"]
def grp3 : List V := [.str "InvalidField", .str "DuplicateName", .str "UnknownName"]
def grp4 : List V := [.str "TooMany", .str "Full"]
def chk (p : Str × Option Str) : Bool := bif inV (.str p.1) grp1 then decide (p.2 = some ("given" : Str)) else bif inV (.str p.1) grp2 then decide (p.2 = some ("at" : Str)) else bif inV (.str p.1) grp3 then decide (p.2 = some ("name" : Str)) else bif inV (.str p.1) grp4 then decide (p.2 = some ("most" : Str)) else decide (p.2 = none)
theorem tbl_chk : tbl.all chk = true := by decide +kernel
theorem tbl_facts (p : Str × Option Str) (hp : p ∈ tbl) : (inV (.str p.1) grp1 = true → p.2 = some ("given" : Str)) ∧ (inV (.str p.1) grp1 = false → inV (.str p.1) grp2 = true → p.2 = some ("at" : Str)) ∧ (inV (.str p.1) grp1 = false → inV (.str p.1) grp2 = false → inV (.str p.1) grp3 = true → p.2 = some ("name" : Str)) ∧
    (inV (.str p.1) grp1 = false → inV (.str p.1) grp2 = false → inV (.str p.1) grp3 = false → inV (.str p.1) grp4 = true → p.2 = some ("most" : Str)) ∧ (inV (.str p.1) grp1 = false → inV (.str p.1) grp2 = false → inV (.str p.1) grp3 = false → inV (.str p.1) grp4 = false → p.2 = none) := by
  have h := List.all_eq_true.mp tbl_chk p hp
  unfold chk at h
  refine ⟨fun b => ?_, fun b c => ?_, fun b c e => ?_, fun b c e g => ?_, fun b c e g => ?_⟩
  · rw [b] at h; exact of_decide_eq_true h
  · rw [b, c] at h; exact of_decide_eq_true h
  · rw [b, c, e] at h; exact of_decide_eq_true h
  · rw [b, c, e, g] at h; exact of_decide_eq_true h
  · rw [b, c, e, g] at h; exact of_decide_eq_true h

/-- what is known of the class of an error that is told -/
structure ErrTell (K : PySem.W.Frag) (cB cM cZ C : Addr) (cname attr : Str) : Prop where
  any : PySem.W.exmAny K (.ref C) [.ref cB, .ref cM, .ref cZ] = some true
  T : ExK K C
  X : XfC K C
  n1 : PySem.W.findIn K (.ref C) "code" = some none
  n2 : PySem.W.findIn K (.ref C) attr = some none
  tb : (cname, some attr) ∈ tbl
/-- a caught error stands, tracked -/
def ErrQ (C : Addr) (cname attr : Str) (y : V) (v : V) (H : Hp) : Prop := ∃ (a dd : Addr) (o : Obj) (fs : List (Str × V)), v = .ref a ∧ H a = some (exq a o) ∧ ExQ C dd o ∧ H dd = some (exd dd fs) ∧ fs.lookup ("code" : Str) = some (V.str cname) ∧ fs.lookup attr = some y
theorem ErrQ.same {C : Addr} {cname attr : Str} {y : V} {v : V} {H H' : Hp} (h : ErrQ C cname attr y v H) (e : Same H H') : ErrQ C cname attr y v H' := by
  obtain ⟨a, dd, o, fs, h1, h2, h3, h4, h5, h6⟩ := h
  exact ⟨a, dd, o, fs, h1, e _ _ h2, h3, e _ _ h4, h5, h6⟩
def spFieldQ (K : PySem.W.Frag) : Sp := fun vs H Q _ => ∃ (v : V) (C : Addr) (cname attr : Str) (y : V), vs = [v] ∧ ErrQ C cname attr y v H ∧ (cname, some attr) ∈ tbl ∧ ExK K C ∧ PySem.W.findIn K (.ref C) "code" = some none ∧ PySem.W.findIn K (.ref C) attr = some none ∧
  ∀ (H' : Hp) (T : Addr), Same H H' → H T = none → H' T = some (.tup [y]) → Q (.ref T) H'
abbrev sField : Stmt := topT 64
abbrev sGot : Stmt := topT 65
abbrev sWhy : Stmt := topT 66
section
variable {P : Program} {w : World} {K : PySem.W.Frag} {mg : Str → Option Value} {base : Heap}
theorem scField : FnScope ["_law_e"] ["_law_e"] (defScope sField) := ⟨rfl, rfl, rfl, by decide +kernel, rfl, by decide +kernel, by decide +kernel⟩
theorem code_inQ {σ : L2.St} {H : Hp} {C : Addr} {cname attr : Str} {y : V} {v : V} {ta : TA} {xs : List V} {R : Bool → Hp → Prop} (h0 : σ[0]? = some (some v)) (hv : ErrQ C cname attr y v H) (T : ExK K C) (nc : PySem.W.findIn K (.ref C) "code" = some none)
    (hl : xs.length ≤ 1000) (hf : xs.all flatV = true) (ht : ∀ (H : Hp) (Q : List V → Hp → Prop), Q xs H → ta σ H Q) (k : ∀ H', Same H H' → ErrQ C cname attr y v H' → R (inV (.str cname) xs) H') :
    tTest (tOp (rIn K false) (tGxq K "code" (tVar 0)) (tTup ta)) σ H R := by
  obtain ⟨a, dd, o, fs, rfl, h2, h3, h4, h5, h6⟩ := id hv
  exact ⟨_, h0, a, C, dd, o, fs, _, rfl, h2, h3, h4, T, nc, h5, ht _ _ ⟨Nat.le_trans hl (by decide), fun t ht => ⟨t, xs, rfl, .inr (SqT.of upd_same), rfl, hf, _, rfl, k _ ((Same.refl _).new ht) (hv.same ((Same.refl _).new ht))⟩⟩⟩
theorem field_tupQ {σ : L2.St} {H : Hp} {C : Addr} {cname attr p : Str} {y : V} {v : V} {Q : VK} (h0 : σ[0]? = some (some v)) (hv : ErrQ C cname attr y v H) (T : ExK K C) (np : PySem.W.findIn K (.ref C) attr = some none) (hp : some attr = some p)
    (k : ∀ (H' : Hp) (T : Addr), Same H H' → H T = none → H' T = some (.tup [y]) → Q (.ref T) H') : tTup (tCons (tGxq K p (tVar 0)) tNil) σ H Q := by
  cases hp
  obtain ⟨a, dd, o, fs, rfl, h2, h3, h4, h5, h6⟩ := id hv
  exact ⟨_, h0, a, C, dd, o, fs, _, rfl, h2, h3, h4, T, np, h6, (by show 1 ≤ sizeLine; decide), fun t ht => k _ t ((Same.refl _).new ht) ht upd_same⟩
theorem ok_fieldQ {f : Addr} {fd : FuncData} (F : Fun K "_law_field" "_law_field" sField f fd) : FnQ P w K mg base 2 f fd ["_law_e"] (spFieldQ K) := by
  refine fn_ofQ F scField (fun vs H Q E h => ?_) (fun cdv A outer s H vs Q E hr h => ?_)
  · obtain ⟨v, C, cname, attr, y, rfl, _⟩ := h
    rfl
  · obtain ⟨v, C, cname, attr, y, rfl, hv, ht, T, nc, np, k⟩ := h
    refine ⟨_, pss_cons (ps_if (pt_cmpR op_in_seq (pe_gxq (pv 0)) (pe_tup (pa_cons pe_str (pa_cons pe_str (pa_cons pe_str (pa_cons pe_str (pa_cons pe_str (pa_cons pe_str (pa_cons pe_str pa_nil)))))))) (by rfl)) (pss_one (ps_ret (pe_tup (pa_cons (pe_gxq (pv 0)) pa_nil)))) pss_nil)
      (pss_cons (ps_if (pt_cmpR op_in_seq (pe_gxq (pv 0)) (pe_tup (pa_cons pe_str (pa_cons pe_str (pa_cons pe_str (pa_cons pe_str (pa_cons pe_str (pa_cons pe_str pa_nil))))))) (by rfl)) (pss_one (ps_ret (pe_tup (pa_cons (pe_gxq (pv 0)) pa_nil)))) pss_nil)
      (pss_cons (ps_if (pt_cmpR op_in_seq (pe_gxq (pv 0)) (pe_tup (pa_cons pe_str (pa_cons pe_str (pa_cons pe_str pa_nil)))) (by rfl)) (pss_one (ps_ret (pe_tup (pa_cons (pe_gxq (pv 0)) pa_nil)))) pss_nil)
      (pss_one (ps_ret (pe_ifExp (pt_cmpR op_in_seq (pe_gxq (pv 0)) (pe_tup (pa_cons pe_str (pa_cons pe_str pa_nil))) (by rfl)) (pe_tup (pa_cons (pe_gxq (pv 0)) pa_nil)) (pe_tup pa_nil)))))), ?_⟩
    obtain ⟨f1, f2, f3, f4, f5⟩ := tbl_facts _ ht
    refine code_inQ (xs := grp1) rfl hv T nc (by decide) (by decide +kernel) (fun _ _ q => q) fun H1 s1 hv1 => ite2 (fun b1 => ?_) (fun b1 => ?_)
    · exact field_tupQ rfl hv1 T np (f1 b1) fun H' t e n q => k _ t (s1.trans e) (s1.free n) q
    have b1 := Bool.eq_false_iff.mpr b1
    refine code_inQ (xs := grp2) rfl hv1 T nc (by decide) (by decide +kernel) (fun _ _ q => q) fun H2 s2 hv2 => ite2 (fun b2 => ?_) (fun b2 => ?_)
    · exact field_tupQ rfl hv2 T np (f2 b1 b2) fun H' t e n q => k _ t ((s1.trans s2).trans e) ((s1.trans s2).free n) q
    have b2 := Bool.eq_false_iff.mpr b2
    refine code_inQ (xs := grp3) rfl hv2 T nc (by decide) (by decide +kernel) (fun _ _ q => q) fun H3 s3 hv3 => ite2 (fun b3 => ?_) (fun b3 => ?_)
    · exact field_tupQ rfl hv3 T np (f3 b1 b2 b3) fun H' t e n q => k _ t (((s1.trans s2).trans s3).trans e) (((s1.trans s2).trans s3).free n) q
    have b3 := Bool.eq_false_iff.mpr b3
    refine code_inQ (xs := grp4) rfl hv3 T nc (by decide) (by decide +kernel) (fun _ _ q => q) fun H4 s4 hv4 => ite2 (fun b4 => ?_) (fun b4 => ?_)
    · exact field_tupQ rfl hv4 T np (f4 b1 b2 b3 b4) fun H' t e n q => k _ t ((((s1.trans s2).trans s3).trans s4).trans e) ((((s1.trans s2).trans s3).trans s4).free n) q
    have b4 := Bool.eq_false_iff.mpr b4
    have z := f5 b1 b2 b3 b4
    cases z
/-- how an error of the body must be, for the law to tell it -/
def Caught (K : PySem.W.Frag) (cB cM cZ : Addr) (R : Str → V → Addr → Hp → Prop) : XK := fun cls d H1 => ∃ (C dd : Addr) (fs : List (Str × V)) (cname attr : Str) (y : V), cls = .ref C ∧ d = some dd ∧ ErrTell K cB cM cZ C cname attr ∧ H1 dd = some (.xd fs) ∧ fs.lookup ("code" : Str) = some (V.str cname) ∧ fs.lookup attr = some y ∧ R cname y dd H1
/-- what the telling of an error leaves -/
def Told (Q : VK) : Str → V → Addr → Hp → Prop := fun cname y dd H1 => ∀ H' T T1, (∀ b o, b ≠ dd → H1 b = some o → H' b = some o) → H1 T = none → H1 T1 = none → H' T = some (.tup [.str cname, .ref T1]) → H' T1 = some (.tup [y]) → Q (.ref T) H'
def spGot (P : Program) (w : World) (K : PySem.W.Frag) (mg : Str → Option Value) (base : Heap) (cB cM cZ : Addr) : Sp := fun vs H Q _ => ∃ (f : Addr) (sp0 : VK → XK → Hp → Prop), vs = [.ref f] ∧ Ask P w K mg base 14 H f sp0 ∧ ∀ (Q' : VK) (E' : XK),
  (∀ v H1, (∀ t, H1 t = none → Q (.ref t) (upd H1 t (.tup [.str "told", v]))) → Q' v H1) →
  (∀ cls d H1, Caught K cB cM cZ (Told Q) cls d H1 → E' cls d H1) → sp0 Q' E' H
theorem scGot : FnScope ["_law_ask", "_law_e"] ["_law_ask"] (defScope sGot) := ⟨rfl, rfl, rfl, by decide +kernel, rfl, by decide +kernel, by decide +kernel⟩
theorem ok_got {f fF cB cM cZ : Addr} {fd fdF : FuncData} (F : Fun K "_law_got" "_law_got" sGot f fd) (GF : FnQ P w K mg base 2 fF fdF ["_law_e"] (spFieldQ K)) (mF : mg "_law_field" = some (.ref fF)) (kF : PySem.W.keepIn K (.ref fF) = true) (bF : Binds K fdF ["_law_e"] [])
    (mB : mg "BeltError" = some (.ref cB)) (mM : mg "Missing" = some (.ref cM)) (mZ : mg "NothingLeft" = some (.ref cZ)) : FnOk P w K mg base CX0 15 f fd ["_law_ask"] (spGot P w K mg base cB cM cZ) := by
  refine F.ok scGot (fun vs H Q E h => ?_) (fun cdv A outer s H vs Q E hr h => ?_)
  · obtain ⟨g, sp0, rfl, _⟩ := h
    rfl
  · obtain ⟨g, sp0, rfl, ha, h⟩ := h
    refine ⟨_, pss_one (ps_try_tup3 (i := 1) rfl rfl scGot.nd rfl rfl ⟨by rfl, by decide, .inl mB⟩ ⟨by rfl, by decide, .inl mM⟩ ⟨by rfl, by decide, .inl mZ⟩
      (fun W pn xe tk _ => pss_one (ps_ret (pe_tup (pa_cons pe_str (pa_cons (show PE _ _ (tAsk P w K mg base 14 0 W) from pe_ask (i := 0) (k := 14) hr tk rfl (.inl rfl)) pa_nil)))))
      (fun a oe cls d pn hz hf hb => pss_one (ps_ret (pe_tup (pa_cons (pe_xfA hz hf (pv 1)) (pa_cons (pe_callX GF (L2H.roomH_of (hr.mono (by decide))) hz hf hb (by rfl) mF kF bF (pa_cons (pv 1) pa_nil)) pa_nil)))))), ?_⟩
    refine ⟨g, sp0, rfl, ha, h _ _ (fun v H1 q => ⟨by show 2 ≤ sizeLine; decide, q⟩) ?_⟩
    rintro cls d H1 ⟨C, dd, fs, cname, attr, y, rfl, rfl, te, hd, l1, l2, R⟩
    refine ⟨te.any, fun a na => ?_⟩
    have nad : a ≠ dd := fun z => by rw [z, hd] at na; cases na
    have eD : ∀ oe, hpX H1 a dd oe fs dd = some (exd dd fs) := fun oe => by unfold hpX; rw [upd_ne nad.symm, upd_same]
    refine ⟨_, rfl, rfl, C, dd, fs, _, rfl, te.X, te.n1, rfl, hd, l1, _, rfl, rfl, C, dd, fs, rfl, rfl, hd, fun oe eo => ⟨_, C, cname, attr, y, rfl, ⟨a, dd, oe, fs, rfl, upd_same, eo, eD oe, l1, l2⟩, te.tb, te.T, te.n1, te.n2, fun H2 T sm nT hT => ⟨sm _ _ upd_same, sm _ _ (eD oe), by show 2 ≤ sizeLine; decide, fun t ht => ?_⟩⟩⟩
    have ea : H2 a = some (exq a oe) := sm _ _ upd_same
    have ed : H2 dd = some (exd dd fs) := sm _ _ (eD oe)
    have nTa : T ≠ a := fun z => by rw [z, ea] at hT; exact exq_tup (Option.some.inj hT)
    have nTd : T ≠ dd := fun z => by rw [z, ed] at hT; exact exd_tup (Option.some.inj hT)
    have bk : ∀ b, b ≠ a → b ≠ dd → hpB H2 a dd fs b = H2 b := fun b h1 h2 => by unfold hpB; rw [upd_ne h2, del_ne h1]
    have hT' : hpB H2 a dd fs T = some (.tup [y]) := by rw [bk T nTa nTd]; exact hT
    have up : ∀ b, b ≠ a → b ≠ dd → hpX H1 a dd oe fs b = H1 b := fun b h1 h2 => by unfold hpX; rw [upd_ne h1, upd_ne h2]
    have ntd : t ≠ dd := fun z => by
      rw [z] at ht
      unfold hpB at ht
      rw [upd_same] at ht
      cases ht
    refine R _ t T (fun b o hbd e => ?_) ?_ ?_ upd_same ?_
    · have nba : b ≠ a := fun z => by rw [z, na] at e; cases e
      have e3 : hpB H2 a dd fs b = some o := by
        rw [bk b nba hbd]
        exact sm _ _ (by rw [up b nba hbd]; exact e)
      rw [upd_ne (ne_of_none e3 ht)]
      exact e3
    · by_cases q : t = a
      · rw [q]; exact na
      · rw [← up t q ntd]
        exact sm.free (by rw [← bk t q ntd]; exact ht)
    · rw [← up T nTa nTd]
      exact nT
    · rw [upd_ne (ne_of_none hT' ht)]
      exact hT'
end
end Own

namespace Own
open PySem L2 PySem.HandSPX
theorem tbl_told : ∀ p ∈ tbl, p.1 ≠ "told" := by decide +kernel
def spWhy (P : Program) (w : World) (K : PySem.W.Frag) (mg : Str → Option Value) (base : Heap) (cB cM cZ : Addr) : Sp := fun vs H Q _ => ∃ (f : Addr) (sp0 : VK → XK → Hp → Prop), vs = [.ref f] ∧ Ask P w K mg base 14 H f sp0 ∧ ∀ (Q' : VK) (E' : XK),
  (∀ v H1, (∀ H' T, Same H1 H' → Dp K H' (.ref T) (.tuple [.str "told", .none]) → Q (.ref T) H') → Q' v H1) →
  (∀ cls d H1, Caught K cB cM cZ (Told Q) cls d H1 → E' cls d H1) → sp0 Q' E' H
section
variable {P : Program} {w : World} {K : PySem.W.Frag} {mg : Str → Option Value} {base : Heap}
theorem scWhy : FnScope ["_law_ask", "_law_found"] ["_law_ask"] (defScope sWhy) := ⟨rfl, rfl, rfl, by decide +kernel, rfl, by decide +kernel, by decide +kernel⟩
theorem ok_why {f fG cB cM cZ : Addr} {fd fdG : FuncData} (F : Fun K "_law_why" "_law_why" sWhy f fd) (GG : FnOk P w K mg base CX0 15 fG fdG ["_law_ask"] (spGot P w K mg base cB cM cZ)) (mG : mg "_law_got" = some (.ref fG)) (kG : PySem.W.keepIn K (.ref fG) = true) (bG : Binds K fdG ["_law_ask"] []) :
    FnOk P w K mg base CX0 16 f fd ["_law_ask"] (spWhy P w K mg base cB cM cZ) := by
  refine F.ok scWhy (fun vs H Q E h => ?_) (fun cdv A outer s H vs Q E hr h => ?_)
  · obtain ⟨g, sp0, rfl, _⟩ := h
    rfl
  · obtain ⟨g, sp0, rfl, ha, h⟩ := h
    refine ⟨_, pss_cons (ps_set (i := 1) scWhy.nd rfl (Or.inl rfl) (pe_call GG hr rfl mG kG bG .nil pass0 (pa_cons (pv 0) pa_nil)))
      (pss_one (ps_ret (pe_ifExp (pt_cmpR op_ne (pe_ix ix_tup (pv 1) pe_int (fun _ _ => rfl)) pe_str (nomark _)) (pv 1) (pe_tup (pa_cons pe_str (pa_cons pe_non pa_nil)))))), ?_⟩
    refine ⟨_, rfl, g, sp0, rfl, ha, fun Q' E' h1 h2 => h Q' E' (fun v H1 q => h1 v H1 fun t ht => ?_) (fun cls d H1 c => h2 cls d H1 ?_)⟩
    · refine ⟨_, rfl, t, _, _, _, rfl, rfl, .inl (.inl upd_same), rfl, ?_⟩
      have sm : Same H1 (upd H1 t (.tup [.str "told", v])) := (Same.refl _).new ht
      refine ⟨rfl, _, rfl, iteF ⟨by show 2 ≤ sizeLine; decide, fun t2 ht2 => q _ t2 (sm.new ht2) (.tup (SqT.of upd_same) (.cons (.str _) (.cons .non .nil)))⟩⟩
    · obtain ⟨C, dd, fs, cname, attr, y, e1, e2, te, hd, l1, l2, R⟩ := c
      refine ⟨C, dd, fs, cname, attr, y, e1, e2, te, hd, l1, l2, fun H' T T1 sm n1 n2 hT hT1 => ?_⟩
      refine ⟨_, rfl, T, _, _, _, rfl, rfl, .inl (.inl hT), rfl, rfl, _, rfl, ?_⟩
      have ne : decide (V.str cname = V.str "told") = false := decide_eq_false fun z => tbl_told _ te.tb (V.str.inj z)
      show if (!decide (V.str cname = V.str "told")) = true then _ else _
      rw [ne]
      exact iteT ⟨_, rfl, R H' T T1 sm n1 n2 hT hT1⟩
end
end Own

namespace Own
open PySem L2 PySem.HandSPX
/-- the function at f, called at any later time, raises an error of this name with this value -/
def WillRaise (P : Program) (w : World) (K : PySem.W.Frag) (mg : Str → Option Value) (base : Heap) (cB cM cZ : Addr) (H : Hp) (f : Addr) (cname : Str) (dt : PyData) : Prop := ∃ (sp0 : VK → XK → Hp → Prop), Ask P w K mg base 14 H f sp0 ∧ ∀ H1, Same H H1 → ∀ (Q' : VK) (E' : XK),
  (∀ (C dd : Addr) (attr : Str) (H2 : Hp), ErrOut K H1 H2 dd cname attr dt → ErrTell K cB cM cZ C cname attr → E' (.ref C) (some dd) H2) → sp0 Q' E' H1
theorem WillRaise.same {P : Program} {w : World} {K : PySem.W.Frag} {mg : Str → Option Value} {base : Heap} {cB cM cZ : Addr} {H H' : Hp} {f : Addr} {cname : Str} {dt : PyData} (h : WillRaise P w K mg base cB cM cZ H f cname dt) (sm : Same H H') : WillRaise P w K mg base cB cM cZ H' f cname dt := by
  obtain ⟨sp0, a, k⟩ := h
  exact ⟨sp0, a.same sm, fun H1 s1 => k H1 (sm.trans s1)⟩
def dueD (q : Str × PyData) : PyData := .tuple [.str q.1, .tuple [q.2]]
def spWhys (P : Program) (w : World) (K : PySem.W.Frag) (mg : Str → Option Value) (base : Heap) (cB cM cZ : Addr) : Sp := fun vs H Q _ => ∃ (l : Addr) (fs : List Addr) (dues : List (Str × PyData)), vs = [.ref l] ∧ SqL K H l (fs.map V.ref) ∧ fs.length ≤ 100 ∧ fs.length = dues.length ∧
  (∀ (i : Nat) (f : Addr) (q : Str × PyData), fs[i]? = some f → dues[i]? = some q → WillRaise P w K mg base cB cM cZ H f q.1 q.2) ∧ ∀ H' D, Same H H' → Dp K H' (.ref D) (.list (dues.map dueD)) → Q (.ref D) H'
section
variable {P : Program} {w : World} {K : PySem.W.Frag} {mg : Str → Option Value} {base : Heap}
end
end Own

namespace Own
open PySem L2 PySem.HandSPX LamX NdefX
theorem errOut_trk {K : PySem.W.Frag} {S : SO} {H' H2 : Hp} {dd : Addr} {cname attr : Str} {d : PyData} (t : Tracked S H') (n : ∀ b o, S b = some o → H2 b = none) (eo : ErrOut K (utrk S H') H2 dd cname attr d) : ErrOut K H' (trk S H2) dd cname attr d := by
  obtain ⟨sm, nd, fs, y, hx, l1, l2, hy⟩ := eo
  have sd : S dd = none := by
    cases e : S dd with
    | none => rfl
    | some o => have z := n dd o e; rw [hx] at z; cases z
  refine ⟨fun b o hb => ?_, ?_, fs, y, ?_, l1, l2, dp_same (fun b o q => ?_) _ _ hy⟩
  · cases e : S b with
    | none => rw [trk_out e]; exact sm b o (by rw [utrk_out e]; exact hb)
    | some q =>
      rw [t b q e] at hb
      rw [trk_in e]
      exact hb
  · rw [utrk_out sd] at nd
    exact nd
  · rw [trk_out sd]
    exact hx
  · obtain ⟨q1, q2⟩ := newr_some q
    have sb : S b = none := by
      cases e : S b with
      | none => rfl
      | some o' => have z := n b o' e; rw [q2] at z; cases z
    rw [utrk_out sb] at q1
    rw [newr_at q1, trk_out sb]
    exact q2
theorem will_of {X : Cx} {σ : L2.St} {S : SO} {H1 : Hp} {f c' cB cM cZ : Addr} {params : Arguments} {scope : Scope} {body : Expr} {fr : List Str} {js : List Nat} {tb : XK → TE} {cname : Str} {dt : PyData}
    (hS : ∀ b o, S b = some o → H1 b = none) (cs : CellsS X σ S) (hl : H1 f = some (LamO f (lamF X params scope c') body)) (hc : H1 c' = some (CodeO c' (X.env.qual ++ "<lambda>")))
    (hfree : ∀ y ∈ scope.names, y.2 = .free → X.env.scope.names.lookup y.1 = some .cell ∨ X.env.scope.names.lookup y.1 = some .free) (hfr : ∀ y ∈ fr, (y, NameKind.free) ∈ scope.names) (hjs : js.map (fun j => X.N[j]?) = fr.map some) (SN : NScope fr [] fr scope)
    (hbind : ∀ (q : Str) (cl : List (Str × Addr)) (pm cv ctv : Value), bindArgs (PySem.W.kla_fn "<lambda>" q params body scope cl pm cv ctv) ⟨[], []⟩ = pure [])
    (hbody : ∀ (A : Around) (outer : List Env) (s : Shared) (H : Hp) (E : XK), Room 13 (A.deeper (envF (lamF X params scope c') f s.heap.objs.size)) → PE (ncx (L2.CX X.prog X.w) X.prog X.w X.K X.mg X.base fr (lamF X params scope c') f A outer s H E) body (tb E))
    (hread : ∀ H0, Same H1 H0 → ∀ (E : XK) (Q : VK), (∀ (C dd : Addr) (attr : Str) (H2 : Hp), ErrOut X.K H0 H2 dd cname attr dt → ErrTell X.K cB cM cZ C cname attr → E (.ref C) (some dd) H2) → tb E (startF fr [] (js.map (slotAt σ))) H0 Q) :
    WillRaise X.prog X.w X.K X.mg X.base cB cM cZ (trk S H1) f cname dt := by
  have sn : ∀ b u, H1 b = some u → S b = none := fun b u z => by
    cases e : S b with
    | none => rfl
    | some o => rw [hS b o e] at z; cases z
  have nf := sn _ _ hl
  have nc := sn _ _ hc
  refine ⟨fun Q E H' => Same (trk S H1) H' ∧ ∀ (C dd : Addr) (attr : Str) (H2 : Hp), ErrOut X.K H' H2 dd cname attr dt → ErrTell X.K cB cM cZ C cname attr → E (.ref C) (some dd) H2, ?_, fun H1' sm Q' E' k => ⟨sm, k⟩⟩
  refine ask_of (S := S) (F := lamF X params scope c') (body := body) ⟨by rw [trk_out nf]; exact hl, by rw [trk_out (show S (lamF X params scope c').c = none from nc)]; exact hc, trk_tracked⟩
    (askG_lam (N := fr) (fr := fr) (ws := js.map (slotAt σ)) (tb := tb) SN nf nc (fun pm ctv => hbind _ _ _ _ _) (fun h H st => cs scope fr js hfree hfr hjs h H st) hbody fun Q E H' t h => ?_)
  obtain ⟨sm, k⟩ := h
  refine hread (utrk S H') (fun b u z => ?_) _ _ fun C dd attr H2 eo et n => k C dd attr _ (errOut_trk t n eo) et
  have e := sn b u z
  rw [utrk_out e]
  exact sm b u (by rw [trk_out e]; exact z)
end Own

namespace Own
open PySem L2 ClX PySem.Spec PyProof.Rows
/-! ### o.m(k = v, ..), every parameter given -/
/-- o.m(k = v, ..) of an instance of C, by name alone -/
def tMethN (C : Addr) (m : Str) (n : Nat) (sp : Sp) (gV : List V → List V → List V) (E : XK) (ta : TE) (tk : TA) : TE := fun σ H Q => ta σ H fun x H1 => ∃ a dx fs, x = .ref a ∧ H1 a = some (.ins C dx fs) ∧ fs.lookup m = none ∧
  tk σ H1 fun zs H2 => zs.length = n ∧ sp (gV [x] zs) H2 Q E
section
variable {X : Cx} {CX : CXT} {k : Nat} {f C : Addr} {fd : FuncData} {ps ks : List Str} {sp : Sp} {E : XK} {m : Str} {o : Expr} {kws : List Keyword} {ta : TE} {tk : TA} {p pos apos : Pos} {pl : Sem Bool} {g : List Value → List Value → List Value} {gV : List V → List V → List V}
theorem pe_methN (c : Cls X.K C) (km : Meth X.K C m f) (F : FnOk X.prog X.w X.K X.mg X.base CX k f fd ps sp) (hr : Room k X.A) (kp : PySem.W.keepIn X.K (.ref f) = true) (hb : KBn X.K fd ps 1 ks g gV) (hx : Passes CX X E) (ho : PE X o ta) (hkw : PK X kws tk)
    (hall : (backToKw pos (keywordEach kws X.env)).all (·.1.isSome) = true := by rfl) (hks : (backToKw pos (keywordEach kws X.env)).filterMap (·.1) = ks := by rfl)
    (hpl : ((backTo pos (starEach [] X.env)).any (·.1) || (backToKw pos (keywordEach kws X.env)).any (·.1.isNone)) = false := by rfl)
    (he : eval (.Call (.Attribute o m apos) [] kws pos) X.env = (do
      let ov ← eval o X.env
      standAt apos.atName
      let (f, first) ← holding [ov] (getMethod ov m pl)
      callWith pos f first (backTo pos (starEach [] X.env)) (backToKw pos (keywordEach kws X.env))) := by rfl) :
    PE X (.Call (.Attribute o m apos) [] kws pos) (tMethN C m ks.length sp gV E ta tk) := by
  refine ⟨fun pins s σ H Q I h => ?_⟩
  refine PySem.W.methodCall_KW (thn (ho.run pins s σ H _ I h) fun u s1 ⟨x, H1, I1, rx, a, dx, fs, ex, hi, hl, q⟩ => ?_) he
  subst ex
  obtain rfl : u = Value.ref a := rx
  refine getmeth_ok I1 hi c km hl ?_
  refine PySem.W.callWith_KW0 (h₀ := X.base) I1.ok.mod.kin kp hall (thn (hkw.run pos pins s1 σ H1 _ I1 q) fun ws s2 ⟨zs, H2, I2, rz, l2, q2⟩ => ⟨I2.kIn, ?_⟩) hpl
  rw [hks]
  exact run_fnN F hr hb hx I2 (.cons (show L2.RelV (.ref a) (.ref a) from rfl) .nil) rz rfl l2 q2
end
section
variable {K : PySem.W.Frag}
/-- every parameter given, those from the n-th on by name in the order ks -/
theorem kbn_all {x qual : Str} {st : Stmt} {f : Addr} {fd : FuncData} {ps ks : List Str} (n : Nat) (g : {α : Type} → List α → List α → List α) (F : Fun K x qual st f fd)
    (hrel : ∀ {vs zs : List V} {us ws : List Value}, Vals vs us → Vals zs ws → Vals (g vs zs) (g us ws))
    (h : ∀ (kV doc pm : Value) (an : Option Addr) (cdv ct : Value) (us ws : List Value), us.length = n → ws.length = ks.length → bindArgs (PySem.W.fnOf x qual (defArgs st) (defBody st) (defScope st) .none kV doc pm an cdv ct) ⟨us, ks.zip ws⟩ = pure (ps.zip (g us ws))) : KBn K fd ps n ks (fun us ws => g us ws) (fun vs zs => g vs zs) := by
  obtain ⟨oc, od, kV, doc, pm, an, cdv, ct, osl, rfl, lk, hcd⟩ := F.ex
  exact ⟨fun s us ws _ l1 l2 => .of_eq (h kV doc pm an cdv ct us ws l1 l2), fun r1 r2 => hrel r1 r2⟩
def gApp {α : Type} : List α → List α → List α := fun us ws => us ++ ws
end
end Own

set_option linter.all false
set_option linter.unusedVariables false
/-! Pure code by its data. G: what stands for good (data live there); H: all that stands (G and what is being built, which G does not have). -/
namespace Own
open PySem L2
/-- a thing that is known by what is true of it (a code object, a function) -/
def isX : HO → Bool
  | .ext _ => true
  | _ => false
/-- things that code may change beside its data (the bag of the draws): where they lie, what is true of them -/
structure Am where
  ad : Addr → Prop
  inv : Hp → Prop
  al : ∀ {H : Hp}, inv H → ∀ {a : Addr}, ad a → H a ≠ none
  st : ∀ {H H' : Hp}, inv H → (∀ a o, H a = some o → (ad a ∨ isX o = true) → H' a = some o) → inv H'
  /-- what is known for good -/
  fx : Hp → Prop
  fu : ∀ {G G' : Hp}, (∀ a o, G a = some o → G' a = some o) → fx G → fx G'
/-- nothing of that kind -/
def Am.no : Am := ⟨fun _ => False, fun _ => True, fun _ _ f => False.elim f, fun _ _ => trivial, fun _ => True, fun _ _ => trivial⟩
theorem Am.fresh {M : Am} {H : Hp} {p : Addr} (i : M.inv H) (h : H p = none) : ¬ M.ad p := fun z => M.al i z h
theorem Am.upd {M : Am} {H : Hp} {p : Addr} {o : HO} (i : M.inv H) (h : ¬ M.ad p) (hx : ∀ u, H p = some u → isX u = false) : M.inv (upd H p o) := M.st i fun a u e z => by
  by_cases q : a = p
  · subst q
    rcases z with z | z
    · exact absurd z h
    · rw [hx u e] at z; cases z
  · rw [upd_ne q]; exact e
theorem Am.new {M : Am} {H : Hp} {p : Addr} {o : HO} (i : M.inv H) (h : H p = none) : M.inv (L2.upd H p o) := Am.upd i (Am.fresh i h) fun u e => by rw [h] at e; cases e
/-- more stands: G, H became G', H'; what was being built is still no part of G' -/
structure Gr (M : Am) (G H G' H' : Hp) : Prop where
  g : Same G G'
  h : ∀ a o, ¬ M.ad a → H a = some o → H' a = some o
  s : Same G' H'
  n : ∀ a, G a = none → H a ≠ none → G' a = none
  i : M.inv H → M.inv H'
  k : ∀ a, H' a = none → H a = none
theorem Gr.refl {M : Am} {G H : Hp} (s : Same G H) : Gr M G H G H := ⟨Same.refl _, fun _ _ _ h => h, s, fun _ h _ => h, id, fun _ h => h⟩
theorem Gr.trans {M : Am} {G H G1 H1 G2 H2 : Hp} (a : Gr M G H G1 H1) (b : Gr M G1 H1 G2 H2) : Gr M G H G2 H2 :=
  ⟨a.g.trans b.g, fun x o z e => b.h x o z (a.h x o z e), b.s, fun x e n => b.n x (a.n x e n) (fun z => n (a.k _ z)), fun i => b.i (a.i i), fun x z => a.k _ (b.k _ z)⟩
theorem same_put {G H : Hp} (s : Same G H) {p : Addr} {o : HO} : Same (upd G p o) (upd H p o) := fun b u e => by
  by_cases q : b = p
  · subst q; rw [upd_same] at e ⊢; exact e
  · rw [upd_ne q] at e ⊢; exact s _ _ e
theorem same_fresh {H : Hp} {p : Addr} {o : HO} (h : H p = none) : Same H (upd H p o) := fun b u e => by
  rw [upd_ne (ne_of_none e h)]; exact e
theorem Gr.new {M : Am} {G H : Hp} (s : Same G H) {p : Addr} {o : HO} (h : H p = none) : Gr M G H (upd G p o) (upd H p o) :=
  ⟨same_fresh (s.free h), fun a u _ e => same_fresh h _ _ e, same_put s, fun a e n => by rw [upd_ne (fun z => n (by rw [z]; exact h))]; exact e, fun i => Am.new i h, fun a z => (same_fresh h).free z⟩
/-- a part that is being built: a new thing in H, not in G -/
theorem Gr.own {M : Am} {G H : Hp} (s : Same G H) {p : Addr} {o : HO} (h : H p = none) : Gr M G H G (upd H p o) :=
  ⟨Same.refl _, fun a u _ e => same_fresh h _ _ e, s.trans (same_fresh h), fun _ e _ => e, fun i => Am.new i h, fun a z => (same_fresh h).free z⟩
/-- what changes nothing else at all -/
theorem Gr.of_no {M : Am} {G H G' H' : Hp} (a : Gr Am.no G H G' H') : Gr M G H G' H' :=
  ⟨a.g, fun x o _ e => a.h x o id e, a.s, a.n, fun i => M.st i fun x o e _ => a.h x o id e, a.k⟩
/-- a part that was being built changes -/
theorem same_mut {G H : Hp} (s : Same G H) {p : Addr} {o : HO} (h : G p = none) : Same G (upd H p o) := fun b u e => by
  rw [upd_ne (ne_of_none e h)]; exact s _ _ e
/-- what a value is, by what stands -/
structure Rp where
  p : V → Hp → Prop
  up : ∀ {v : V} {G G' : Hp}, Same G G' → p v G → p v G'
theorem sqT_up {K : PySem.W.Frag} {G G' : Hp} {a : Addr} {xs : List V} (s : Same G G') (h : SqT K G a xs) : SqT K G' a xs := by
  rcases h with (h | ⟨o, h⟩) | h
  · exact .inl (.inl (s _ _ h))
  · exact .inl (.inr ⟨o, s _ _ h⟩)
  · exact .inr h
mutual
/-- data as it lies: lists are things of the heap -/
inductive De (K : PySem.W.Frag) (H : Hp) : V → PyData → Prop
  | non : De K H .non .none
  | bl (b : Bool) : De K H (.bl b) (.bool b)
  | int (i : Int) : De K H (.int i) (.int i)
  | str (x : Str) : De K H (.str x) (.str x)
  | lst {a : Addr} {xs : List V} {ds : List PyData} : H a = some (.lst xs) → DeAll K H xs ds → De K H (.ref a) (.list ds)
  | tup {a : Addr} {xs : List V} {ds : List PyData} : SqT K H a xs → DeAll K H xs ds → De K H (.ref a) (.tuple ds)
inductive DeAll (K : PySem.W.Frag) (H : Hp) : List V → List PyData → Prop
  | nil : DeAll K H [] []
  | cons {v : V} {vs : List V} {d : PyData} {ds : List PyData} : De K H v d → DeAll K H vs ds → DeAll K H (v :: vs) (d :: ds)
end
mutual
theorem De.up {K : PySem.W.Frag} {G G' : Hp} (s : Same G G') : ∀ {v : V} {d : PyData}, De K G v d → De K G' v d
  | _, _, .non => .non
  | _, _, .bl b => .bl b
  | _, _, .int i => .int i
  | _, _, .str x => .str x
  | _, _, .lst h t => .lst (s _ _ h) (DeAll.up s t)
  | _, _, .tup h t => .tup (sqT_up s h) (DeAll.up s t)
theorem DeAll.up {K : PySem.W.Frag} {G G' : Hp} (s : Same G G') : ∀ {vs : List V} {ds : List PyData}, DeAll K G vs ds → DeAll K G' vs ds
  | _, _, .nil => .nil
  | _, _, .cons h t => .cons (De.up s h) (DeAll.up s t)
end
mutual
theorem De.dp {K : PySem.W.Frag} {G : Hp} : ∀ {v : V} {d : PyData}, De K G v d → Dp K G v d
  | _, _, .non => .non
  | _, _, .bl b => .bl b
  | _, _, .int i => .int i
  | _, _, .str x => .str x
  | _, _, .lst h t => .lst (.inl (.inl h)) (DeAll.dp t)
  | _, _, .tup h t => .tup h (DeAll.dp t)
theorem DeAll.dp {K : PySem.W.Frag} {G : Hp} : ∀ {vs : List V} {ds : List PyData}, DeAll K G vs ds → DpAll K G vs ds
  | _, _, .nil => .nil
  | _, _, .cons h t => .cons (De.dp h) (DeAll.dp t)
end
/-- data -/
def D (K : PySem.W.Frag) (d : PyData) : Rp := ⟨fun v G => De K G v d, fun s h => De.up s h⟩
theorem D.int {K : PySem.W.Frag} {n : Int} {v : V} {G : Hp} (h : (D K (.int n)).p v G) : v = .int n := by cases h; rfl
theorem D.str {K : PySem.W.Frag} {n : Str} {v : V} {G : Hp} (h : (D K (.str n)).p v G) : v = .str n := by cases h; rfl
theorem D.bool {K : PySem.W.Frag} {n : Bool} {v : V} {G : Hp} (h : (D K (.bool n)).p v G) : v = .bl n := by cases h; rfl
theorem D.none {K : PySem.W.Frag} {v : V} {G : Hp} (h : (D K .none).p v G) : v = .non := by cases h; rfl
theorem D.tup {K : PySem.W.Frag} {ds : List PyData} {v : V} {G : Hp} (h : (D K (.tuple ds)).p v G) : ∃ a xs, v = .ref a ∧ SqT K G a xs ∧ DeAll K G xs ds := by cases h with | tup h t => exact ⟨_, _, rfl, h, t⟩
theorem D.lst {K : PySem.W.Frag} {ds : List PyData} {v : V} {G : Hp} (h : (D K (.list ds)).p v G) : ∃ a xs, v = .ref a ∧ G a = some (.lst xs) ∧ DeAll K G xs ds := by cases h with | lst h t => exact ⟨_, _, rfl, h, t⟩
theorem DeAll.length {K : PySem.W.Frag} {G : Hp} : ∀ {vs : List V} {ds : List PyData}, DeAll K G vs ds → vs.length = ds.length
  | _, _, .nil => rfl
  | _, _, .cons _ t => congrArg (· + 1) (DeAll.length t)
theorem DeAll.get {K : PySem.W.Frag} {G : Hp} : ∀ {vs : List V} {ds : List PyData} {i : Nat} {d : PyData}, DeAll K G vs ds → ds[i]? = some d → ∃ v, vs[i]? = some v ∧ De K G v d
  | _, _, 0, _, .cons h _, e => ⟨_, rfl, by cases e; exact h⟩
  | _, _, i + 1, _, .cons _ t, e => DeAll.get (i := i) t e
theorem DeAll.get' {K : PySem.W.Frag} {G : Hp} : ∀ {vs : List V} {ds : List PyData} {i : Nat} {v : V}, DeAll K G vs ds → vs[i]? = some v → ∃ d, ds[i]? = some d ∧ De K G v d
  | _, _, 0, _, .cons h _, e => ⟨_, rfl, by cases e; exact h⟩
  | _, _, i + 1, _, .cons _ t, e => DeAll.get' (i := i) t e
theorem DeAll.append {K : PySem.W.Frag} {G : Hp} : ∀ {vs us : List V} {ds es : List PyData}, DeAll K G vs ds → DeAll K G us es → DeAll K G (vs ++ us) (ds ++ es)
  | _, _, _, _, .nil, h => h
  | _, _, _, _, .cons a t, h => .cons a (DeAll.append t h)
theorem DeAll.take {K : PySem.W.Frag} {G : Hp} : ∀ {vs : List V} {ds : List PyData} (n : Nat), DeAll K G vs ds → DeAll K G (vs.take n) (ds.take n)
  | _, _, 0, _ => .nil
  | _, _, _ + 1, .nil => .nil
  | _, _, n + 1, .cons h t => .cons h (DeAll.take n t)
theorem DeAll.drop {K : PySem.W.Frag} {G : Hp} : ∀ {vs : List V} {ds : List PyData} (n : Nat), DeAll K G vs ds → DeAll K G (vs.drop n) (ds.drop n)
  | _, _, 0, h => h
  | _, _, _ + 1, .nil => .nil
  | _, _, n + 1, .cons _ t => DeAll.drop n t
theorem DeAll.ints {K : PySem.W.Frag} {G : Hp} : ∀ {ns : List Int} {vs : List V}, DeAll K G vs (ns.map PyData.int) → vs = ns.map V.int
  | [], _, h => by cases h; rfl
  | n :: ns, _, h => by
    cases h with
    | cons h t => cases h; rw [DeAll.ints t]; rfl
theorem DeAll.of_ints {K : PySem.W.Frag} {G : Hp} : ∀ (ns : List Int), DeAll K G (ns.map V.int) (ns.map PyData.int)
  | [] => .nil
  | n :: ns => .cons (.int n) (DeAll.of_ints ns)
theorem DeAll.strs {K : PySem.W.Frag} {G : Hp} : ∀ {ns : List Str} {vs : List V}, DeAll K G vs (ns.map PyData.str) → vs = ns.map V.str
  | [], _, h => by cases h; rfl
  | n :: ns, _, h => by
    cases h with
    | cons h t => cases h; rw [DeAll.strs t]; rfl
theorem DeAll.of_strs {K : PySem.W.Frag} {G : Hp} : ∀ (ns : List Str), DeAll K G (ns.map V.str) (ns.map PyData.str)
  | [] => .nil
  | n :: ns => .cons (.str n) (DeAll.of_strs ns)
theorem DeAll.bools {K : PySem.W.Frag} {G : Hp} : ∀ {ns : List Bool} {vs : List V}, DeAll K G vs (ns.map PyData.bool) → vs = ns.map V.bl
  | [], _, h => by cases h; rfl
  | n :: ns, _, h => by
    cases h with
    | cons h t => cases h; rw [DeAll.bools t]; rfl
/-- what is being built: it stands in H so, and is no part of G -/
abbrev Bu := List (Addr × HO)
structure Owns (M : Am) (O : Bu) (G H : Hp) : Prop where
  o : ∀ q ∈ O, H q.1 = some q.2 ∧ G q.1 = none ∧ ¬ M.ad q.1 ∧ isX q.2 = false
  a : ∀ a, M.ad a → G a = none
  i : M.inv H
  f : M.fx G
theorem Owns.gr {M : Am} {O : Bu} {G H G' H' : Hp} (o : Owns M O G H) (g : Gr M G H G' H') : Owns M O G' H' :=
  ⟨fun q hq => ⟨g.h _ _ (o.o q hq).2.2.1 (o.o q hq).1, g.n _ (o.o q hq).2.1 (fun z => by rw [(o.o q hq).1] at z; cases z), (o.o q hq).2.2⟩, fun a z => g.n a (o.a a z) (M.al o.i z), g.i o.i, M.fu (fun a q e => g.g a q e) o.f⟩
/-- te gives R wherever more than G stands -/
def Ev (M : Am) (O : Bu) (te : TE) (σ : L2.St) (G : Hp) (R : Rp) : Prop := ∀ G1 H1 : Hp, Same G G1 → Same G1 H1 → Owns M O G1 H1 → ∀ Q : VK, (∀ v G2 H2, Gr M G1 H1 G2 H2 → R.p v G2 → Q v H2) → te σ H1 Q
def EvT (M : Am) (O : Bu) (tt : TT) (σ : L2.St) (G : Hp) (b : Bool) : Prop := ∀ G1 H1 : Hp, Same G G1 → Same G1 H1 → Owns M O G1 H1 → ∀ Q : Bool → Hp → Prop, (∀ G2 H2, Gr M G1 H1 G2 H2 → Q b H2) → tt σ H1 Q
/-- values, one by one -/
def RAll : List Rp → List V → Hp → Prop
  | [], vs, _ => vs = []
  | R :: Rs, vs, G => ∃ v r, vs = v :: r ∧ R.p v G ∧ RAll Rs r G
theorem RAll.up : ∀ {Rs : List Rp} {vs : List V} {G G' : Hp}, Same G G' → RAll Rs vs G → RAll Rs vs G'
  | [], _, _, _, _, h => h
  | R :: _, _, _, _, s, ⟨v, r, e, h, t⟩ => ⟨v, r, e, R.up s h, RAll.up s t⟩
def EvA (M : Am) (O : Bu) (ta : TA) (σ : L2.St) (G : Hp) (Rs : List Rp) : Prop := ∀ G1 H1 : Hp, Same G G1 → Same G1 H1 → Owns M O G1 H1 → ∀ Q : List V → Hp → Prop, (∀ vs G2 H2, Gr M G1 H1 G2 H2 → RAll Rs vs G2 → Q vs H2) → ta σ H1 Q
section
variable {M : Am} {O : Bu} {K : PySem.W.Frag} {σ : L2.St} {G : Hp} {R Ra Rb : Rp} {te ta tb tc : TE} {tA tB' : TT}
theorem Ev.up {G' : Hp} (h : Ev M O te σ G R) (s : Same G G') : Ev M O te σ G' R := fun G1 H1 s1 s2 o Q k => h G1 H1 (s.trans s1) s2 o Q k
theorem EvT.up {b : Bool} {G' : Hp} (h : EvT M O tA σ G b) (s : Same G G') : EvT M O tA σ G' b := fun G1 H1 s1 s2 o Q k => h G1 H1 (s.trans s1) s2 o Q k
theorem Ev.eq {d e : PyData} (h : Ev M O te σ G (D K d)) (q : d = e) : Ev M O te σ G (D K e) := q ▸ h
theorem EvT.eq {d e : Bool} (h : EvT M O tA σ G d) (q : d = e) : EvT M O tA σ G e := q ▸ h
theorem ev_v {i : Nat} {v : V} (e : σ[i]? = some (some v)) (h : R.p v G) : Ev M O (tVar i) σ G R := fun _ _ s1 s2 _ _ k => ⟨v, e, k v _ _ (Gr.refl s2) (R.up s1 h)⟩
theorem ev_c {v : V} (h : R.p v G) : Ev M O (tC v) σ G R := fun _ _ s1 s2 _ _ k => k v _ _ (Gr.refl s2) (R.up s1 h)
theorem ev_int (n : Int) : Ev M O (tC (.int n)) σ G (D K (.int n)) := ev_c (R := D K (.int n)) (.int n)
theorem ev_str (n : Str) : Ev M O (tC (.str n)) σ G (D K (.str n)) := ev_c (R := D K (.str n)) (.str n)
theorem ev_bl (n : Bool) : Ev M O (tC (.bl n)) σ G (D K (.bool n)) := ev_c (R := D K (.bool n)) (.bl n)
theorem ev_non : Ev M O (tC .non) σ G (D K .none) := ev_c (R := D K .none) .non
theorem eva_nil : EvA M O tNil σ G [] := fun _ _ _ s2 _ _ k => k [] _ _ (Gr.refl s2) rfl
theorem eva_cons {Rs : List Rp} {tr : TA} (h : Ev M O ta σ G R) (t : EvA M O tr σ G Rs) : EvA M O (tCons ta tr) σ G (R :: Rs) := fun G1 H1 s1 s2 o Q k =>
  h G1 H1 s1 s2 o _ fun v G2 H2 g r => t G2 H2 (s1.trans g.g) g.s (o.gr g) _ fun vs G3 H3 g' r' => k _ _ _ (g.trans g') ⟨v, vs, rfl, R.up g'.g r, r'⟩
/-- two values, then what is done with them -/
theorem ev2 {r : V → V → Hp → VK → Prop} (ha : Ev M O ta σ G Ra) (hb : Ev M O tb σ G Rb)
    (h : ∀ x y (G1 H1 : Hp) (Q : VK), Same G G1 → Same G1 H1 → Owns M O G1 H1 → Ra.p x G1 → Rb.p y G1 → (∀ v G2 H2, Gr M G1 H1 G2 H2 → R.p v G2 → Q v H2) → r x y H1 Q) : Ev M O (tOp r ta tb) σ G R := fun G1 H1 s1 s2 o Q k =>
  ha G1 H1 s1 s2 o _ fun x G2 H2 g rx => hb G2 H2 (s1.trans g.g) g.s (o.gr g) _ fun y G3 H3 g' ry => h x y G3 H3 Q ((s1.trans g.g).trans g'.g) g'.s ((o.gr g).gr g') (Ra.up g'.g rx) ry fun v G4 H4 g2 q => k v G4 H4 ((g.trans g').trans g2) q
theorem ev_I0 {f : Int → Int → V} {a b : Int} {d : PyData} (ha : Ev M O ta σ G (D K (.int a))) (hb : Ev M O tb σ G (D K (.int b))) (hd : ∀ H, De K H (f a b) d) : Ev M O (tOp (rI0 f) ta tb) σ G (D K d) :=
  ev2 ha hb fun x y G1 H1 Q _ s _ rx ry k => ⟨a, b, D.int rx, D.int ry, k _ _ _ (Gr.refl s) (hd _)⟩
theorem ev_I {C : Int → Int → Prop} {f : Int → Int → V} {a b : Int} {d : PyData} (ha : Ev M O ta σ G (D K (.int a))) (hb : Ev M O tb σ G (D K (.int b))) (hc : C a b) (hd : ∀ H, De K H (f a b) d) : Ev M O (tOp (rI C f) ta tb) σ G (D K d) :=
  ev2 ha hb fun x y G1 H1 Q _ s _ rx ry k => ⟨a, b, D.int rx, D.int ry, hc, k _ _ _ (Gr.refl s) (hd _)⟩
theorem ev_add {a b : Int} (ha : Ev M O ta σ G (D K (.int a))) (hb : Ev M O tb σ G (D K (.int b))) : Ev M O (tOp (rI0 fun i j => .int (i + j)) ta tb) σ G (D K (.int (a + b))) := ev_I0 ha hb fun _ => .int _
theorem ev_sub {a b : Int} (ha : Ev M O ta σ G (D K (.int a))) (hb : Ev M O tb σ G (D K (.int b))) : Ev M O (tOp (rI0 fun i j => .int (i - j)) ta tb) σ G (D K (.int (a - b))) := ev_I0 ha hb fun _ => .int _
theorem ev_mul {a b : Int} (ha : Ev M O ta σ G (D K (.int a))) (hb : Ev M O tb σ G (D K (.int b))) (hc : CMul a b) : Ev M O (tOp (rI CMul fun i j => .int (i * j)) ta tb) σ G (D K (.int (a * b))) := ev_I ha hb hc fun _ => .int _
theorem ev_mod {a b : Int} (ha : Ev M O ta σ G (D K (.int a))) (hb : Ev M O tb σ G (D K (.int b))) (hc : 0 < b) : Ev M O (tOp (rI (fun _ j => 0 < j) fun i j => .int (i % j)) ta tb) σ G (D K (.int (a % b))) := ev_I ha hb hc fun _ => .int _
theorem ev_neg {a : Int} (ha : Ev M O ta σ G (D K (.int a))) : Ev M O (tUn (rU fun i => .int (-i)) ta) σ G (D K (.int (-a))) := fun G1 H1 s1 s2 o Q k => ha G1 H1 s1 s2 o _ fun v G2 H2 g r => ⟨a, D.int r, k _ _ _ g (.int _)⟩
theorem ev_lt {a b : Int} (ha : Ev M O ta σ G (D K (.int a))) (hb : Ev M O tb σ G (D K (.int b))) : Ev M O (tOp (rI0 fun i j => .bl (decide (i < j))) ta tb) σ G (D K (.bool (decide (a < b)))) := ev_I0 ha hb fun _ => .bl _
theorem ev_le {a b : Int} (ha : Ev M O ta σ G (D K (.int a))) (hb : Ev M O tb σ G (D K (.int b))) : Ev M O (tOp (rI0 fun i j => .bl (decide (i ≤ j))) ta tb) σ G (D K (.bool (decide (a ≤ b)))) := ev_I0 ha hb fun _ => .bl _
theorem ev_gt {a b : Int} (ha : Ev M O ta σ G (D K (.int a))) (hb : Ev M O tb σ G (D K (.int b))) : Ev M O (tOp (rI0 fun i j => .bl (decide (j < i))) ta tb) σ G (D K (.bool (decide (b < a)))) := ev_I0 ha hb fun _ => .bl _
theorem ev_ge {a b : Int} (ha : Ev M O ta σ G (D K (.int a))) (hb : Ev M O tb σ G (D K (.int b))) : Ev M O (tOp (rI0 fun i j => .bl (decide (j ≤ i))) ta tb) σ G (D K (.bool (decide (b ≤ a)))) := ev_I0 ha hb fun _ => .bl _
/-- == of two scalars -/
def scD : PyData → Option V
  | .none => some .non
  | .bool b => some (.bl b)
  | .int i => some (.int i)
  | .str s => some (.str s)
  | _ => Option.none
theorem scD_v {d : PyData} {x v : V} {G : Hp} (h : De K G v d) (e : scD d = some x) : v = x := by
  cases h <;> first | exact Option.some.inj e | cases e
theorem ev_eq {d e : PyData} {x y : V} (ha : Ev M O ta σ G (D K d)) (hb : Ev M O tb σ G (D K e)) (hx : scD d = some x) (hy : scD e = some y) (hs : scal x y = true) : Ev M O (tOp rEq ta tb) σ G (D K (.bool (decide (x = y)))) :=
  ev2 ha hb fun u v G1 H1 Q _ s _ ru rv k => by
    obtain rfl := scD_v ru hx
    obtain rfl := scD_v rv hy
    exact ⟨hs, k _ _ _ (Gr.refl s) (.bl _)⟩
theorem ev_ne {d e : PyData} {x y : V} (ha : Ev M O ta σ G (D K d)) (hb : Ev M O tb σ G (D K e)) (hx : scD d = some x) (hy : scD e = some y) (hs : scal x y = true) : Ev M O (tOp rNe ta tb) σ G (D K (.bool (!decide (x = y)))) :=
  ev2 ha hb fun u v G1 H1 Q _ s _ ru rv k => by
    obtain rfl := scD_v ru hx
    obtain rfl := scD_v rv hy
    exact ⟨hs, k _ _ _ (Gr.refl s) (.bl _)⟩
theorem ev_eqI {a b : Int} (ha : Ev M O ta σ G (D K (.int a))) (hb : Ev M O tb σ G (D K (.int b))) : Ev M O (tOp rEq ta tb) σ G (D K (.bool (decide (a = b)))) :=
  (ev_eq ha hb rfl rfl rfl).eq (congrArg PyData.bool (by simp))
theorem ev_neI {a b : Int} (ha : Ev M O ta σ G (D K (.int a))) (hb : Ev M O tb σ G (D K (.int b))) : Ev M O (tOp rNe ta tb) σ G (D K (.bool (!decide (a = b)))) :=
  (ev_ne ha hb rfl rfl rfl).eq (congrArg PyData.bool (by simp))
theorem ev_eqS {a b : Str} (ha : Ev M O ta σ G (D K (.str a))) (hb : Ev M O tb σ G (D K (.str b))) : Ev M O (tOp rEq ta tb) σ G (D K (.bool (decide (a = b)))) :=
  (ev_eq ha hb rfl rfl rfl).eq (congrArg PyData.bool (by simp))
theorem ev_neS {a b : Str} (ha : Ev M O ta σ G (D K (.str a))) (hb : Ev M O tb σ G (D K (.str b))) : Ev M O (tOp rNe ta tb) σ G (D K (.bool (!decide (a = b)))) :=
  (ev_ne ha hb rfl rfl rfl).eq (congrArg PyData.bool (by simp))
theorem ev_eqD {d e : PyData} (ha : Ev M O ta σ G (D K d)) (hb : Ev M O tb σ G (D K e)) (hd : SeqAt.shaped d = true) (he : SeqAt.shaped e = true) : Ev M O (tOp (rEqD K) ta tb) σ G (D K (.bool (PyData.eqv d e))) :=
  ev2 ha hb fun u v G1 H1 Q _ s _ ru rv k => ⟨d, e, (De.up s ru).dp, (De.up s rv).dp, hd, he, k _ _ _ (Gr.refl s) (.bl _)⟩
theorem ev_neD {d e : PyData} (ha : Ev M O ta σ G (D K d)) (hb : Ev M O tb σ G (D K e)) (hd : SeqAt.shaped d = true) (he : SeqAt.shaped e = true) : Ev M O (tOp (rNeD K) ta tb) σ G (D K (.bool (!PyData.eqv d e))) :=
  ev2 ha hb fun u v G1 H1 Q _ s _ ru rv k => ⟨d, e, (De.up s ru).dp, (De.up s rv).dp, hd, he, k _ _ _ (Gr.refl s) (.bl _)⟩
theorem ev_isN {d : PyData} {te : TE} (ha : Ev M O te σ G (D K d)) : Ev M O (tIsN te) σ G (D K (.bool (match d with | .none => true | _ => false))) := fun G1 H1 s1 s2 o Q k => ha G1 H1 s1 s2 o _ fun v G2 H2 g r => k _ _ _ g (by
  cases r <;> exact .bl _)
theorem ev_notN {d : PyData} {te : TE} (ha : Ev M O te σ G (D K d)) : Ev M O (tNotN te) σ G (D K (.bool (match d with | .none => false | _ => true))) := fun G1 H1 s1 s2 o Q k => ha G1 H1 s1 s2 o _ fun v G2 H2 g r => k _ _ _ g (by
  cases r <;> exact .bl _)
/-! and, or, not, if -/
theorem ev_not {b : Bool} (h : Ev M O ta σ G (D K (.bool b))) : Ev M O (tNotV ta) σ G (D K (.bool (!b))) := fun G1 H1 s1 s2 o Q k => h G1 H1 s1 s2 o _ fun v G2 H2 g r => ⟨b, D.bool r, k _ _ _ g (.bl _)⟩
theorem ev_and {a b : Bool} (ha : Ev M O ta σ G (D K (.bool a))) (hb : a = true → Ev M O tb σ G (D K (.bool b))) : Ev M O (tAndV ta tb) σ G (D K (.bool (a && b))) := fun G1 H1 s1 s2 o Q k =>
  ha G1 H1 s1 s2 o _ fun v G2 H2 g r => ⟨a, D.bool r, by
    cases a with
    | true => exact iteT (hb rfl G2 H2 (s1.trans g.g) g.s (o.gr g) _ fun v G3 H3 g' r' => k _ _ _ (g.trans g') r')
    | false => exact iteF (k _ _ _ g (.bl _))⟩
theorem ev_or {a b : Bool} (ha : Ev M O ta σ G (D K (.bool a))) (hb : a = false → Ev M O tb σ G (D K (.bool b))) : Ev M O (tOrV ta tb) σ G (D K (.bool (a || b))) := fun G1 H1 s1 s2 o Q k =>
  ha G1 H1 s1 s2 o _ fun v G2 H2 g r => ⟨a, D.bool r, by
    cases a with
    | true => exact iteT (k _ _ _ g (.bl _))
    | false => exact iteF (hb rfl G2 H2 (s1.trans g.g) g.s (o.gr g) _ fun v G3 H3 g' r' => k _ _ _ (g.trans g') r')⟩
theorem evt_val {b : Bool} (h : Ev M O ta σ G (D K (.bool b))) : EvT M O (tB ta) σ G b := fun G1 H1 s1 s2 o Q k => h G1 H1 s1 s2 o _ fun v G2 H2 g r => ⟨b, D.bool r, k _ _ g⟩
theorem evt_test {b : Bool} (h : Ev M O ta σ G (D K (.bool b))) : EvT M O (tTest ta) σ G b := fun G1 H1 s1 s2 o Q k => h G1 H1 s1 s2 o _ fun v G2 H2 g r => ⟨b, D.bool r, k _ _ g⟩
theorem evt_not {b : Bool} (h : EvT M O tA σ G b) : EvT M O (tNot tA) σ G (!b) := fun G1 H1 s1 s2 o Q k => h G1 H1 s1 s2 o _ fun G2 H2 g => k _ _ g
theorem evt_and {a b : Bool} (ha : EvT M O tA σ G a) (hb : a = true → EvT M O tB' σ G b) : EvT M O (tAnd tA tB') σ G (a && b) := fun G1 H1 s1 s2 o Q k =>
  ha G1 H1 s1 s2 o _ fun G2 H2 g => by
    cases a with
    | true => exact iteT (hb rfl G2 H2 (s1.trans g.g) g.s (o.gr g) _ fun G3 H3 g' => k _ _ (g.trans g'))
    | false => exact iteF (k _ _ g)
theorem evt_or {a b : Bool} (ha : EvT M O tA σ G a) (hb : a = false → EvT M O tB' σ G b) : EvT M O (tOr tA tB') σ G (a || b) := fun G1 H1 s1 s2 o Q k =>
  ha G1 H1 s1 s2 o _ fun G2 H2 g => by
    cases a with
    | true => exact iteT (k _ _ g)
    | false => exact iteF (hb rfl G2 H2 (s1.trans g.g) g.s (o.gr g) _ fun G3 H3 g' => k _ _ (g.trans g'))
theorem ev_ite {c : Bool} (hc : EvT M O tA σ G c) (ha : c = true → Ev M O ta σ G R) (hb : c = false → Ev M O tb σ G R) : Ev M O (tIf tA ta tb) σ G R := fun G1 H1 s1 s2 o Q k =>
  hc G1 H1 s1 s2 o _ fun G2 H2 g => by
    cases c with
    | true => exact iteT (ha rfl G2 H2 (s1.trans g.g) g.s (o.gr g) _ fun v G3 H3 g' r => k _ _ _ (g.trans g') r)
    | false => exact iteF (hb rfl G2 H2 (s1.trans g.g) g.s (o.gr g) _ fun v G3 H3 g' r => k _ _ _ (g.trans g') r)
end
end Own

set_option linter.all false
set_option linter.unusedVariables false
namespace Own
open PySem L2
/-- values, their data -/
def EvL (M : Am) (O : Bu) (K : PySem.W.Frag) (ta : TA) (σ : L2.St) (G : Hp) (ds : List PyData) : Prop := ∀ G1 H1 : Hp, Same G G1 → Same G1 H1 → Owns M O G1 H1 → ∀ Q : List V → Hp → Prop, (∀ vs G2 H2, Gr M G1 H1 G2 H2 → DeAll K G2 vs ds → Q vs H2) → ta σ H1 Q
def EvPt (M : Am) (O : Bu) (tp : TO) (σ : L2.St) (G : Hp) (o : Option Int) : Prop := ∀ G1 H1 : Hp, Same G G1 → Same G1 H1 → Owns M O G1 H1 → ∀ Q : Option Int → Hp → Prop, (∀ G2 H2, Gr M G1 H1 G2 H2 → Q o H2) → tp σ H1 Q
/-- a part of a list -/
def cutD {α : Type} (xs : List α) (lo hi : Option Int) : List α := (xs.drop (HT.sIx xs.length 0 lo)).take (HT.sIx xs.length xs.length hi - HT.sIx xs.length 0 lo)
theorem DeAll.cutD {K : PySem.W.Frag} {G : Hp} {vs : List V} {ds : List PyData} (h : DeAll K G vs ds) (lo hi : Option Int) : DeAll K G (cutV vs lo hi) (cutD ds lo hi) := by
  unfold cutV Own.cutD
  rw [h.length]
  exact (h.drop _).take _
theorem cutD_whole {α : Type} {xs : List α} {lo hi : Option Int} (h : HT.sIx xs.length 0 lo = 0 ∧ HT.sIx xs.length xs.length hi = xs.length) : cutD xs lo hi = xs := by
  unfold cutD
  rw [h.1, h.2, List.drop_zero, Nat.sub_zero, List.take_length]
theorem DeAll.at {K : PySem.W.Frag} {G : Hp} {vs : List V} {ds : List PyData} {i : Int} {d : PyData} (h : DeAll K G vs ds) (e : atI ds i = some d) : ∃ v, atI vs i = some v ∧ De K G v d := by
  unfold atI at e ⊢
  rw [← h.length] at e
  cases q : ixN vs.length i with
  | none => rw [q] at e; cases e
  | some j => rw [q] at e; exact DeAll.get (i := j) h e
section
variable {M : Am} {O : Bu} {K : PySem.W.Frag} {σ : L2.St} {G : Hp} {R Ra Rb : Rp} {te ta tb tc : TE} {tA tB' : TT} {t tr : TA}
theorem evl_nil : EvL M O K tNil σ G [] := fun _ _ _ s2 _ _ k => k [] _ _ (Gr.refl s2) .nil
theorem evl_cons {d : PyData} {ds : List PyData} (h : Ev M O ta σ G (D K d)) (t : EvL M O K tr σ G ds) : EvL M O K (tCons ta tr) σ G (d :: ds) := fun G1 H1 s1 s2 o Q k =>
  h G1 H1 s1 s2 o _ fun v G2 H2 g r => t G2 H2 (s1.trans g.g) g.s (o.gr g) _ fun vs G3 H3 g' r' => k _ _ _ (g.trans g') (.cons (De.up g'.g r) r')
theorem ev_tup {ds : List PyData} (h : EvL M O K t σ G ds) (hz : ds.length ≤ sizeLine) : Ev M O (tTup t) σ G (D K (.tuple ds)) := fun G1 H1 s1 s2 o Q k =>
  h G1 H1 s1 s2 o _ fun vs G2 H2 g r => ⟨by rw [r.length]; exact hz, fun p np => k _ _ _ (g.trans (Gr.new g.s np)) (.tup (.inl (.inl upd_same)) (r.up (same_fresh (g.s.free np))))⟩
theorem ev_lst {ds : List PyData} (h : EvL M O K t σ G ds) (hz : ds.length ≤ sizeLine) : Ev M O (tLst t) σ G (D K (.list ds)) := fun G1 H1 s1 s2 o Q k =>
  h G1 H1 s1 s2 o _ fun vs G2 H2 g r => ⟨by rw [r.length]; exact hz, fun p np => k _ _ _ (g.trans (Gr.new g.s np)) (.lst upd_same (r.up (same_fresh (g.s.free np))))⟩
theorem ev_ixT {ds : List PyData} {i : Int} {d : PyData} (ha : Ev M O ta σ G (D K (.tuple ds))) (hb : Ev M O tb σ G (D K (.int i))) (e : atI ds i = some d) : Ev M O (tOp (rIxT K) ta tb) σ G (D K d) :=
  ev2 ha hb fun x y G1 H1 Q _ s _ rx ry k => by
    obtain ⟨a, xs, rfl, h1, h2⟩ := D.tup rx
    obtain ⟨v, e2, rv⟩ := h2.at e
    exact ⟨a, xs, i, v, rfl, D.int ry, sqT_up s h1, e2, k _ _ _ (Gr.refl s) rv⟩
theorem ev_ixL {ds : List PyData} {i : Int} {d : PyData} (ha : Ev M O ta σ G (D K (.list ds))) (hb : Ev M O tb σ G (D K (.int i))) (e : atI ds i = some d) : Ev M O (tOp (rIxL K) ta tb) σ G (D K d) :=
  ev2 ha hb fun x y G1 H1 Q _ s _ rx ry k => by
    obtain ⟨a, xs, rfl, h1, h2⟩ := D.lst rx
    obtain ⟨v, e2, rv⟩ := h2.at e
    exact ⟨a, xs, i, v, rfl, D.int ry, .inl (.inl (s _ _ h1)), e2, k _ _ _ (Gr.refl s) rv⟩
theorem evp_none : EvPt M O tNoPart σ G none := fun _ _ _ s2 _ _ k => k _ _ (Gr.refl s2)
theorem evp_some {i : Int} (h : Ev M O te σ G (D K (.int i))) : EvPt M O (tPart te) σ G (some i) := fun G1 H1 s1 s2 o Q k => h G1 H1 s1 s2 o _ fun v G2 H2 g r => ⟨i, D.int r, k _ _ g⟩
theorem ev_slL {tl th : TO} {lo hi : Option Int} {ds : List PyData} (ha : Ev M O ta σ G (D K (.list ds))) (hl : EvPt M O tl σ G lo) (hh : EvPt M O th σ G hi) : Ev M O (tSl (rSlL K) ta tl th) σ G (D K (.list (cutD ds lo hi))) := fun G1 H1 s1 s2 o Q k =>
  ha G1 H1 s1 s2 o _ fun x G2 H2 g rx => hl G2 H2 (s1.trans g.g) g.s (o.gr g) _ fun G3 H3 g3 => hh G3 H3 ((s1.trans g.g).trans g3.g) g3.s ((o.gr g).gr g3) _ fun G4 H4 g4 => by
    obtain ⟨a, xs, rfl, h1, h2⟩ := D.lst ((D K _).up (g3.g.trans g4.g) rx)
    exact ⟨a, xs, rfl, .inl (.inl (g4.s _ _ h1)), fun p np => k _ _ _ (((g.trans g3).trans g4).trans (Gr.new g4.s np)) (.lst upd_same ((h2.cutD lo hi).up (same_fresh (g4.s.free np))))⟩
theorem ev_slA {tl th : TO} {lo hi : Option Int} {ds : List PyData} (ha : Ev M O ta σ G (D K (.tuple ds))) (hl : EvPt M O tl σ G lo) (hh : EvPt M O th σ G hi) : Ev M O (tSl (rSlA K) ta tl th) σ G (D K (.tuple (cutD ds lo hi))) := fun G1 H1 s1 s2 o Q k =>
  ha G1 H1 s1 s2 o _ fun x G2 H2 g rx => hl G2 H2 (s1.trans g.g) g.s (o.gr g) _ fun G3 H3 g3 => hh G3 H3 ((s1.trans g.g).trans g3.g) g3.s ((o.gr g).gr g3) _ fun G4 H4 g4 => by
    obtain ⟨a, xs, rfl, h1, h2⟩ := D.tup ((D K _).up (g3.g.trans g4.g) rx)
    have gg := (g.trans g3).trans g4
    refine ⟨a, xs, rfl, sqT_up g4.s h1, fun w => k _ _ _ gg (.tup h1 ?_), fun _ p np => k _ _ _ (gg.trans (Gr.new g4.s np)) (.tup (.inl (.inl upd_same)) ((h2.cutD lo hi).up (same_fresh (g4.s.free np))))⟩
    rw [h2.length] at w
    rw [cutD_whole w]
    exact h2
theorem ev_catL {ds es : List PyData} (ha : Ev M O ta σ G (D K (.list ds))) (hb : Ev M O tb σ G (D K (.list es))) (hz : ds.length + es.length ≤ sizeLine) : Ev M O (tOp rCat ta tb) σ G (D K (.list (ds ++ es))) :=
  ev2 ha hb fun x y G1 H1 Q _ s _ rx ry k => by
    obtain ⟨a, xs, rfl, h1, h2⟩ := D.lst rx
    obtain ⟨b, ys, rfl, h3, h4⟩ := D.lst ry
    exact ⟨a, b, xs, ys, rfl, rfl, s _ _ h1, s _ _ h3, by rw [h2.length, h4.length]; exact hz, fun p np => k _ _ _ (Gr.new s np) (.lst upd_same ((h2.append h4).up (same_fresh (s.free np))))⟩
theorem ev_catA {ds es : List PyData} (ha : Ev M O ta σ G (D K (.tuple ds))) (hb : Ev M O tb σ G (D K (.tuple es))) (hz : ds.length + es.length ≤ sizeLine) : Ev M O (tOp (rCatA K) ta tb) σ G (D K (.tuple (ds ++ es))) :=
  ev2 ha hb fun x y G1 H1 Q _ s _ rx ry k => by
    obtain ⟨a, xs, rfl, h1, h2⟩ := D.tup rx
    obtain ⟨b, ys, rfl, h3, h4⟩ := D.tup ry
    refine ⟨a, b, xs, ys, rfl, rfl, sqT_up s h1, sqT_up s h3, by rw [h2.length, h4.length]; exact hz, fun e => ?_, fun _ e => ?_, fun _ _ p np => k _ _ _ (Gr.new s np) (.tup (.inl (.inl upd_same)) ((h2.append h4).up (same_fresh (s.free np))))⟩
    · subst e
      cases h2
      exact k _ _ _ (Gr.refl s) (.tup h3 h4)
    · subst e
      cases h4
      rw [List.append_nil] at k
      exact k _ _ _ (Gr.refl s) (.tup h1 h2)
theorem ev_catS {a b : Str} (ha : Ev M O ta σ G (D K (.str a))) (hb : Ev M O tb σ G (D K (.str b))) (hz : a.length + b.length ≤ sizeLine) : Ev M O (tOp (fun x y H Q => ∃ i j, x = .str i ∧ y = .str j ∧ i.length + j.length ≤ sizeLine ∧ Q (.str (i ++ j)) H) ta tb) σ G (D K (.str (a ++ b))) :=
  ev2 ha hb fun x y G1 H1 Q _ s _ rx ry k => ⟨a, b, D.str rx, D.str ry, hz, k _ _ _ (Gr.refl s) (.str _)⟩
theorem DeAll.flatten {n : Nat} {vs : List V} {ds : List PyData} (h : DeAll K G vs ds) : DeAll K G (List.replicate n vs).flatten (List.replicate n ds).flatten := by
  induction n with
  | zero => exact .nil
  | succ n ih => rw [List.replicate_succ, List.replicate_succ, List.flatten_cons, List.flatten_cons]; exact h.append ih
theorem ev_rep {ds : List PyData} {n : Int} (ha : Ev M O ta σ G (D K (.list ds))) (hb : Ev M O tb σ G (D K (.int n))) (h1 : -(2 ^ 63) ≤ n) (h2 : n < 2 ^ 63) (hz : ds.length * n.toNat ≤ sizeLine) : Ev M O (tOp rRep ta tb) σ G (D K (.list (List.replicate n.toNat ds).flatten)) :=
  ev2 ha hb fun x y G1 H1 Q _ s _ rx ry k => by
    obtain ⟨a, xs, rfl, q1, q2⟩ := D.lst rx
    exact ⟨a, n, xs, rfl, D.int ry, s _ _ q1, h1, h2, by rw [q2.length]; exact hz, fun p np => k _ _ _ (Gr.new s np) (.lst upd_same (q2.flatten.up (same_fresh (s.free np))))⟩
/-! ### in -/
def flD : PyData → Bool
  | .none => true
  | .bool _ => true
  | .int _ => true
  | .str _ => true
  | _ => false
theorem fl_of {d : PyData} {v : V} (h : De K G v d) (f : flD d = true) : flatV v = true := by cases h <;> first | rfl | cases f
theorem fl_all {ds : List PyData} {vs : List V} (h : DeAll K G vs ds) (f : ds.all flD = true) : vs.all flatV = true := by
  induction ds generalizing vs with
  | nil => cases h; rfl
  | cons d ds ih =>
    cases h with
    | cons h t =>
      rw [List.all_cons, Bool.and_eq_true] at f ⊢
      exact ⟨fl_of h f.1, ih t f.2⟩
theorem eqv_of {d e : PyData} {v u : V} (h : De K G v d) (q : De K G u e) (f : flD d = true) : eqV v u = PyData.eqv d e := by
  cases h <;> cases q <;> first | rfl | cases f
theorem in_of {d : PyData} {ds : List PyData} {v : V} {vs : List V} (h : De K G v d) (t : DeAll K G vs ds) (f : ds.all flD = true) : inV v vs = ds.any fun e => PyData.eqv e d := by
  unfold inV
  induction ds generalizing vs with
  | nil => cases t; rfl
  | cons e ds ih =>
    cases t with
    | cons q t =>
      rw [List.all_cons, Bool.and_eq_true] at f
      rw [List.any_cons, List.any_cons, eqv_of q h f.1, ih t f.2]
theorem ev_inT {d : PyData} {ds : List PyData} (ha : Ev M O ta σ G (D K d)) (hb : Ev M O tb σ G (D K (.tuple ds))) (f : flD d = true) (fs : ds.all flD = true) : Ev M O (tOp (rIn K false) ta tb) σ G (D K (.bool (ds.any fun e => PyData.eqv e d))) :=
  ev2 ha hb fun x y G1 H1 Q _ s _ rx ry k => by
    obtain ⟨a, xs, rfl, h1, h2⟩ := D.tup ry
    refine ⟨a, xs, rfl, .inr (sqT_up s h1), fl_of rx f, fl_all h2 fs, ?_⟩
    rw [in_of rx h2 fs]
    exact k _ _ _ (Gr.refl s) (.bl _)
theorem ev_inL {d : PyData} {ds : List PyData} (ha : Ev M O ta σ G (D K d)) (hb : Ev M O tb σ G (D K (.list ds))) (f : flD d = true) (fs : ds.all flD = true) : Ev M O (tOp (rIn K false) ta tb) σ G (D K (.bool (ds.any fun e => PyData.eqv e d))) :=
  ev2 ha hb fun x y G1 H1 Q _ s _ rx ry k => by
    obtain ⟨a, xs, rfl, h1, h2⟩ := D.lst ry
    refine ⟨a, xs, rfl, .inl (.inl (.inl (s _ _ h1))), fl_of rx f, fl_all h2 fs, ?_⟩
    rw [in_of rx h2 fs]
    exact k _ _ _ (Gr.refl s) (.bl _)
theorem ev_ninT {d : PyData} {ds : List PyData} (ha : Ev M O ta σ G (D K d)) (hb : Ev M O tb σ G (D K (.tuple ds))) (f : flD d = true) (fs : ds.all flD = true) : Ev M O (tOp (rIn K true) ta tb) σ G (D K (.bool (!ds.any fun e => PyData.eqv e d))) :=
  ev2 ha hb fun x y G1 H1 Q _ s _ rx ry k => by
    obtain ⟨a, xs, rfl, h1, h2⟩ := D.tup ry
    refine ⟨a, xs, rfl, .inr (sqT_up s h1), fl_of rx f, fl_all h2 fs, ?_⟩
    rw [in_of rx h2 fs]
    exact k _ _ _ (Gr.refl s) (.bl _)
theorem ev_ninL {d : PyData} {ds : List PyData} (ha : Ev M O ta σ G (D K d)) (hb : Ev M O tb σ G (D K (.list ds))) (f : flD d = true) (fs : ds.all flD = true) : Ev M O (tOp (rIn K true) ta tb) σ G (D K (.bool (!ds.any fun e => PyData.eqv e d))) :=
  ev2 ha hb fun x y G1 H1 Q _ s _ rx ry k => by
    obtain ⟨a, xs, rfl, h1, h2⟩ := D.lst ry
    refine ⟨a, xs, rfl, .inl (.inl (.inl (s _ _ h1))), fl_of rx f, fl_all h2 fs, ?_⟩
    rw [in_of rx h2 fs]
    exact k _ _ _ (Gr.refl s) (.bl _)
/-! ### built-ins -/
theorem ev_cb {r : List V → Hp → VK → Prop} {ds : List PyData} {d : PyData} (h : EvL M O K t σ G ds) (hr : ∀ (vs : List V) (G1 H1 : Hp) (Q : VK), Same G1 H1 → DeAll K G1 vs ds → (∀ v G2 H2, Gr M G1 H1 G2 H2 → De K G2 v d → Q v H2) → r vs H1 Q) : Ev M O (tCB r t) σ G (D K d) := fun G1 H1 s1 s2 o Q k =>
  h G1 H1 s1 s2 o _ fun vs G2 H2 g r' => hr vs G2 H2 Q g.s r' fun v G3 H3 g' q => k _ _ _ (g.trans g') q
theorem DeAll.one {d : PyData} {vs : List V} (h : DeAll K G vs [d]) : ∃ v, vs = [v] ∧ De K G v d := by cases h with | cons h t => cases t; exact ⟨_, rfl, h⟩
theorem DeAll.two {d e : PyData} {vs : List V} (h : DeAll K G vs [d, e]) : ∃ v u, vs = [v, u] ∧ De K G v d ∧ De K G u e := by cases h with | cons h t => cases t with | cons q t => cases t; exact ⟨_, _, rfl, h, q⟩
theorem ev_lenT {ds : List PyData} (h : Ev M O ta σ G (D K (.tuple ds))) : Ev M O (tCB (fun xs H Q => ∃ p ys, xs = [.ref p] ∧ (SqL K H p ys ∨ SqT K H p ys) ∧ Q (.int ys.length) H) (tCons ta tNil)) σ G (D K (.int (ds.length : Nat))) :=
  ev_cb (evl_cons h evl_nil) fun vs G1 H1 Q s r k => by
    obtain ⟨v, rfl, q⟩ := r.one
    obtain ⟨a, xs, rfl, h1, h2⟩ := D.tup q
    exact ⟨a, xs, rfl, .inr (sqT_up s h1), by rw [h2.length]; exact k _ _ _ (Gr.refl s) (.int _)⟩
theorem ev_lenL {ds : List PyData} (h : Ev M O ta σ G (D K (.list ds))) : Ev M O (tCB (fun xs H Q => ∃ p ys, xs = [.ref p] ∧ (SqL K H p ys ∨ SqT K H p ys) ∧ Q (.int ys.length) H) (tCons ta tNil)) σ G (D K (.int (ds.length : Nat))) :=
  ev_cb (evl_cons h evl_nil) fun vs G1 H1 Q s r k => by
    obtain ⟨v, rfl, q⟩ := r.one
    obtain ⟨a, xs, rfl, h1, h2⟩ := D.lst q
    exact ⟨a, xs, rfl, .inl (.inl (.inl (s _ _ h1))), by rw [h2.length]; exact k _ _ _ (Gr.refl s) (.int _)⟩
theorem ev_listL {ds : List PyData} (h : Ev M O ta σ G (D K (.list ds))) : Ev M O (tCB (fun xs H Q => ∃ p ys, xs = [.ref p] ∧ (SqL K H p ys ∨ SqT K H p ys) ∧ ∀ l, H l = none → Q (.ref l) (upd H l (.lst ys))) (tCons ta tNil)) σ G (D K (.list ds)) :=
  ev_cb (evl_cons h evl_nil) fun vs G1 H1 Q s r k => by
    obtain ⟨v, rfl, q⟩ := r.one
    obtain ⟨a, xs, rfl, h1, h2⟩ := D.lst q
    exact ⟨a, xs, rfl, .inl (.inl (.inl (s _ _ h1))), fun p np => k _ _ _ (Gr.new s np) (.lst upd_same (h2.up (same_fresh (s.free np))))⟩
theorem ev_listT {ds : List PyData} (h : Ev M O ta σ G (D K (.tuple ds))) : Ev M O (tCB (fun xs H Q => ∃ p ys, xs = [.ref p] ∧ (SqL K H p ys ∨ SqT K H p ys) ∧ ∀ l, H l = none → Q (.ref l) (upd H l (.lst ys))) (tCons ta tNil)) σ G (D K (.list ds)) :=
  ev_cb (evl_cons h evl_nil) fun vs G1 H1 Q s r k => by
    obtain ⟨v, rfl, q⟩ := r.one
    obtain ⟨a, xs, rfl, h1, h2⟩ := D.tup q
    exact ⟨a, xs, rfl, .inr (sqT_up s h1), fun p np => k _ _ _ (Gr.new s np) (.lst upd_same (h2.up (same_fresh (s.free np))))⟩
theorem ev_tupL {ds : List PyData} (h : Ev M O ta σ G (D K (.list ds))) : Ev M O (tCB (fun xs H Q => ∃ p ys, xs = [.ref p] ∧ ((SqL K H p ys ∧ ∀ l, H l = none → Q (.ref l) (upd H l (.tup ys))) ∨ (SqT K H p ys ∧ Q (.ref p) H))) (tCons ta tNil)) σ G (D K (.tuple ds)) :=
  ev_cb (evl_cons h evl_nil) fun vs G1 H1 Q s r k => by
    obtain ⟨v, rfl, q⟩ := r.one
    obtain ⟨a, xs, rfl, h1, h2⟩ := D.lst q
    exact ⟨a, xs, rfl, .inl ⟨.inl (.inl (s _ _ h1)), fun p np => k _ _ _ (Gr.new s np) (.tup (.inl (.inl upd_same)) (h2.up (same_fresh (s.free np))))⟩⟩
theorem ev_tupT {ds : List PyData} (h : Ev M O ta σ G (D K (.tuple ds))) : Ev M O (tCB (fun xs H Q => ∃ p ys, xs = [.ref p] ∧ ((SqL K H p ys ∧ ∀ l, H l = none → Q (.ref l) (upd H l (.tup ys))) ∨ (SqT K H p ys ∧ Q (.ref p) H))) (tCons ta tNil)) σ G (D K (.tuple ds)) :=
  ev_cb (evl_cons h evl_nil) fun vs G1 H1 Q s r k => by
    obtain ⟨v, rfl, q⟩ := r.one
    obtain ⟨a, xs, rfl, h1, h2⟩ := D.tup q
    exact ⟨a, xs, rfl, .inr ⟨sqT_up s h1, k _ _ _ (Gr.refl s) (.tup h1 h2)⟩⟩
theorem ev_strI {n : Int} (h : Ev M O ta σ G (D K (.int n))) (hn : n.natAbs.log2 < 1920) : Ev M O (tCB (fun xs H Q => ∃ i, xs = [.int i] ∧ i.natAbs.log2 < 1920 ∧ Q (.str (toString i)) H) (tCons ta tNil)) σ G (D K (.str (toString n))) :=
  ev_cb (evl_cons h evl_nil) fun vs G1 H1 Q s r k => by
    obtain ⟨v, rfl, q⟩ := r.one
    exact ⟨n, by rw [D.int q], hn, k _ _ _ (Gr.refl s) (.str _)⟩
theorem ev_sum {ns : List Int} (h : Ev M O ta σ G (D K (.list (ns.map PyData.int)))) : Ev M O (tCB (rSum K) (tCons ta tNil)) σ G (D K (.int ns.sum)) :=
  ev_cb (evl_cons h evl_nil) fun vs G1 H1 Q s r k => by
    obtain ⟨v, rfl, q⟩ := r.one
    obtain ⟨a, xs, rfl, h1, h2⟩ := D.lst q
    exact ⟨a, ns, rfl, by rw [← h2.ints]; exact .inl (.inl (s _ _ h1)), k _ _ _ (Gr.refl s) (.int _)⟩
theorem ev_all {ns : List Bool} (h : Ev M O ta σ G (D K (.list (ns.map PyData.bool)))) : Ev M O (tCB (rAll K) (tCons ta tNil)) σ G (D K (.bool (ns.all id))) :=
  ev_cb (evl_cons h evl_nil) fun vs G1 H1 Q s r k => by
    obtain ⟨v, rfl, q⟩ := r.one
    obtain ⟨a, xs, rfl, h1, h2⟩ := D.lst q
    exact ⟨a, ns, rfl, by rw [← h2.bools]; exact .inl (.inl (s _ _ h1)), k _ _ _ (Gr.refl s) (.bl _)⟩
theorem ev_any {ns : List Bool} (h : Ev M O ta σ G (D K (.list (ns.map PyData.bool)))) : Ev M O (tCB (rAny K) (tCons ta tNil)) σ G (D K (.bool (ns.any id))) :=
  ev_cb (evl_cons h evl_nil) fun vs G1 H1 Q s r k => by
    obtain ⟨v, rfl, q⟩ := r.one
    obtain ⟨a, xs, rfl, h1, h2⟩ := D.lst q
    exact ⟨a, ns, rfl, by rw [← h2.bools]; exact .inl (.inl (s _ _ h1)), k _ _ _ (Gr.refl s) (.bl _)⟩
/-! ### texts -/
theorem ev_join {a : Str} {ys : List Str} (ha : Ev M O ta σ G (D K (.str a))) (hb : Ev M O tb σ G (D K (.list (ys.map PyData.str)))) (hz : (ys.map (·.length)).sum + ys.length * a.length ≤ 16777216) :
    Ev M O (tM1 (fun x xs H Q => ∃ a p, ∃ ys : List Str, x = .str a ∧ xs = [.ref p] ∧ (SqL K H p (ys.map V.str) ∨ SqT K H p (ys.map V.str)) ∧ (ys.map (·.length)).sum + ys.length * a.length ≤ 16777216 ∧ Q (.str (Txt.join a ys)) H) ta tb) σ G (D K (.str (Txt.join a ys))) := fun G1 H1 s1 s2 o Q k =>
  ha G1 H1 s1 s2 o _ fun x G2 H2 g rx => ⟨⟨a, D.str rx⟩, hb G2 H2 (s1.trans g.g) g.s (o.gr g) _ fun y G3 H3 g' ry => by
    obtain ⟨p, xs, rfl, h1, h2⟩ := D.lst ry
    exact ⟨a, p, ys, D.str rx, rfl, .inl (by rw [← h2.strs]; exact .inl (.inl (g'.s _ _ h1))), hz, k _ _ _ (g.trans g') (.str _)⟩⟩
end
end Own

set_option linter.all false
set_option linter.unusedVariables false
namespace Own
open PySem L2
/-! ### walks and comprehensions -/
/-- J walks over things that are so, from G on -/
def Walk (M : Am) (J : It) (G : Hp) (Rs : List Rp) : Prop :=
  (∀ (i : Nat) (R : Rp) (G1 H1 : Hp), Rs[i]? = some R → Same G G1 → Same G1 H1 → M.inv H1 → M.fx G1 → J.go i H1 ∧ ∀ x H2, J.yld i H1 x H2 → ∃ G2, Gr M G1 H1 G2 H2 ∧ R.p x G2) ∧ ∀ H1, Same G H1 → M.inv H1 → J.stop Rs.length H1
def EvI (M : Am) (O : Bu) (wi : TI) (σ : L2.St) (G : Hp) (Rs : List Rp) : Prop := ∀ G1 H1 : Hp, Same G G1 → Same G1 H1 → Owns M O G1 H1 → ∀ Q : It → Hp → Prop, (∀ J G2 H2, Gr M G1 H1 G2 H2 → Walk M J G2 Rs → Q J H2) → wi σ H1 Q
/-- the target takes a thing that is so -/
def Takes_ (g : TG) (R : Rp) (P : V → L2.St) (σ : L2.St) : Prop := ∀ v (G1 H1 : Hp), Same G1 H1 → R.p v G1 → ∀ Q : L2.St → Hp → Prop, Q (P v) H1 → g v σ H1 Q
section
variable {M : Am} {O : Bu} {K : PySem.W.Frag} {σ : L2.St} {G : Hp} {R Ra Rb : Rp} {te ta tb tc : TE} {tA tB' tt : TT} {t tr : TA}
theorem evi_list {ds : List PyData} (h : Ev M O te σ G (D K (.list ds))) : EvI M O (iList K te) σ G (ds.map (D K)) := fun G1 H1 s1 s2 o Q k =>
  h G1 H1 s1 s2 o _ fun v G2 H2 g r => by
    obtain ⟨a, xs, rfl, h1, h2⟩ := D.lst r
    refine ⟨a, rfl, ⟨xs, .inl (.inl (g.s _ _ h1))⟩, k _ _ _ g ⟨fun i R G3 H3 e s3 s4 _ _ => ?_, fun H3 s3 _ => ⟨xs, .inl (.inl (s3 _ _ h1)), by rw [List.length_map, h2.length]; exact Nat.le_refl _⟩⟩⟩
    rw [List.getElem?_map] at e
    cases q : ds[i]? with
    | none => rw [q] at e; cases e
    | some d =>
      rw [q] at e
      cases e
      obtain ⟨v, hv, dv⟩ := h2.get q
      have hq : SqL K H3 a xs := .inl (.inl (s4 _ _ (s3 _ _ h1)))
      refine ⟨⟨xs, v, hq, hv⟩, ?_⟩
      rintro x H4 ⟨rfl, y⟩
      obtain rfl : x = v := Option.some.inj ((y xs hq).symm.trans hv)
      exact ⟨G3, Gr.refl s4, De.up s3 dv⟩
theorem evi_tup {ds : List PyData} (h : Ev M O te σ G (D K (.tuple ds))) : EvI M O (iTup K te) σ G (ds.map (D K)) := fun G1 H1 s1 s2 o Q k =>
  h G1 H1 s1 s2 o _ fun v G2 H2 g r => by
    obtain ⟨a, xs, rfl, h1, h2⟩ := D.tup r
    refine ⟨a, rfl, ⟨xs, sqT_up g.s h1⟩, k _ _ _ g ⟨fun i R G3 H3 e s3 s4 _ _ => ?_, fun H3 s3 _ => ⟨xs, sqT_up s3 h1, by rw [List.length_map, h2.length]; exact Nat.le_refl _⟩⟩⟩
    rw [List.getElem?_map] at e
    cases q : ds[i]? with
    | none => rw [q] at e; cases e
    | some d =>
      rw [q] at e
      cases e
      obtain ⟨v, hv, dv⟩ := h2.get q
      have hq : SqT K H3 a xs := sqT_up (s3.trans s4) h1
      refine ⟨⟨xs, v, hq, hv⟩, ?_⟩
      rintro x H4 ⟨rfl, y⟩
      obtain rfl : x = v := Option.some.inj ((y xs hq).symm.trans hv)
      exact ⟨G3, Gr.refl s4, De.up s3 dv⟩
theorem walk_rng (lo : Int) (n : Nat) : Walk M (Itr lo n) G ((List.range n).map fun i => D K (.int (lo + (i : Nat)))) := by
  refine ⟨fun i R G3 H3 e s3 s4 _ _ => ?_, fun H3 s3 _ => by rw [List.length_map, List.length_range]; exact Nat.le_refl _⟩
  rw [List.getElem?_map] at e
  by_cases hi : i < n
  · rw [List.getElem?_range hi] at e
    cases e
    refine ⟨hi, ?_⟩
    rintro x H4 ⟨rfl, rfl⟩
    exact ⟨G3, Gr.refl s4, .int _⟩
  · rw [List.getElem?_eq_none (by rw [List.length_range]; omega)] at e
    cases e
theorem evi_rng1 {j : Int} (h : EvL M O K t σ G [.int j]) (h1 : -(2 ^ 62) ≤ j) (h2 : j < 2 ^ 62) : EvI M O (iRng1 t) σ G ((List.range j.toNat).map fun i => D K (.int (0 + (i : Nat)))) := fun G1 H1 s1 s2 o Q k =>
  h G1 H1 s1 s2 o _ fun v G2 H2 g r => by
    obtain ⟨v, rfl, q⟩ := r.one
    exact ⟨j, by rw [D.int q], h1, h2, k _ _ _ g (walk_rng 0 _)⟩
theorem evi_rng2 {i j : Int} (h : EvL M O K t σ G [.int i, .int j]) (hb : -(2 ^ 62) ≤ i ∧ i < 2 ^ 62 ∧ -(2 ^ 62) ≤ j ∧ j < 2 ^ 62) : EvI M O (iRng2 t) σ G ((List.range (j - i).toNat).map fun k => D K (.int (i + (k : Nat)))) := fun G1 H1 s1 s2 o Q k =>
  h G1 H1 s1 s2 o _ fun v G2 H2 g r => by
    obtain ⟨v, u, rfl, q, q'⟩ := r.two
    exact ⟨i, j, by rw [D.int q, D.int q'], hb, k _ _ _ g (walk_rng i _)⟩
theorem evi_enum {ds : List PyData} (h : EvL M O K t σ G [.list ds]) : EvI M O (iEnum K t) σ G ((List.range ds.length).map fun i => D K (.tuple [.int (i : Nat), ds.getD i .none])) := fun G1 H1 s1 s2 o Q k =>
  h G1 H1 s1 s2 o _ fun v G2 H2 g r => by
    obtain ⟨v, rfl, q⟩ := r.one
    obtain ⟨a, xs, rfl, h1, h2⟩ := D.lst q
    refine ⟨a, xs, rfl, .inl (.inl (g.s _ _ h1)), k _ _ _ g ⟨fun i R G3 H3 e s3 s4 _ _ => ?_, fun H3 s3 _ => ⟨xs, .inl (.inl (s3 _ _ h1)), by rw [List.length_map, List.length_range, h2.length]; exact Nat.le_refl _⟩⟩⟩
    rw [List.getElem?_map] at e
    by_cases hi : i < ds.length
    · rw [List.getElem?_range hi] at e
      cases e
      have hd : ds[i]? = some (ds.getD i .none) := by rw [List.getElem?_eq_getElem hi, List.getD_eq_getElem?_getD, List.getElem?_eq_getElem hi]; rfl
      obtain ⟨v, hv, dv⟩ := h2.get hd
      have hq : SqL K H3 a xs := .inl (.inl (s4 _ _ (s3 _ _ h1)))
      refine ⟨⟨xs, v, hq, hv⟩, ?_⟩
      rintro x H4 ⟨T, y, rfl, nT, rfl, hy⟩
      obtain rfl : y = v := Option.some.inj ((hy xs hq).symm.trans hv)
      exact ⟨_, Gr.new s4 nT, .tup (.inl (.inl upd_same)) (.cons (.int _) (.cons (De.up (s3.trans (same_fresh (s4.free nT))) dv) .nil))⟩
    · rw [List.getElem?_eq_none (by rw [List.length_range]; omega)] at e
      cases e
theorem tk_name {i : Nat} : Takes_ (gName i) R (fun v => σ.set i (some v)) σ := fun v G1 H1 s r Q q => q
/-- a comprehension over a walk: P says which slots stand; the items x, their reps r; kept where p; f -/
theorem ev_lcW {ι : Type} {wi : TI} {g : TG} {vs : List Nat} (is : List ι) (r : ι → Rp) (p : ι → Bool) (f : ι → PyData) (hi : EvI M O wi σ G (is.map r)) (hz : is.length < sizeLine)
    (hs : ∀ x ∈ is, ∀ (v : V) (G1 : Hp), Same G G1 → (r x).p v G1 → ∃ σ2 : L2.St, (∀ H1, Same G1 H1 → ∀ Q : L2.St → Hp → Prop, Q σ2 H1 → g v (wipe σ vs) H1 Q) ∧ wipe σ2 vs = wipe σ vs ∧ EvT M O tt σ2 G1 (p x) ∧ (p x = true → Ev M O te σ2 G1 (D K (f x)))) :
    Ev M O (tLc wi g tt te vs) σ G (D K (.list ((is.filter p).map f))) := fun G1 H1 s1 s2 o Q k =>
  hi G1 H1 s1 s2 o _ fun J G2 H2 gg W Dd nD => by
    have s12 := s1.trans gg.g
    have o2 := o.gr gg
    have nA : ¬ M.ad Dd := Am.fresh o2.i nD
    refine ⟨fun i m H => m + i = is.length ∧ ∃ (Gi : Hp) (acc : List V), Gr M G2 H2 Gi H ∧ Gi Dd = none ∧ H Dd = some (.lst acc) ∧ acc.length ≤ i ∧ DeAll K Gi acc (((is.take i).filter p).map f), ⟨is.length, rfl, G2, [], Gr.own gg.s nD, gg.s.free nD, upd_same, Nat.le_refl _, .nil⟩, fun i m H ⟨e, Gi, acc, gi, nG, hD, la, da⟩ => ?_⟩
    by_cases hi' : i < is.length
    · have hx : is[i]? = some is[i] := List.getElem?_eq_getElem hi'
      obtain ⟨go, yl⟩ := W.1 i (r is[i]) Gi H (by rw [List.getElem?_map, hx]; rfl) gi.g gi.s (gi.i o2.i) (o2.gr gi).f
      refine .inr ⟨go, fun H' => ∃ (Gi : Hp) (acc : List V), Gr M G2 H2 Gi H' ∧ Gi Dd = none ∧ H' Dd = some (.lst acc) ∧ acc.length ≤ i + 1 ∧ DeAll K Gi acc (((is.take (i + 1)).filter p).map f), fun H' q => ⟨is.length - (i + 1), by omega, by omega, q⟩, fun x H' y => ?_⟩
      obtain ⟨G3, g3, rx⟩ := yl x H' y
      obtain ⟨σ2, hg, hw, ht, he⟩ := hs is[i] (List.getElem_mem hi') x G3 ((s12.trans gi.g).trans g3.g) rx
      refine hg H' g3.s _ ⟨hw, ?_⟩
      have o3 := (o2.gr gi).gr g3
      refine ht G3 H' (Same.refl _) g3.s o3 _ fun G4 H4 g4 => ?_
      have e4 : is.take (i + 1) = is.take i ++ [is[i]] := by rw [List.take_add_one, hx]; rfl
      have gD : Gr M Gi H G4 H4 := g3.trans g4
      cases hp : p is[i] with
      | false =>
        refine iteF ⟨G4, acc, gi.trans gD, gD.n _ nG (fun z => by rw [hD] at z; cases z), gD.h _ _ nA hD, by omega, ?_⟩
        rw [e4, List.filter_append, List.filter_cons_of_neg (by rw [hp]; exact Bool.false_ne_true), List.filter_nil, List.append_nil]
        exact da.up gD.g
      | true =>
        refine iteT ((he hp) G4 H4 g4.g g4.s (o3.gr g4) _ fun v G5 H5 g5 rv => ?_)
        have gE := gD.trans g5
        have gF := gi.trans gE
        have nG5 := gE.n _ nG (fun z => by rw [hD] at z; cases z)
        refine ⟨acc, gE.h _ _ nA hD, Nat.lt_of_le_of_lt la (Nat.lt_trans hi' hz), G5, acc ++ [v], ⟨gF.g, fun b u z q => ?_, same_mut gE.s nG5, gF.n, fun i => Am.upd (gF.i i) nA (fun u e => by rw [gE.h _ _ nA hD] at e; cases e; rfl), fun a z => ?_⟩, nG5, upd_same, by rw [List.length_append]; show acc.length + 1 ≤ i + 1; omega, ?_⟩
        · rw [upd_ne (ne_of_none q nD)]
          exact gF.h _ _ z q
        · by_cases q : a = Dd
          · subst q; exact nD
          · rw [upd_ne q] at z; exact gF.k _ z
        · rw [e4, List.filter_append, List.filter_cons_of_pos hp, List.filter_nil, List.map_append]
          exact (da.up gE.g).append (.cons rv .nil)
    · obtain rfl : i = is.length := by
        omega
      refine .inl ⟨by have := W.2 H (gi.g.trans gi.s) (gi.i o2.i); rw [List.length_map] at this; exact this, ?_⟩
      rw [List.take_length] at da
      have s3 : Same G2 (upd Gi Dd (.lst acc)) := gi.g.trans (same_fresh nG)
      have gF := gg.trans gi
      refine k _ (upd Gi Dd (.lst acc)) _ ⟨gg.g.trans s3, gF.h, fun b u q => ?_, fun a e1 e2 => ?_, gF.i, gF.k⟩ (.lst upd_same (da.up (same_fresh nG)))
      · by_cases hb : b = Dd
        · subst hb
          rw [upd_same] at q
          rw [hD]
          exact q
        · rw [upd_ne hb] at q
          exact gi.s _ _ q
      · have h3 := (gg.n a e1 e2)
        have h4 : H2 a ≠ none := fun z => e2 (gg.k _ z)
        rw [upd_ne (fun z => h4 (by rw [z]; exact nD))]
        exact gi.n a h3 h4
/-- items of one name, the data known: [f x for x in xs if p x] -/
theorem ev_lc1 {wi : TI} {i : Nat} (ds : List PyData) (p : PyData → Bool) (f : PyData → PyData) (hi : EvI M O wi σ G (ds.map (D K))) (hz : ds.length < sizeLine) 
    (hs : ∀ d ∈ ds, ∀ (v : V) (G1 : Hp), Same G G1 → De K G1 v d → EvT M O tt (σ.set i (some v)) G1 (p d) ∧ (p d = true → Ev M O te (σ.set i (some v)) G1 (D K (f d)))) : Ev M O (tLc wi (gName i) tt te [i]) σ G (D K (.list ((ds.filter p).map f))) :=
  ev_lcW ds (D K) p f hi hz fun d hd v G1 s1 rv => ⟨σ.set i (some v), fun H1 _ Q q => by
      show Q ((σ.set i none).set i (some v)) H1
      rw [List.set_set]; exact q, by show (σ.set i (some v)).set i none = σ.set i none; rw [List.set_set], hs d hd v G1 s1 rv⟩
/-- no test -/
theorem ev_lc {ι : Type} {wi : TI} {i : Nat} (is : List ι) (c : ι → PyData) (f : ι → PyData) (hi : EvI M O wi σ G (is.map fun x => D K (c x))) (hz : is.length < sizeLine) 
    (hs : ∀ x ∈ is, ∀ (v : V) (G1 : Hp), Same G G1 → De K G1 v (c x) → Ev M O te (σ.set i (some v)) G1 (D K (f x))) : Ev M O (tLc wi (gName i) tYes te [i]) σ G (D K (.list (is.map f))) := by
  have h := ev_lcW (K := K) (O := O) (te := te) (tt := tYes) (g := gName i) (vs := [i]) is (fun x => D K (c x)) (fun _ => true) f hi hz fun d hd v G1 s1 rv => ⟨σ.set i (some v), fun H1 _ Q q => by
      show Q ((σ.set i none).set i (some v)) H1
      rw [List.set_set]; exact q, by show (σ.set i (some v)).set i none = σ.set i none; rw [List.set_set], fun G1 H1 s1 s2 o Q k => k _ _ (Gr.refl s2), fun _ => hs d hd v G1 s1 rv⟩
  rw [List.filter_eq_self.mpr (fun _ _ => rfl)] at h
  exact h
/-! ### calls -/
/-- a def that works on data alone -/
def spF {α : Type} (A : α → List Rp) (R : α → Rp) (ok : α → Prop) : Sp := fun vs H Q _ => ∃ (x : α) (G : Hp), Same G H ∧ RAll (A x) vs G ∧ ok x ∧ ∀ v G' H', Gr Am.no G H G' H' → (R x).p v G' → Q v H'
theorem ev_call {α : Type} {A : α → List Rp} {R : α → Rp} {ok : α → Prop} {E : XK} (x : α) (h : EvA M O t σ G (A x)) (hx : ok x) : Ev M O (tCall (spF A R ok) [] E t) σ G (R x) := fun G1 H1 s1 s2 o Q k =>
  h G1 H1 s1 s2 o _ fun vs G2 H2 g r => ⟨x, G2, g.s, by rw [List.append_nil]; exact r, hx, fun v G3 H3 g' q => k v _ _ (g.trans g'.of_no) q⟩
/-- a value that has the class, no attribute of the method's name -/
theorem ev_meth {α : Type} {A : α → List Rp} {R : α → Rp} {ok : α → Prop} {E : XK} {C : Addr} {m : Str} {Rs : List Rp} (x : α) (ha : Ev M O ta σ G Ra) (h : EvA M O t σ G Rs) (hA : A x = Ra :: Rs) (hi : ∀ v G1, Ra.p v G1 → ∃ a dx fs, v = .ref a ∧ G1 a = some (.ins C dx fs) ∧ fs.lookup m = none) (hx : ok x) :
    Ev M O (tMeth C m (spF A R ok) [] E ta t) σ G (R x) := fun G1 H1 s1 s2 o Q k =>
  ha G1 H1 s1 s2 o _ fun v G2 H2 g r => by
    obtain ⟨a, dx, fs, rfl, e1, e2⟩ := hi v G2 r
    exact ⟨a, dx, fs, rfl, g.s _ _ e1, e2, h G2 H2 (s1.trans g.g) g.s (o.gr g) _ fun vs G3 H3 g' r' => ⟨x, G3, g'.s, by rw [List.append_nil, hA]; exact ⟨_, _, rfl, Ra.up g'.g r, r'⟩, hx, fun v G4 H4 g2 q => k v _ _ ((g.trans g').trans g2.of_no) q⟩⟩
theorem ev_prop {α : Type} {A : α → List Rp} {R : α → Rp} {ok : α → Prop} {E : XK} {C : Addr} (x : α) (ha : Ev M O ta σ G Ra) (hA : A x = [Ra]) (hi : ∀ v G1, Ra.p v G1 → ∃ a dx fs, v = .ref a ∧ G1 a = some (.ins C dx fs)) (hx : ok x) :
    Ev M O (tProp C (spF A R ok) [] E ta) σ G (R x) := fun G1 H1 s1 s2 o Q k =>
  ha G1 H1 s1 s2 o _ fun v G2 H2 g r => by
    obtain ⟨a, dx, fs, rfl, e1⟩ := hi v G2 r
    exact ⟨a, dx, fs, rfl, g.s _ _ e1, x, G2, g.s, by rw [hA]; exact ⟨_, _, rfl, r, rfl⟩, hx, fun v G4 H4 g2 q => k v _ _ (g.trans g2.of_no) q⟩
theorem ev_fld {f : Str} (ha : Ev M O ta σ G Ra) (hi : ∀ v G1, Ra.p v G1 → ∃ a C dx fs u, v = .ref a ∧ G1 a = some (.ins C dx fs) ∧ Cls K C ∧ NoAttr K C f ∧ fs.lookup f = some u ∧ R.p u G1) : Ev M O (tFld K ta f) σ G R := fun G1 H1 s1 s2 o Q k =>
  ha G1 H1 s1 s2 o _ fun v G2 H2 g r => by
    obtain ⟨a, C, dx, fs, u, rfl, e1, e2, e3, e4, e5⟩ := hi v G2 r
    exact ⟨a, C, dx, fs, u, rfl, g.s _ _ e1, e2, e3, e4, k _ _ _ g e5⟩
end
end Own

set_option linter.all false
set_option linter.unusedVariables false
namespace Own
open PySem L2
/-! ### statements. From (G0, H0) on; what is in work is younger than H0. -/
structure Stt (M : Am) (G0 H0 : Hp) (O : Bu) (G H : Hp) : Prop where
  gr : Gr M G0 H0 G H
  ow : Owns M O G H
  fr : ∀ q ∈ O, H0 q.1 = none
theorem Stt.to {M : Am} {G0 H0 G H G' H' : Hp} {O : Bu} (s : Stt M G0 H0 O G H) (g : Gr M G H G' H') : Stt M G0 H0 O G' H' := ⟨s.gr.trans g, s.ow.gr g, s.fr⟩
/-- ts either gives back R or goes on where P holds -/
def EvS (M : Am) (G0 H0 : Hp) (O : Bu) (ts : TS) (σ : L2.St) (G : Hp) (R : Rp) (P : L2.St → Bu → Hp → Prop) : Prop := ∀ (G1 H1 : Hp) (D : Ends), Stt M G0 H0 O G1 H1 → Same G G1 → (∀ v G2 H2, Gr M G0 H0 G2 H2 → R.p v G2 → D.rt v H2) →
  (∀ σ' O' G2 H2, Stt M G0 H0 O' G2 H2 → Same G1 G2 → P σ' O' G2 → D.nx σ' H2) → ts D σ H1
abbrev PNo : L2.St → Bu → Hp → Prop := fun _ _ _ => False
section
variable {M : Am} {G0 H0 : Hp} {O : Bu} {K : PySem.W.Frag} {σ : L2.St} {G : Hp} {R Ra Rb : Rp} {P : L2.St → Bu → Hp → Prop} {te ta tb tc : TE} {tA tB' tt : TT} {t tr : TA} {ts u w' : TS}
theorem EvS.start {G H : Hp} {D : Ends} (h : EvS M G H [] ts σ G R PNo) (s : Same G H) (ha : ∀ a, M.ad a → G a = none) (hi : M.inv H) (hf : M.fx G) (k : ∀ v G' H', Gr M G H G' H' → R.p v G' → D.rt v H') : ts D σ H :=
  h G H D ⟨Gr.refl s, ⟨(fun q hq => absurd hq List.not_mem_nil), ha, hi, hf⟩, (fun q hq => absurd hq List.not_mem_nil)⟩ (Same.refl _) k fun _ _ _ _ _ _ f => False.elim f
theorem EvS.one (h : EvS M G0 H0 O (tSeq ts tNext) σ G R P) : EvS M G0 H0 O ts σ G R P := h
theorem EvS.assoc {ts1 ts2 : TS} (h : EvS M G0 H0 O (tSeq ts1 (tSeq ts2 u)) σ G R P) : EvS M G0 H0 O (tSeq (tSeq ts1 ts2) u) σ G R P := h
theorem EvS.skip (h : EvS M G0 H0 O u σ G R P) : EvS M G0 H0 O (tSeq tNext u) σ G R P := h
theorem EvS.up {G' : Hp} (h : EvS M G0 H0 O ts σ G R P) (s : Same G G') : EvS M G0 H0 O ts σ G' R P := fun G1 H1 D st s1 k n => h G1 H1 D st (s.trans s1) k n
theorem EvS.mono {P' : L2.St → Bu → Hp → Prop} (h : EvS M G0 H0 O ts σ G R P) (hp : ∀ σ' O' G', Same G G' → P σ' O' G' → P' σ' O' G') : EvS M G0 H0 O ts σ G R P' := fun G1 H1 D st s1 k n => h G1 H1 D st s1 k fun σ' O' G2 H2 st' s2 p => n σ' O' G2 H2 st' s2 (hp _ _ _ (s1.trans s2) p)
theorem evs_next (h : ∀ G', Same G G' → P σ O G') : EvS M G0 H0 O tNext σ G R P := fun G1 H1 D st s1 k n => n σ O G1 H1 st (Same.refl _) (h _ s1)
/-- two in a row, the first goes on where P' holds -/
theorem evs_seq {P' : L2.St → Bu → Hp → Prop} (h : EvS M G0 H0 O ts σ G R P') (h2 : ∀ σ' O' G', Same G G' → P' σ' O' G' → EvS M G0 H0 O' u σ' G' R P) : EvS M G0 H0 O (tSeq ts u) σ G R P := fun G1 H1 D st s1 k n =>
  h G1 H1 { D with nx := u D } st s1 k fun σ' O' G2 H2 st' s2 p => h2 σ' O' G2 (s1.trans s2) p G2 H2 D st' (Same.refl _) k fun σ'' O'' G3 H3 st'' s3 p' => n σ'' O'' G3 H3 st'' (s2.trans s3) p'
theorem evs_set {i : Nat} (h : Ev M O te σ G Ra) (k : ∀ v G', Same G G' → Ra.p v G' → EvS M G0 H0 O u (σ.set i (some v)) G' R P) : EvS M G0 H0 O (tSeq (tAsg te (gName i)) u) σ G R P := fun G1 H1 D st s1 kr n =>
  h G1 H1 s1 st.gr.s st.ow _ fun v G2 H2 g r => k v G2 (s1.trans g.g) r G2 H2 D (st.to g) (Same.refl _) kr fun σ'' O'' G3 H3 st'' s3 p' => n σ'' O'' G3 H3 st'' (g.g.trans s3) p'
theorem evs_drop (h : Ev M O te σ G Ra) (k : ∀ G', Same G G' → EvS M G0 H0 O u σ G' R P) : EvS M G0 H0 O (tSeq (tDrop te) u) σ G R P := fun G1 H1 D st s1 kr n =>
  h G1 H1 s1 st.gr.s st.ow _ fun v G2 H2 g r => k G2 (s1.trans g.g) G2 H2 D (st.to g) (Same.refl _) kr fun σ'' O'' G3 H3 st'' s3 p' => n σ'' O'' G3 H3 st'' (g.g.trans s3) p'
theorem evs_par {i j : Nat} {Rs : List Rp} (h : EvA M O t σ G [Ra, Rb]) (k : ∀ v w G', Same G G' → Ra.p v G' → Rb.p w G' → EvS M G0 H0 O u ((σ.set i (some v)).set j (some w)) G' R P) : EvS M G0 H0 O (tSeq (tPar i j t) u) σ G R P := fun G1 H1 D st s1 kr n =>
  h G1 H1 s1 st.gr.s st.ow _ fun vs G2 H2 g r => by
    obtain ⟨v, _, rfl, rv, w, _, rfl, rw', rfl⟩ := r
    exact ⟨v, w, rfl, k v w G2 (s1.trans g.g) rv rw' G2 H2 D (st.to g) (Same.refl _) kr fun σ'' O'' G3 H3 st'' s3 p' => n σ'' O'' G3 H3 st'' (g.g.trans s3) p'⟩
def gNs : List Nat → TGs
  | [] => gNil
  | i :: is => gCons (gName i) (gNs is)
def setAll : L2.St → List Nat → List V → L2.St
  | σ, i :: is, v :: vs => setAll (σ.set i (some v)) is vs
  | σ, _, _ => σ
theorem gNs_ok : ∀ (is : List Nat) (vs : List V) (σ : L2.St) (H : Hp) (Q : L2.St → Hp → Prop), is.length = vs.length → Q (setAll σ is vs) H → gNs is vs σ H Q
  | [], [], _, _, _, _, h => ⟨rfl, h⟩
  | _ :: is, _ :: vs, σ, H, Q, e, h => ⟨_, _, rfl, gNs_ok is vs _ H Q (Nat.succ.inj e) h⟩
theorem evs_unpack {is : List Nat} {n : Nat} {ds : List PyData} (h : Ev M O te σ G (D K (.tuple ds))) (hn : ds.length = n) (hi : is.length = n) (k : ∀ vs G', Same G G' → DeAll K G' vs ds → EvS M G0 H0 O u (setAll σ is vs) G' R P) : EvS M G0 H0 O (tSeq (tAsg te (gTup K n (gNs is))) u) σ G R P := fun G1 H1 D st s1 kr n =>
  h G1 H1 s1 st.gr.s st.ow _ fun v G2 H2 g r => by
    obtain ⟨a, xs, rfl, h1, h2⟩ := Own.D.tup r
    exact ⟨a, xs, rfl, sqT_up g.s h1, h2.length.trans hn, gNs_ok is xs σ H2 _ (hi.trans (h2.length.trans hn).symm) (k xs G2 (s1.trans g.g) h2 G2 H2 D (st.to g) (Same.refl _) kr fun σ'' O'' G3 H3 st'' s3 p' => n σ'' O'' G3 H3 st'' (g.g.trans s3) p')⟩
theorem evs_ret (h : Ev M O te σ G R) : EvS M G0 H0 O (tRet te) σ G R P := fun G1 H1 D st s1 kr n =>
  h G1 H1 s1 st.gr.s st.ow _ fun v G2 H2 g r => kr v G2 H2 (st.gr.trans g) r
theorem evs_retS (h : Ev M O te σ G R) : EvS M G0 H0 O (tSeq (tRet te) u) σ G R P := fun G1 H1 D st s1 kr n =>
  h G1 H1 s1 st.gr.s st.ow _ fun v G2 H2 g r => kr v G2 H2 (st.gr.trans g) r
theorem evs_retN (h : ∀ G', R.p .non G') : EvS M G0 H0 O tRetN σ G R P := fun G1 H1 D st s1 kr n => kr .non G1 H1 st.gr (h _)
theorem evs_if {b : Bool} (h : EvT M O tA σ G b) (h1 : b = true → EvS M G0 H0 O (tSeq ts w') σ G R P) (h2 : b = false → EvS M G0 H0 O (tSeq u w') σ G R P) : EvS M G0 H0 O (tSeq (tIfS tA ts u) w') σ G R P := fun G1 H1 D st s1 kr n =>
  h G1 H1 s1 st.gr.s st.ow _ fun G2 H2 g => by
    cases b with
    | true => exact iteT ((h1 rfl) G2 H2 D (st.to g) (s1.trans g.g) kr fun σ'' O'' G3 H3 st'' s3 p' => n σ'' O'' G3 H3 st'' (g.g.trans s3) p')
    | false => exact iteF ((h2 rfl) G2 H2 D (st.to g) (s1.trans g.g) kr fun σ'' O'' G3 H3 st'' s3 p' => n σ'' O'' G3 H3 st'' (g.g.trans s3) p')
/-! what is in work -/
theorem Stt.put {G H : Hp} {O1 O2 : Bu} {p : Addr} {o o' : HO} (hx' : isX o' = false) (s : Stt M G0 H0 (O1 ++ (p, o) :: O2) G H) (hn : ∀ q ∈ O1 ++ O2, q.1 ≠ p) : Stt M G0 H0 (O1 ++ (p, o') :: O2) G (upd H p o') := by
  have hp : (p, o) ∈ O1 ++ (p, o) :: O2 := List.mem_append_right _ List.mem_cons_self
  have np : G p = none := (s.ow.o _ hp).2.1
  have na : ¬ M.ad p := (s.ow.o _ hp).2.2.1
  have hx : ∀ u, H p = some u → isX u = false := fun u e => by
    have h1 := s.ow.o _ hp
    rw [h1.1] at e
    cases e
    exact h1.2.2.2
  have n0 : H0 p = none := s.fr _ hp
  refine ⟨⟨s.gr.g, fun b u z e => ?_, same_mut s.gr.s np, s.gr.n, fun i => Am.upd (s.gr.i i) na hx, fun a z => ?_⟩, ⟨fun q hq => ?_, s.ow.a, Am.upd s.ow.i na hx, s.ow.f⟩, fun q hq => ?_⟩
  · rw [upd_ne (ne_of_none e n0)]
    exact s.gr.h _ _ z e
  · by_cases q : a = p
    · subst q; exact n0
    · rw [upd_ne q] at z; exact s.gr.k _ z
  · rcases List.mem_append.mp hq with h | h
    · have := s.ow.o q (List.mem_append_left _ h)
      exact ⟨by rw [upd_ne (hn q (List.mem_append_left _ h))]; exact this.1, this.2⟩
    · rcases List.mem_cons.mp h with rfl | h
      · exact ⟨upd_same, np, na, hx'⟩
      · have := s.ow.o q (List.mem_append_right _ (List.mem_cons_of_mem _ h))
        exact ⟨by rw [upd_ne (hn q (List.mem_append_right _ h))]; exact this.1, this.2⟩
  · rcases List.mem_append.mp hq with h | h
    · exact s.fr q (List.mem_append_left _ h)
    · rcases List.mem_cons.mp h with rfl | h
      · exact n0
      · exact s.fr q (List.mem_append_right _ (List.mem_cons_of_mem _ h))
theorem Stt.new {G H : Hp} (s : Stt M G0 H0 O G H) {p : Addr} {o : HO} (h : H p = none) (hx : isX o = false) : Stt M G0 H0 ((p, o) :: O) G (upd H p o) :=
  ⟨s.gr.trans (Gr.own s.gr.s h), ⟨fun q hq => by
    rcases List.mem_cons.mp hq with rfl | hq
    · exact ⟨upd_same, s.gr.s.free h, Am.fresh s.ow.i h, hx⟩
    · exact (s.ow.gr (Gr.own s.gr.s h)).o q hq, s.ow.a, Am.new s.ow.i h, s.ow.f⟩, fun q hq => by
    rcases List.mem_cons.mp hq with rfl | hq
    · exact s.gr.k _ h
    · exact s.fr q hq⟩
/-- a new list, in work -/
theorem evs_new {i : Nat} {ds : List PyData} (h : EvL M O K t σ G ds) (hz : ds.length ≤ sizeLine) (k : ∀ p xs G', Same G G' → DeAll K G' xs ds → (∀ q ∈ O, q.1 ≠ p) → EvS M G0 H0 ((p, .lst xs) :: O) u (σ.set i (some (.ref p))) G' R P) : EvS M G0 H0 O (tSeq (tAsg (tLst t) (gName i)) u) σ G R P := fun G1 H1 D st s1 kr n =>
  h G1 H1 s1 st.gr.s st.ow _ fun xs G2 H2 g r => ⟨by rw [r.length]; exact hz, fun p np => k p xs G2 (s1.trans g.g) r (fun q hq z => by
      have := (st.to g).ow.o q hq
      rw [z, np] at this
      cases this.1) G2 _ D ((st.to g).new np rfl) (Same.refl _) kr fun σ'' O'' G3 H3 st'' s3 p' => n σ'' O'' G3 H3 st'' (g.g.trans s3) p'⟩
/-- x.append(e), x in work -/
theorem evs_app {i : Nat} {p : Addr} {xs : List V} {O1 O2 : Bu} (hv : σ[i]? = some (some (.ref p))) (hn : ∀ q ∈ O1 ++ O2, q.1 ≠ p) (h : Ev M (O1 ++ (p, .lst xs) :: O2) te σ G Ra) (hz : xs.length < sizeLine)
    (k : ∀ v G', Same G G' → Ra.p v G' → EvS M G0 H0 (O1 ++ (p, .lst (xs ++ [v])) :: O2) u σ G' R P) : EvS M G0 H0 (O1 ++ (p, .lst xs) :: O2) (tSeq (tDrop (tBM K "list" rAppend (tVar i) (tCons te tNil))) u) σ G R P := fun G1 H1 D st s1 kr n => by
  have hp : (p, HO.lst xs) ∈ O1 ++ (p, .lst xs) :: O2 := List.mem_append_right _ List.mem_cons_self
  refine ⟨_, hv, .inl ⟨rfl, xs, .inl (.inl (st.ow.o _ hp).1)⟩, h G1 H1 s1 st.gr.s st.ow _ fun v G2 H2 g r => ?_⟩
  exact ⟨p, xs, v, rfl, rfl, ((st.to g).ow.o _ hp).1, hz, k v G2 (s1.trans g.g) r G2 _ D ((st.to g).put rfl hn) (Same.refl _) kr fun σ'' O'' G3 H3 st'' s3 p' => n σ'' O'' G3 H3 st'' (g.g.trans s3) p'⟩
/-- return x, x a list in work -/
theorem evs_retO {i : Nat} {p : Addr} {xs : List V} {ds : List PyData} (hv : σ[i]? = some (some (.ref p))) (hp : (p, HO.lst xs) ∈ O) (h : DeAll K G xs ds) : EvS M G0 H0 O (tRet (tVar i)) σ G (D K (.list ds)) P := fun G1 H1 D st s1 kr n => by
  have h1 := st.ow.o _ hp
  have n0 := st.fr _ hp
  refine ⟨_, hv, kr _ (upd G1 p (.lst xs)) H1 ⟨st.gr.g.trans (same_fresh h1.2.1), st.gr.h, fun b u e => ?_, fun a e1 e2 => ?_, st.gr.i, st.gr.k⟩ (.lst upd_same ((h.up s1).up (same_fresh h1.2.1)))⟩
  · by_cases hb : b = p
    · subst hb; rw [upd_same] at e; rw [h1.1]; exact e
    · rw [upd_ne hb] at e; exact st.gr.s _ _ e
  · rw [upd_ne (fun z => e2 (by rw [z]; exact n0))]
    exact st.gr.n a e1 e2
/-- for -/
theorem evs_for {ι : Type} {wi : TI} {g : TG} {tb : TS} (is : List ι) (r : ι → Rp) (I : Nat → L2.St → Bu → Hp → Prop) (hi : EvI M O wi σ G (is.map r)) (h0 : ∀ G', Same G G' → I 0 σ O G')
    (hs : ∀ (k : Nat) (x : ι) (σk : L2.St) (Ok : Bu) (Gk : Hp), is[k]? = some x → Same G Gk → I k σk Ok Gk → ∀ (v : V) (G1 : Hp), Same Gk G1 → (r x).p v G1 → ∃ σ2 : L2.St, (∀ H1, Same G1 H1 → ∀ Q : L2.St → Hp → Prop, Q σ2 H1 → g v σk H1 Q) ∧ EvS M G0 H0 Ok tb σ2 G1 R (I (k + 1)))
    (hd : ∀ σ' O' G', Same G G' → I is.length σ' O' G' → EvS M G0 H0 O' u σ' G' R P) : EvS M G0 H0 O (tSeq (tFor wi g tb) u) σ G R P := fun G1 H1 D st s1 kr n =>
  hi G1 H1 s1 st.gr.s st.ow _ fun J G2 H2 gg W => by
    refine ⟨fun i m σ' H => m + i = is.length ∧ ∃ (O' : Bu) (Gi : Hp), Stt M G0 H0 O' Gi H ∧ Same G2 Gi ∧ I i σ' O' Gi, ⟨is.length, rfl, O, G2, st.to gg, Same.refl _, h0 _ (s1.trans gg.g)⟩, ?_⟩
    rintro i m σ' H ⟨e, O', Gi, si, sg, ii⟩
    by_cases hi' : i < is.length
    · have hx : is[i]? = some is[i] := List.getElem?_eq_getElem hi'
      obtain ⟨go, yl⟩ := W.1 i (r is[i]) Gi H (by rw [List.getElem?_map, hx]; rfl) sg si.gr.s si.ow.i si.ow.f
      refine .inr ⟨go, fun σ'' H' => ∃ (O' : Bu) (Gi : Hp), Stt M G0 H0 O' Gi H' ∧ Same G2 Gi ∧ I (i + 1) σ'' O' Gi, fun σ'' H' q => ⟨is.length - (i + 1), by omega, by omega, q⟩, fun x H' y => ?_⟩
      obtain ⟨G3, g3, rx⟩ := yl x H' y
      obtain ⟨σ2, hg, he⟩ := hs i is[i] σ' O' Gi hx ((s1.trans gg.g).trans sg) ii x G3 g3.g rx
      refine hg H' g3.s _ (he G3 H' _ (si.to g3) (Same.refl _) kr fun σ'' O'' G4 H4 st4 s4 p => ?_)
      exact ⟨O'', G4, st4, (sg.trans g3.g).trans s4, p⟩
    · obtain rfl : i = is.length := by omega
      refine .inl ⟨by have := W.2 H (sg.trans si.gr.s) si.ow.i; rw [List.length_map] at this; exact this, ?_⟩
      exact hd σ' O' Gi ((s1.trans gg.g).trans sg) ii Gi H D si (Same.refl _) kr fun σ'' O'' G3 H3 st'' s3 p' => n σ'' O'' G3 H3 st'' ((gg.g.trans sg).trans s3) p'
end
end Own

set_option linter.all false
set_option linter.unusedVariables false
namespace Own
open PySem L2
/-! ### what the slots hold -/
inductive Ce where
  | no
  | is (R : Rp)
  /-- a list in work -/
  | bl (ds : List PyData)
abbrev Ctx := List Ce
structure Env (K : PySem.W.Frag) (Γ : Ctx) (σ : L2.St) (O : Bu) (G : Hp) : Prop where
  len : Γ.length = σ.length
  is : ∀ (i : Nat) (R : Rp), Γ[i]? = some (.is R) → ∃ v, σ[i]? = some (some v) ∧ R.p v G
  bl : ∀ (i : Nat) (ds : List PyData), Γ[i]? = some (.bl ds) → ∃ p xs, σ[i]? = some (some (.ref p)) ∧ (p, HO.lst xs) ∈ O ∧ DeAll K G xs ds
  ne : ∀ (i j : Nat) (ds es : List PyData) (p q : Addr), i ≠ j → Γ[i]? = some (.bl ds) → Γ[j]? = some (.bl es) → σ[i]? = some (some (.ref p)) → σ[j]? = some (some (.ref q)) → p ≠ q
  nd : (O.map (·.1)).Nodup
section
variable {M : Am} {O : Bu} {K : PySem.W.Frag} {σ : L2.St} {G : Hp} {R Ra Rb : Rp} {te ta tb tc : TE} {tA tB' tt : TT} {t tr : TA} {Γ : Ctx}
theorem Env.up {G' : Hp} (e : Env K Γ σ O G) (s : Same G G') : Env K Γ σ O G' :=
  ⟨e.len, fun i R h => let ⟨v, h1, h2⟩ := e.is i R h; ⟨v, h1, R.up s h2⟩, fun i ds h => let ⟨p, xs, h1, h2, h3⟩ := e.bl i ds h; ⟨p, xs, h1, h2, h3.up s⟩, e.ne, e.nd⟩
theorem Env.set {i : Nat} {v : V} (e : Env K Γ σ O G) (hi : i < Γ.length) (r : R.p v G) : Env K (Γ.set i (.is R)) (σ.set i (some v)) O G := by
  have hi' : i < σ.length := e.len ▸ hi
  refine ⟨by rw [List.length_set, List.length_set]; exact e.len, fun j R' h => ?_, fun j ds h => ?_, fun j k ds es p q n h1 h2 h3 h4 => ?_, e.nd⟩
  · by_cases q : i = j
    · subst q
      rw [List.getElem?_set_self hi] at h
      rw [List.getElem?_set_self hi']
      cases h
      exact ⟨v, rfl, r⟩
    · rw [List.getElem?_set_ne q] at h ⊢
      exact e.is j R' h
  · have q : i ≠ j := fun z => by subst z; rw [List.getElem?_set_self hi] at h; cases h
    rw [List.getElem?_set_ne q] at h ⊢
    exact e.bl j ds h
  · have q1 : i ≠ j := fun z => by subst z; rw [List.getElem?_set_self hi] at h1; cases h1
    have q2 : i ≠ k := fun z => by subst z; rw [List.getElem?_set_self hi] at h2; cases h2
    rw [List.getElem?_set_ne q1] at h1 h3
    rw [List.getElem?_set_ne q2] at h2 h4
    exact e.ne j k ds es p q n h1 h2 h3 h4
theorem Env.new {i : Nat} {p : Addr} {xs : List V} {ds : List PyData} (e : Env K Γ σ O G) (hi : i < Γ.length) (hp : ∀ q ∈ O, q.1 ≠ p) (r : DeAll K G xs ds) : Env K (Γ.set i (.bl ds)) (σ.set i (some (.ref p))) ((p, .lst xs) :: O) G := by
  have hi' : i < σ.length := e.len ▸ hi
  refine ⟨by rw [List.length_set, List.length_set]; exact e.len, fun j R' h => ?_, fun j es h => ?_, fun j k es fs a b n h1 h2 h3 h4 => ?_, ?_⟩
  · have q : i ≠ j := fun z => by subst z; rw [List.getElem?_set_self hi] at h; cases h
    rw [List.getElem?_set_ne q] at h ⊢
    exact e.is j R' h
  · by_cases q : i = j
    · subst q
      rw [List.getElem?_set_self hi] at h
      rw [List.getElem?_set_self hi']
      cases h
      exact ⟨p, xs, rfl, List.mem_cons_self, r⟩
    · rw [List.getElem?_set_ne q] at h ⊢
      obtain ⟨a, ys, h1, h2, h3⟩ := e.bl j es h
      exact ⟨a, ys, h1, List.mem_cons_of_mem _ h2, h3⟩
  · by_cases q1 : i = j
    · subst q1
      rw [List.getElem?_set_ne n] at h2 h4
      rw [List.getElem?_set_self hi'] at h3
      cases h3
      obtain ⟨a, ys, g1, g2, g3⟩ := e.bl k fs h2
      rw [h4] at g1
      cases g1
      exact fun z => hp _ g2 z.symm
    · rw [List.getElem?_set_ne q1] at h1 h3
      by_cases q2 : i = k
      · subst q2
        rw [List.getElem?_set_self hi'] at h4
        cases h4
        obtain ⟨a, ys, g1, g2, g3⟩ := e.bl j es h1
        rw [h3] at g1
        cases g1
        exact hp _ g2
      · rw [List.getElem?_set_ne q2] at h2 h4
        exact e.ne j k es fs a b n h1 h2 h3 h4
  · rw [List.map_cons, List.nodup_cons]
    refine ⟨fun z => ?_, e.nd⟩
    obtain ⟨q, hq, e'⟩ := List.mem_map.mp z
    exact hp q hq e'
/-- the place of a list in work -/
theorem Env.split {i : Nat} {ds : List PyData} (e : Env K Γ σ O G) (h : Γ[i]? = some (.bl ds)) : ∃ p xs O1 O2, σ[i]? = some (some (.ref p)) ∧ O = O1 ++ (p, HO.lst xs) :: O2 ∧ DeAll K G xs ds ∧ ∀ q ∈ O1 ++ O2, q.1 ≠ p := by
  obtain ⟨p, xs, h1, h2, h3⟩ := e.bl i ds h
  obtain ⟨O1, O2, rfl⟩ := List.append_of_mem h2
  refine ⟨p, xs, O1, O2, h1, rfl, h3, fun q hq z => ?_⟩
  have nd := e.nd
  rw [List.map_append, List.map_cons, List.nodup_append] at nd
  obtain ⟨n1, n2, n3⟩ := nd
  rw [List.nodup_cons] at n2
  rcases List.mem_append.mp hq with h | h
  · exact n3 _ (List.mem_map_of_mem h) _ List.mem_cons_self z
  · exact n2.1 (by have := List.mem_map_of_mem (f := Prod.fst) h; rw [z] at this; exact this)
theorem Env.app {i : Nat} {p : Addr} {xs ys : List V} {ds es : List PyData} {O1 O2 : Bu} (e : Env K Γ σ (O1 ++ (p, .lst xs) :: O2) G) (h : Γ[i]? = some (.bl ds)) (hv : σ[i]? = some (some (.ref p))) (r : DeAll K G ys es) : Env K (Γ.set i (.bl es)) σ (O1 ++ (p, .lst ys) :: O2) G := by
  have hi : i < Γ.length := (List.getElem?_eq_some_iff.mp h).1
  refine ⟨by rw [List.length_set]; exact e.len, fun j R' h' => ?_, fun j fs h' => ?_, fun j k fs gs a b n h1 h2 h3 h4 => ?_, ?_⟩
  · have q : i ≠ j := fun z => by subst z; rw [List.getElem?_set_self hi] at h'; cases h'
    rw [List.getElem?_set_ne q] at h'
    exact e.is j R' h'
  · by_cases q : i = j
    · subst q
      rw [List.getElem?_set_self hi] at h'
      cases h'
      exact ⟨p, ys, hv, List.mem_append_right _ List.mem_cons_self, r⟩
    · rw [List.getElem?_set_ne q] at h'
      obtain ⟨a, zs, g1, g2, g3⟩ := e.bl j fs h'
      have na : p ≠ a := e.ne i j ds fs p a q h h' hv g1
      refine ⟨a, zs, g1, ?_, g3⟩
      rcases List.mem_append.mp g2 with g2 | g2
      · exact List.mem_append_left _ g2
      · rcases List.mem_cons.mp g2 with g2 | g2
        · exact absurd (congrArg Prod.fst g2).symm na
        · exact List.mem_append_right _ (List.mem_cons_of_mem _ g2)
  · have h1' : ∃ ds', Γ[j]? = some (.bl ds') := by
      by_cases q : i = j
      · exact ⟨ds, q ▸ h⟩
      · rw [List.getElem?_set_ne q] at h1; exact ⟨_, h1⟩
    have h2' : ∃ ds', Γ[k]? = some (.bl ds') := by
      by_cases q : i = k
      · exact ⟨ds, q ▸ h⟩
      · rw [List.getElem?_set_ne q] at h2; exact ⟨_, h2⟩
    obtain ⟨_, h1'⟩ := h1'
    obtain ⟨_, h2'⟩ := h2'
    exact e.ne j k _ _ a b n h1' h2' h3 h4
  · have nd := e.nd
    rw [List.map_append, List.map_cons] at nd ⊢
    exact nd
/-- less is known -/
def Wk : Ctx → Ctx → Prop
  | [], [] => True
  | c :: cs, d :: ds => (d = .no ∨ c = d) ∧ Wk cs ds
  | _, _ => False
theorem Wk.get : ∀ {Γ Δ : Ctx} {i : Nat} {c : Ce}, Wk Γ Δ → Δ[i]? = some c → c = .no ∨ Γ[i]? = some c
  | [], [], _, _, _, e => by cases e
  | _ :: _, _ :: _, 0, _, ⟨h, _⟩, e => by
    cases e
    rcases h with h | h
    · exact .inl h
    · exact .inr (by rw [h]; rfl)
  | _ :: _, _ :: _, i + 1, _, ⟨_, t⟩, e => Wk.get (i := i) t e
theorem Wk.length : ∀ {Γ Δ : Ctx}, Wk Γ Δ → Γ.length = Δ.length
  | [], [], _ => rfl
  | _ :: _, _ :: _, ⟨_, t⟩ => congrArg (· + 1) (Wk.length t)
theorem Env.wk {Δ : Ctx} (e : Env K Γ σ O G) (w : Wk Γ Δ) : Env K Δ σ O G :=
  ⟨w.length.symm.trans e.len, fun i R h => by
    rcases w.get h with z | z
    · cases z
    · exact e.is i R z, fun i ds h => by
    rcases w.get h with z | z
    · cases z
    · exact e.bl i ds z, fun i j ds es p q n h1 h2 h3 h4 => by
    rcases w.get h1 with z | z
    · cases z
    · rcases w.get h2 with z' | z'
      · cases z'
      · exact e.ne i j ds es p q n z z' h3 h4, e.nd⟩
theorem Wk.refl : ∀ {Γ : Ctx}, Wk Γ Γ
  | [] => trivial
  | _ :: _ => ⟨.inr rfl, Wk.refl⟩
theorem Env.start {Rs : List Rp} {vs : List V} (N : List Str) (h : RAll Rs vs G) (hN : Rs.length ≤ N.length) : Env K (Rs.map Ce.is ++ List.replicate (N.length - Rs.length) .no) (start N vs) [] G := by
  have key : ∀ {Rs : List Rp} {vs : List V}, RAll Rs vs G → Rs.length = vs.length ∧ ∀ (i : Nat) (R : Rp), Rs[i]? = some R → ∃ v, vs[i]? = some v ∧ R.p v G := by
    intro Rs
    induction Rs with
    | nil => intro vs h; cases h; exact ⟨rfl, fun i R e => by cases e⟩
    | cons R Rs ih =>
      rintro vs ⟨v, r, rfl, h, t⟩
      obtain ⟨l, g⟩ := ih t
      refine ⟨congrArg (· + 1) l, fun i R' e => ?_⟩
      cases i with
      | zero => cases e; exact ⟨v, rfl, h⟩
      | succ i => exact g i R' e
  obtain ⟨l, g⟩ := key h
  have split : ∀ (i : Nat) (c : Ce), (Rs.map Ce.is ++ List.replicate (N.length - Rs.length) .no)[i]? = some c → c = .no ∨ ∃ R, Rs[i]? = some R ∧ c = .is R := by
    intro i c e
    by_cases hi : i < (Rs.map Ce.is).length
    · rw [List.getElem?_append_left hi, List.getElem?_map] at e
      cases q : Rs[i]? with
      | none => rw [q] at e; cases e
      | some R => rw [q] at e; cases e; exact .inr ⟨R, rfl, rfl⟩
    · rw [List.getElem?_append_right (by omega), List.getElem?_replicate] at e
      split at e
      · cases e; exact .inl rfl
      · cases e
  refine ⟨?_, fun i R e => ?_, fun i ds e => ?_, fun i j ds es p q n h1 h2 h3 h4 => ?_, List.nodup_nil⟩
  · unfold L2.start
    rw [List.length_append, List.length_append, List.length_map, List.length_map, List.length_replicate, List.length_replicate, l]
  · rcases split i _ e with z | ⟨R', h1, h2⟩
    · cases z
    · cases h2
      obtain ⟨v, hv, r⟩ := g i R h1
      refine ⟨v, ?_, r⟩
      unfold L2.start
      rw [List.getElem?_append_left (by rw [List.length_map]; exact (List.getElem?_eq_some_iff.mp hv).1), List.getElem?_map, hv]
      rfl
  · rcases split i _ e with z | ⟨R', h1, h2⟩
    · cases z
    · cases h2
  · rcases split i _ h1 with z | ⟨R', h1, h2⟩
    · cases z
    · cases h2
/-! ### judgements over a context -/
def JE (M : Am) (K : PySem.W.Frag) (Γ : Ctx) (te : TE) (R : Rp) : Prop := ∀ (σ : L2.St) (O : Bu) (G : Hp), Env K Γ σ O G → Ev M O te σ G R
def JT (M : Am) (K : PySem.W.Frag) (Γ : Ctx) (tt : TT) (b : Bool) : Prop := ∀ (σ : L2.St) (O : Bu) (G : Hp), Env K Γ σ O G → EvT M O tt σ G b
def JA (M : Am) (K : PySem.W.Frag) (Γ : Ctx) (ta : TA) (Rs : List Rp) : Prop := ∀ (σ : L2.St) (O : Bu) (G : Hp), Env K Γ σ O G → EvA M O ta σ G Rs
def JL (M : Am) (K : PySem.W.Frag) (Γ : Ctx) (ta : TA) (ds : List PyData) : Prop := ∀ (σ : L2.St) (O : Bu) (G : Hp), Env K Γ σ O G → EvL M O K ta σ G ds
def JI (M : Am) (K : PySem.W.Frag) (Γ : Ctx) (wi : TI) (Rs : List Rp) : Prop := ∀ (σ : L2.St) (O : Bu) (G : Hp), Env K Γ σ O G → EvI M O wi σ G Rs
def JP (M : Am) (K : PySem.W.Frag) (Γ : Ctx) (tp : TO) (o : Option Int) : Prop := ∀ (σ : L2.St) (O : Bu) (G : Hp), Env K Γ σ O G → EvPt M O tp σ G o
theorem JE.eq {d e : PyData} (h : JE M K Γ te (D K d)) (q : d = e) : JE M K Γ te (D K e) := q ▸ h
theorem JT.eq {d e : Bool} (h : JT M K Γ tA d) (q : d = e) : JT M K Γ tA e := q ▸ h
theorem JL.eq {d e : List PyData} (h : JL M K Γ t d) (q : d = e) : JL M K Γ t e := q ▸ h
theorem j_v {i : Nat} (e : Γ[i]? = some (.is R)) : JE M K Γ (tVar i) R := fun σ O G ev => let ⟨v, h1, h2⟩ := ev.is i R e; ev_v h1 h2
theorem j_c {v : V} (h : ∀ G, R.p v G) : JE M K Γ (tC v) R := fun σ O G ev => ev_c (h G)
theorem j_int (n : Int) : JE M K Γ (tC (.int n)) (D K (.int n)) := fun σ O G ev => ev_int n
theorem j_str (n : Str) : JE M K Γ (tC (.str n)) (D K (.str n)) := fun σ O G ev => ev_str n
theorem j_bl (n : Bool) : JE M K Γ (tC (.bl n)) (D K (.bool n)) := fun σ O G ev => ev_bl n
theorem j_non : JE M K Γ (tC .non) (D K .none) := fun σ O G ev => ev_non
theorem ja_nil : JA M K Γ tNil [] := fun σ O G ev => eva_nil
theorem ja_cons {Rs : List Rp} (h : JE M K Γ ta R) (q : JA M K Γ tr Rs) : JA M K Γ (tCons ta tr) (R :: Rs) := fun σ O G ev => eva_cons (h _ _ _ ev) (q _ _ _ ev)
theorem jl_nil : JL M K Γ tNil [] := fun σ O G ev => evl_nil
theorem jl_cons {d : PyData} {ds : List PyData} (h : JE M K Γ ta (D K d)) (q : JL M K Γ tr ds) : JL M K Γ (tCons ta tr) (d :: ds) := fun σ O G ev => evl_cons (h _ _ _ ev) (q _ _ _ ev)
theorem jp_none : JP M K Γ tNoPart none := fun σ O G ev => evp_none
theorem jp_some {i : Int} (h : JE M K Γ te (D K (.int i))) : JP M K Γ (tPart te) (some i) := fun σ O G ev => evp_some (h _ _ _ ev)
theorem j_I0 {f : Int → Int → V} {a b : Int} {d : PyData} (ha : JE M K Γ ta (D K (.int a))) (hb : JE M K Γ tb (D K (.int b))) (hd : ∀ H, De K H (f a b) d) : JE M K Γ (tOp (rI0 f) ta tb) (D K d) := fun σ O G ev => ev_I0 (ha _ _ _ ev) (hb _ _ _ ev) hd
theorem j_add {a b : Int} (ha : JE M K Γ ta (D K (.int a))) (hb : JE M K Γ tb (D K (.int b))) : JE M K Γ (tOp (rI0 fun i j => .int (i + j)) ta tb) (D K (.int (a + b))) := fun σ O G ev => ev_add (ha _ _ _ ev) (hb _ _ _ ev)
theorem j_sub {a b : Int} (ha : JE M K Γ ta (D K (.int a))) (hb : JE M K Γ tb (D K (.int b))) : JE M K Γ (tOp (rI0 fun i j => .int (i - j)) ta tb) (D K (.int (a - b))) := fun σ O G ev => ev_sub (ha _ _ _ ev) (hb _ _ _ ev)
theorem j_mul {a b : Int} (ha : JE M K Γ ta (D K (.int a))) (hb : JE M K Γ tb (D K (.int b))) (hc : CMul a b) : JE M K Γ (tOp (rI CMul fun i j => .int (i * j)) ta tb) (D K (.int (a * b))) := fun σ O G ev => ev_mul (ha _ _ _ ev) (hb _ _ _ ev) hc
theorem j_mod {a b : Int} (ha : JE M K Γ ta (D K (.int a))) (hb : JE M K Γ tb (D K (.int b))) (hc : 0 < b) : JE M K Γ (tOp (rI (fun _ j => 0 < j) fun i j => .int (i % j)) ta tb) (D K (.int (a % b))) := fun σ O G ev => ev_mod (ha _ _ _ ev) (hb _ _ _ ev) hc
theorem j_neg {a : Int} (ha : JE M K Γ ta (D K (.int a))) : JE M K Γ (tUn (rU fun i => .int (-i)) ta) (D K (.int (-a))) := fun σ O G ev => ev_neg (ha _ _ _ ev)
theorem j_lt {a b : Int} (ha : JE M K Γ ta (D K (.int a))) (hb : JE M K Γ tb (D K (.int b))) : JE M K Γ (tOp (rI0 fun i j => .bl (decide (i < j))) ta tb) (D K (.bool (decide (a < b)))) := fun σ O G ev => ev_lt (ha _ _ _ ev) (hb _ _ _ ev)
theorem j_le {a b : Int} (ha : JE M K Γ ta (D K (.int a))) (hb : JE M K Γ tb (D K (.int b))) : JE M K Γ (tOp (rI0 fun i j => .bl (decide (i ≤ j))) ta tb) (D K (.bool (decide (a ≤ b)))) := fun σ O G ev => ev_le (ha _ _ _ ev) (hb _ _ _ ev)
theorem j_gt {a b : Int} (ha : JE M K Γ ta (D K (.int a))) (hb : JE M K Γ tb (D K (.int b))) : JE M K Γ (tOp (rI0 fun i j => .bl (decide (j < i))) ta tb) (D K (.bool (decide (b < a)))) := fun σ O G ev => ev_gt (ha _ _ _ ev) (hb _ _ _ ev)
theorem j_ge {a b : Int} (ha : JE M K Γ ta (D K (.int a))) (hb : JE M K Γ tb (D K (.int b))) : JE M K Γ (tOp (rI0 fun i j => .bl (decide (j ≤ i))) ta tb) (D K (.bool (decide (b ≤ a)))) := fun σ O G ev => ev_ge (ha _ _ _ ev) (hb _ _ _ ev)
theorem j_eq {d e : PyData} {x y : V} (ha : JE M K Γ ta (D K d)) (hb : JE M K Γ tb (D K e)) (hx : scD d = some x) (hy : scD e = some y) (hs : scal x y = true) : JE M K Γ (tOp rEq ta tb) (D K (.bool (decide (x = y)))) := fun σ O G ev => ev_eq (ha _ _ _ ev) (hb _ _ _ ev) hx hy hs
theorem j_ne {d e : PyData} {x y : V} (ha : JE M K Γ ta (D K d)) (hb : JE M K Γ tb (D K e)) (hx : scD d = some x) (hy : scD e = some y) (hs : scal x y = true) : JE M K Γ (tOp rNe ta tb) (D K (.bool (!decide (x = y)))) := fun σ O G ev => ev_ne (ha _ _ _ ev) (hb _ _ _ ev) hx hy hs
theorem j_eqI {a b : Int} (ha : JE M K Γ ta (D K (.int a))) (hb : JE M K Γ tb (D K (.int b))) : JE M K Γ (tOp rEq ta tb) (D K (.bool (decide (a = b)))) := fun σ O G ev => ev_eqI (ha _ _ _ ev) (hb _ _ _ ev)
theorem j_neI {a b : Int} (ha : JE M K Γ ta (D K (.int a))) (hb : JE M K Γ tb (D K (.int b))) : JE M K Γ (tOp rNe ta tb) (D K (.bool (!decide (a = b)))) := fun σ O G ev => ev_neI (ha _ _ _ ev) (hb _ _ _ ev)
theorem j_eqS {a b : Str} (ha : JE M K Γ ta (D K (.str a))) (hb : JE M K Γ tb (D K (.str b))) : JE M K Γ (tOp rEq ta tb) (D K (.bool (decide (a = b)))) := fun σ O G ev => ev_eqS (ha _ _ _ ev) (hb _ _ _ ev)
theorem j_neS {a b : Str} (ha : JE M K Γ ta (D K (.str a))) (hb : JE M K Γ tb (D K (.str b))) : JE M K Γ (tOp rNe ta tb) (D K (.bool (!decide (a = b)))) := fun σ O G ev => ev_neS (ha _ _ _ ev) (hb _ _ _ ev)
theorem j_eqD {d e : PyData} (ha : JE M K Γ ta (D K d)) (hb : JE M K Γ tb (D K e)) (hd : SeqAt.shaped d = true) (he : SeqAt.shaped e = true) : JE M K Γ (tOp (rEqD K) ta tb) (D K (.bool (PyData.eqv d e))) := fun σ O G ev => ev_eqD (ha _ _ _ ev) (hb _ _ _ ev) hd he
theorem j_neD {d e : PyData} (ha : JE M K Γ ta (D K d)) (hb : JE M K Γ tb (D K e)) (hd : SeqAt.shaped d = true) (he : SeqAt.shaped e = true) : JE M K Γ (tOp (rNeD K) ta tb) (D K (.bool (!PyData.eqv d e))) := fun σ O G ev => ev_neD (ha _ _ _ ev) (hb _ _ _ ev) hd he
def isNB : PyData → Bool
  | .none => true
  | _ => false
theorem j_isN {d : PyData} (ha : JE M K Γ te (D K d)) : JE M K Γ (tIsN te) (D K (.bool (isNB d))) := fun σ O G ev => (ev_isN (ha _ _ _ ev)).eq (by cases d <;> rfl)
theorem j_notN {d : PyData} (ha : JE M K Γ te (D K d)) : JE M K Γ (tNotN te) (D K (.bool (!isNB d))) := fun σ O G ev => (ev_notN (ha _ _ _ ev)).eq (by cases d <;> rfl)
theorem j_not {b : Bool} (h : JE M K Γ ta (D K (.bool b))) : JE M K Γ (tNotV ta) (D K (.bool (!b))) := fun σ O G ev => ev_not (h _ _ _ ev)
theorem j_and {a b : Bool} (ha : JE M K Γ ta (D K (.bool a))) (hb : a = true → JE M K Γ tb (D K (.bool b))) : JE M K Γ (tAndV ta tb) (D K (.bool (a && b))) := fun σ O G ev => ev_and (ha _ _ _ ev) fun e => hb e _ _ _ ev
theorem j_or {a b : Bool} (ha : JE M K Γ ta (D K (.bool a))) (hb : a = false → JE M K Γ tb (D K (.bool b))) : JE M K Γ (tOrV ta tb) (D K (.bool (a || b))) := fun σ O G ev => ev_or (ha _ _ _ ev) fun e => hb e _ _ _ ev
theorem jt_val {b : Bool} (h : JE M K Γ ta (D K (.bool b))) : JT M K Γ (tB ta) b := fun σ O G ev => evt_val (h _ _ _ ev)
theorem jt_test {b : Bool} (h : JE M K Γ ta (D K (.bool b))) : JT M K Γ (tTest ta) b := fun σ O G ev => evt_test (h _ _ _ ev)
theorem jt_not {b : Bool} (h : JT M K Γ tA b) : JT M K Γ (tNot tA) (!b) := fun σ O G ev => evt_not (h _ _ _ ev)
theorem jt_and {a b : Bool} (ha : JT M K Γ tA a) (hb : a = true → JT M K Γ tB' b) : JT M K Γ (tAnd tA tB') (a && b) := fun σ O G ev => evt_and (ha _ _ _ ev) fun e => hb e _ _ _ ev
theorem jt_or {a b : Bool} (ha : JT M K Γ tA a) (hb : a = false → JT M K Γ tB' b) : JT M K Γ (tOr tA tB') (a || b) := fun σ O G ev => evt_or (ha _ _ _ ev) fun e => hb e _ _ _ ev
theorem j_ite {c : Bool} (hc : JT M K Γ tA c) (ha : c = true → JE M K Γ ta R) (hb : c = false → JE M K Γ tb R) : JE M K Γ (tIf tA ta tb) R := fun σ O G ev => ev_ite (hc _ _ _ ev) (fun e => ha e _ _ _ ev) fun e => hb e _ _ _ ev
theorem j_tup {ds : List PyData} (h : JL M K Γ t ds) (hz : ds.length ≤ sizeLine) : JE M K Γ (tTup t) (D K (.tuple ds)) := fun σ O G ev => ev_tup (h _ _ _ ev) hz
theorem j_lst {ds : List PyData} (h : JL M K Γ t ds) (hz : ds.length ≤ sizeLine) : JE M K Γ (tLst t) (D K (.list ds)) := fun σ O G ev => ev_lst (h _ _ _ ev) hz
theorem j_ixT {ds : List PyData} {i : Int} {d : PyData} (ha : JE M K Γ ta (D K (.tuple ds))) (hb : JE M K Γ tb (D K (.int i))) (e : atI ds i = some d) : JE M K Γ (tOp (rIxT K) ta tb) (D K d) := fun σ O G ev => ev_ixT (ha _ _ _ ev) (hb _ _ _ ev) e
theorem j_ixL {ds : List PyData} {i : Int} {d : PyData} (ha : JE M K Γ ta (D K (.list ds))) (hb : JE M K Γ tb (D K (.int i))) (e : atI ds i = some d) : JE M K Γ (tOp (rIxL K) ta tb) (D K d) := fun σ O G ev => ev_ixL (ha _ _ _ ev) (hb _ _ _ ev) e
theorem j_slL {tl th : TO} {lo hi : Option Int} {ds : List PyData} (ha : JE M K Γ ta (D K (.list ds))) (hl : JP M K Γ tl lo) (hh : JP M K Γ th hi) : JE M K Γ (tSl (rSlL K) ta tl th) (D K (.list (cutD ds lo hi))) := fun σ O G ev => ev_slL (ha _ _ _ ev) (hl _ _ _ ev) (hh _ _ _ ev)
theorem j_slA {tl th : TO} {lo hi : Option Int} {ds : List PyData} (ha : JE M K Γ ta (D K (.tuple ds))) (hl : JP M K Γ tl lo) (hh : JP M K Γ th hi) : JE M K Γ (tSl (rSlA K) ta tl th) (D K (.tuple (cutD ds lo hi))) := fun σ O G ev => ev_slA (ha _ _ _ ev) (hl _ _ _ ev) (hh _ _ _ ev)
theorem j_catL {ds es : List PyData} (ha : JE M K Γ ta (D K (.list ds))) (hb : JE M K Γ tb (D K (.list es))) (hz : ds.length + es.length ≤ sizeLine) : JE M K Γ (tOp rCat ta tb) (D K (.list (ds ++ es))) := fun σ O G ev => ev_catL (ha _ _ _ ev) (hb _ _ _ ev) hz
theorem j_catA {ds es : List PyData} (ha : JE M K Γ ta (D K (.tuple ds))) (hb : JE M K Γ tb (D K (.tuple es))) (hz : ds.length + es.length ≤ sizeLine) : JE M K Γ (tOp (rCatA K) ta tb) (D K (.tuple (ds ++ es))) := fun σ O G ev => ev_catA (ha _ _ _ ev) (hb _ _ _ ev) hz
theorem j_catS {a b : Str} (ha : JE M K Γ ta (D K (.str a))) (hb : JE M K Γ tb (D K (.str b))) (hz : a.length + b.length ≤ sizeLine) : JE M K Γ (tOp (fun x y H Q => ∃ i j, x = .str i ∧ y = .str j ∧ i.length + j.length ≤ sizeLine ∧ Q (.str (i ++ j)) H) ta tb) (D K (.str (a ++ b))) := fun σ O G ev => ev_catS (ha _ _ _ ev) (hb _ _ _ ev) hz
theorem j_rep {ds : List PyData} {n : Int} (ha : JE M K Γ ta (D K (.list ds))) (hb : JE M K Γ tb (D K (.int n))) (h1 : -(2 ^ 63) ≤ n) (h2 : n < 2 ^ 63) (hz : ds.length * n.toNat ≤ sizeLine) : JE M K Γ (tOp rRep ta tb) (D K (.list (List.replicate n.toNat ds).flatten)) := fun σ O G ev => ev_rep (ha _ _ _ ev) (hb _ _ _ ev) h1 h2 hz
theorem j_inT {d : PyData} {ds : List PyData} (ha : JE M K Γ ta (D K d)) (hb : JE M K Γ tb (D K (.tuple ds))) (f : flD d = true) (fs : ds.all flD = true) : JE M K Γ (tOp (rIn K false) ta tb) (D K (.bool (ds.any fun e => PyData.eqv e d))) := fun σ O G ev => ev_inT (ha _ _ _ ev) (hb _ _ _ ev) f fs
theorem j_inL {d : PyData} {ds : List PyData} (ha : JE M K Γ ta (D K d)) (hb : JE M K Γ tb (D K (.list ds))) (f : flD d = true) (fs : ds.all flD = true) : JE M K Γ (tOp (rIn K false) ta tb) (D K (.bool (ds.any fun e => PyData.eqv e d))) := fun σ O G ev => ev_inL (ha _ _ _ ev) (hb _ _ _ ev) f fs
theorem j_ninT {d : PyData} {ds : List PyData} (ha : JE M K Γ ta (D K d)) (hb : JE M K Γ tb (D K (.tuple ds))) (f : flD d = true) (fs : ds.all flD = true) : JE M K Γ (tOp (rIn K true) ta tb) (D K (.bool (!ds.any fun e => PyData.eqv e d))) := fun σ O G ev => ev_ninT (ha _ _ _ ev) (hb _ _ _ ev) f fs
theorem j_ninL {d : PyData} {ds : List PyData} (ha : JE M K Γ ta (D K d)) (hb : JE M K Γ tb (D K (.list ds))) (f : flD d = true) (fs : ds.all flD = true) : JE M K Γ (tOp (rIn K true) ta tb) (D K (.bool (!ds.any fun e => PyData.eqv e d))) := fun σ O G ev => ev_ninL (ha _ _ _ ev) (hb _ _ _ ev) f fs
theorem j_lenT {ds : List PyData} (h : JE M K Γ ta (D K (.tuple ds))) : JE M K Γ (tCB (fun xs H Q => ∃ p ys, xs = [.ref p] ∧ (SqL K H p ys ∨ SqT K H p ys) ∧ Q (.int ys.length) H) (tCons ta tNil)) (D K (.int (ds.length : Nat))) := fun σ O G ev => ev_lenT (h _ _ _ ev)
theorem j_lenL {ds : List PyData} (h : JE M K Γ ta (D K (.list ds))) : JE M K Γ (tCB (fun xs H Q => ∃ p ys, xs = [.ref p] ∧ (SqL K H p ys ∨ SqT K H p ys) ∧ Q (.int ys.length) H) (tCons ta tNil)) (D K (.int (ds.length : Nat))) := fun σ O G ev => ev_lenL (h _ _ _ ev)
theorem j_listL {ds : List PyData} (h : JE M K Γ ta (D K (.list ds))) : JE M K Γ (tCB (fun xs H Q => ∃ p ys, xs = [.ref p] ∧ (SqL K H p ys ∨ SqT K H p ys) ∧ ∀ l, H l = none → Q (.ref l) (upd H l (.lst ys))) (tCons ta tNil)) (D K (.list ds)) := fun σ O G ev => ev_listL (h _ _ _ ev)
theorem j_listT {ds : List PyData} (h : JE M K Γ ta (D K (.tuple ds))) : JE M K Γ (tCB (fun xs H Q => ∃ p ys, xs = [.ref p] ∧ (SqL K H p ys ∨ SqT K H p ys) ∧ ∀ l, H l = none → Q (.ref l) (upd H l (.lst ys))) (tCons ta tNil)) (D K (.list ds)) := fun σ O G ev => ev_listT (h _ _ _ ev)
theorem j_tupL {ds : List PyData} (h : JE M K Γ ta (D K (.list ds))) : JE M K Γ (tCB (fun xs H Q => ∃ p ys, xs = [.ref p] ∧ ((SqL K H p ys ∧ ∀ l, H l = none → Q (.ref l) (upd H l (.tup ys))) ∨ (SqT K H p ys ∧ Q (.ref p) H))) (tCons ta tNil)) (D K (.tuple ds)) := fun σ O G ev => ev_tupL (h _ _ _ ev)
theorem j_tupT {ds : List PyData} (h : JE M K Γ ta (D K (.tuple ds))) : JE M K Γ (tCB (fun xs H Q => ∃ p ys, xs = [.ref p] ∧ ((SqL K H p ys ∧ ∀ l, H l = none → Q (.ref l) (upd H l (.tup ys))) ∨ (SqT K H p ys ∧ Q (.ref p) H))) (tCons ta tNil)) (D K (.tuple ds)) := fun σ O G ev => ev_tupT (h _ _ _ ev)
theorem j_strI {n : Int} (h : JE M K Γ ta (D K (.int n))) (hn : n.natAbs.log2 < 1920) : JE M K Γ (tCB (fun xs H Q => ∃ i, xs = [.int i] ∧ i.natAbs.log2 < 1920 ∧ Q (.str (toString i)) H) (tCons ta tNil)) (D K (.str (toString n))) := fun σ O G ev => ev_strI (h _ _ _ ev) hn
theorem j_sum {ns : List Int} (h : JE M K Γ ta (D K (.list (ns.map PyData.int)))) : JE M K Γ (tCB (rSum K) (tCons ta tNil)) (D K (.int ns.sum)) := fun σ O G ev => ev_sum (h _ _ _ ev)
theorem j_all {ns : List Bool} (h : JE M K Γ ta (D K (.list (ns.map PyData.bool)))) : JE M K Γ (tCB (rAll K) (tCons ta tNil)) (D K (.bool (ns.all id))) := fun σ O G ev => ev_all (h _ _ _ ev)
theorem j_any {ns : List Bool} (h : JE M K Γ ta (D K (.list (ns.map PyData.bool)))) : JE M K Γ (tCB (rAny K) (tCons ta tNil)) (D K (.bool (ns.any id))) := fun σ O G ev => ev_any (h _ _ _ ev)
theorem j_cb {r : List V → Hp → VK → Prop} {ds : List PyData} {d : PyData} (h : JL M K Γ t ds) (hr : ∀ (vs : List V) (G1 H1 : Hp) (Q : VK), Same G1 H1 → DeAll K G1 vs ds → (∀ v G2 H2, Gr M G1 H1 G2 H2 → De K G2 v d → Q v H2) → r vs H1 Q) : JE M K Γ (tCB r t) (D K d) := fun σ O G ev => ev_cb (h _ _ _ ev) hr
theorem j_join {a : Str} {ys : List Str} (ha : JE M K Γ ta (D K (.str a))) (hb : JE M K Γ tb (D K (.list (ys.map PyData.str)))) (hz : (ys.map (·.length)).sum + ys.length * a.length ≤ 16777216) :
    JE M K Γ (tM1 (fun x xs H Q => ∃ a p, ∃ ys : List Str, x = .str a ∧ xs = [.ref p] ∧ (SqL K H p (ys.map V.str) ∨ SqT K H p (ys.map V.str)) ∧ (ys.map (·.length)).sum + ys.length * a.length ≤ 16777216 ∧ Q (.str (Txt.join a ys)) H) ta tb) (D K (.str (Txt.join a ys))) := fun σ O G ev => ev_join (ha _ _ _ ev) (hb _ _ _ ev) hz
theorem j_call {α : Type} {A : α → List Rp} {R : α → Rp} {ok : α → Prop} {E : XK} (x : α) (h : JA M K Γ t (A x)) (hx : ok x) : JE M K Γ (tCall (spF A R ok) [] E t) (R x) := fun σ O G ev => ev_call x (h _ _ _ ev) hx
theorem j_meth {α : Type} {A : α → List Rp} {R : α → Rp} {ok : α → Prop} {E : XK} {C : Addr} {m : Str} {Rs : List Rp} (x : α) (ha : JE M K Γ ta Ra) (h : JA M K Γ t Rs) (hA : A x = Ra :: Rs) (hi : ∀ v G1, Ra.p v G1 → ∃ a dx fs, v = .ref a ∧ G1 a = some (.ins C dx fs) ∧ fs.lookup m = none) (hx : ok x) :
    JE M K Γ (tMeth C m (spF A R ok) [] E ta t) (R x) := fun σ O G ev => ev_meth x (ha _ _ _ ev) (h _ _ _ ev) hA hi hx
theorem j_prop {α : Type} {A : α → List Rp} {R : α → Rp} {ok : α → Prop} {E : XK} {C : Addr} (x : α) (ha : JE M K Γ ta Ra) (hA : A x = [Ra]) (hi : ∀ v G1, Ra.p v G1 → ∃ a dx fs, v = .ref a ∧ G1 a = some (.ins C dx fs)) (hx : ok x) : JE M K Γ (tProp C (spF A R ok) [] E ta) (R x) := fun σ O G ev => ev_prop x (ha _ _ _ ev) hA hi hx
theorem j_fld {f : Str} (ha : JE M K Γ ta Ra) (hi : ∀ v G1, Ra.p v G1 → ∃ a C dx fs u, v = .ref a ∧ G1 a = some (.ins C dx fs) ∧ Cls K C ∧ NoAttr K C f ∧ fs.lookup f = some u ∧ R.p u G1) : JE M K Γ (tFld K ta f) R := fun σ O G ev => ev_fld (ha _ _ _ ev) hi
/-! walks -/
theorem ji_list {ds : List PyData} (h : JE M K Γ te (D K (.list ds))) : JI M K Γ (iList K te) (ds.map (D K)) := fun σ O G ev => evi_list (h _ _ _ ev)
theorem ji_tup {ds : List PyData} (h : JE M K Γ te (D K (.tuple ds))) : JI M K Γ (iTup K te) (ds.map (D K)) := fun σ O G ev => evi_tup (h _ _ _ ev)
theorem ji_rng1 {j : Int} (h : JL M K Γ t [.int j]) (h1 : -(2 ^ 62) ≤ j) (h2 : j < 2 ^ 62) : JI M K Γ (iRng1 t) ((List.range j.toNat).map fun i => D K (.int (0 + (i : Nat)))) := fun σ O G ev => evi_rng1 (h _ _ _ ev) h1 h2
theorem ji_rng2 {i j : Int} (h : JL M K Γ t [.int i, .int j]) (hb : -(2 ^ 62) ≤ i ∧ i < 2 ^ 62 ∧ -(2 ^ 62) ≤ j ∧ j < 2 ^ 62) : JI M K Γ (iRng2 t) ((List.range (j - i).toNat).map fun k => D K (.int (i + (k : Nat)))) := fun σ O G ev => evi_rng2 (h _ _ _ ev) hb
theorem ji_enum {ds : List PyData} (h : JL M K Γ t [.list ds]) : JI M K Γ (iEnum K t) ((List.range ds.length).map fun i => D K (.tuple [.int (i : Nat), ds.getD i .none])) := fun σ O G ev => evi_enum (h _ _ _ ev)
/-- [f x for x in xs] -/
theorem j_lc {ι : Type} {wi : TI} {i : Nat} (is : List ι) (c : ι → PyData) (f : ι → PyData) (hl : i < Γ.length) (hi : JI M K Γ wi (is.map fun x => D K (c x))) (hz : is.length < sizeLine) (hs : ∀ x ∈ is, JE M K (Γ.set i (.is (D K (c x)))) te (D K (f x))) :
    JE M K Γ (tLc wi (gName i) tYes te [i]) (D K (.list (is.map f))) := fun σ O G ev => ev_lc is c f (hi _ _ _ ev) hz fun x hx v G1 s r => hs x hx _ _ _ ((ev.up s).set (R := D K (c x)) hl r)
/-- [f x for x in xs if p x] -/
theorem j_lcIf {ι : Type} {wi : TI} {i : Nat} (is : List ι) (c : ι → PyData) (p : ι → Bool) (f : ι → PyData) (hl : i < Γ.length) (hi : JI M K Γ wi (is.map fun x => D K (c x))) (hz : is.length < sizeLine) (ht : ∀ x ∈ is, JT M K (Γ.set i (.is (D K (c x)))) tt (p x)) (hs : ∀ x ∈ is, p x = true → JE M K (Γ.set i (.is (D K (c x)))) te (D K (f x))) :
    JE M K Γ (tLc wi (gName i) tt te [i]) (D K (.list ((is.filter p).map f))) := fun σ O G ev => ev_lcW is (fun x => D K (c x)) p f (hi _ _ _ ev) hz fun x hx v G1 s r => ⟨σ.set i (some v), fun H1 _ Q q => by
      show Q ((σ.set i none).set i (some v)) H1
      rw [List.set_set]; exact q, by show (σ.set i (some v)).set i none = σ.set i none; rw [List.set_set], ht x hx _ _ _ ((ev.up s).set (R := D K (c x)) hl r), fun e => hs x hx e _ _ _ ((ev.up s).set (R := D K (c x)) hl r)⟩
/-! ### statements -/
def JS (M : Am) (K : PySem.W.Frag) (Γ : Ctx) (ts : TS) (R : Rp) (P : Ctx → Prop) : Prop := ∀ (G0 H0 : Hp) (σ : L2.St) (O : Bu) (G : Hp), Env K Γ σ O G → EvS M G0 H0 O ts σ G R fun σ' O' G' => ∃ Γ', P Γ' ∧ Env K Γ' σ' O' G'
variable {P : Ctx → Prop} {ts u w' : TS}
theorem JS.one (h : JS M K Γ (tSeq ts tNext) R P) : JS M K Γ ts R P := h
theorem JS.assoc {ts1 ts2 : TS} (h : JS M K Γ (tSeq ts1 (tSeq ts2 u)) R P) : JS M K Γ (tSeq (tSeq ts1 ts2) u) R P := h
theorem JS.skip (h : JS M K Γ u R P) : JS M K Γ (tSeq tNext u) R P := h
theorem JS.eq {d e : PyData} (h : JS M K Γ ts (D K d) P) (q : d = e) : JS M K Γ ts (D K e) P := q ▸ h
theorem js_next (h : P Γ) : JS M K Γ tNext R P := fun G0 H0 σ O G ev => evs_next fun G' s => ⟨Γ, h, ev.up s⟩
/-- the end of a turn: Γ is enough for Δ -/
theorem js_end {Δ : Ctx} (h : Wk Γ Δ) : JS M K Γ tNext R (fun Γ' => Γ' = Δ) := fun G0 H0 σ O G ev => evs_next fun G' s => ⟨Δ, rfl, (ev.up s).wk h⟩
theorem js_seq {P' : Ctx → Prop} (h : JS M K Γ ts R P') (h2 : ∀ Γ', P' Γ' → JS M K Γ' u R P) : JS M K Γ (tSeq ts u) R P := fun G0 H0 σ O G ev => evs_seq (h _ _ _ _ _ ev) fun σ' O' G' s ⟨Γ', p, e'⟩ => h2 Γ' p _ _ _ _ _ e'
theorem js_set {i : Nat} (h : JE M K Γ te Ra) (hi : i < Γ.length) (k : JS M K (Γ.set i (.is Ra)) u R P) : JS M K Γ (tSeq (tAsg te (gName i)) u) R P := fun G0 H0 σ O G ev => evs_set (h _ _ _ ev) fun v G' s r => k _ _ _ _ _ ((ev.up s).set hi r)
theorem js_drop (h : JE M K Γ te Ra) (k : JS M K Γ u R P) : JS M K Γ (tSeq (tDrop te) u) R P := fun G0 H0 σ O G ev => evs_drop (h _ _ _ ev) fun G' s => k _ _ _ _ _ (ev.up s)
theorem js_par {i j : Nat} (h : JA M K Γ t [Ra, Rb]) (hi : i < Γ.length) (hj : j < Γ.length) (k : JS M K ((Γ.set i (.is Ra)).set j (.is Rb)) u R P) : JS M K Γ (tSeq (tPar i j t) u) R P := fun G0 H0 σ O G ev => evs_par (Rs := []) (h _ _ _ ev) fun v w G' s r1 r2 => k _ _ _ _ _ (((ev.up s).set hi r1).set (by rw [List.length_set]; exact hj) r2)
def setAllC (K : PySem.W.Frag) : Ctx → List Nat → List PyData → Ctx
  | Γ, i :: is, d :: ds => setAllC K (Γ.set i (.is (D K d))) is ds
  | Γ, _, _ => Γ
theorem Env.setAll : ∀ {is : List Nat} {Γ : Ctx} {σ : L2.St} {vs : List V} {ds : List PyData}, Env K Γ σ O G → (∀ i ∈ is, i < Γ.length) → DeAll K G vs ds → Env K (setAllC K Γ is ds) (Own.setAll σ is vs) O G
  | [], _, _, _, _, e, _, _ => e
  | _ :: _, _, _, _, _, e, _, .nil => e
  | i :: is, Γ, σ, _, _, e, h, .cons a t => Env.setAll (is := is) (e.set (h i List.mem_cons_self) a) (fun j hj => by rw [List.length_set]; exact h j (List.mem_cons_of_mem _ hj)) t
theorem js_unpack {is : List Nat} {n : Nat} {ds : List PyData} (h : JE M K Γ te (D K (.tuple ds))) (hn : ds.length = n) (hi : is.length = n) (hb : ∀ i ∈ is, i < Γ.length) (k : JS M K (setAllC K Γ is ds) u R P) : JS M K Γ (tSeq (tAsg te (gTup K n (gNs is))) u) R P := fun G0 H0 σ O G ev => evs_unpack (h _ _ _ ev) hn hi fun vs G' s r => k _ _ _ _ _ (Env.setAll (ev.up s) hb r)
theorem js_ret (h : JE M K Γ te R) : JS M K Γ (tRet te) R P := fun G0 H0 σ O G ev => evs_ret (h _ _ _ ev)
theorem js_retS (h : JE M K Γ te R) : JS M K Γ (tSeq (tRet te) u) R P := fun G0 H0 σ O G ev => evs_retS (h _ _ _ ev)
theorem js_if {b : Bool} (h : JT M K Γ tA b) (h1 : b = true → JS M K Γ (tSeq ts w') R P) (h2 : b = false → JS M K Γ (tSeq u w') R P) : JS M K Γ (tSeq (tIfS tA ts u) w') R P := fun G0 H0 σ O G ev => evs_if (h _ _ _ ev) (fun e => h1 e _ _ _ _ _ ev) fun e => h2 e _ _ _ _ _ ev
theorem js_new {i : Nat} {ds : List PyData} (h : JL M K Γ t ds) (hz : ds.length ≤ sizeLine) (hi : i < Γ.length) (k : JS M K (Γ.set i (.bl ds)) u R P) : JS M K Γ (tSeq (tAsg (tLst t) (gName i)) u) R P := fun G0 H0 σ O G ev => evs_new (h _ _ _ ev) hz fun p xs G' s r hp => k _ _ _ _ _ ((ev.up s).new hi hp r)
theorem js_app {i : Nat} {ds : List PyData} {d : PyData} (hv : Γ[i]? = some (.bl ds)) (h : JE M K Γ te (D K d)) (hz : ds.length < sizeLine) (k : JS M K (Γ.set i (.bl (ds ++ [d]))) u R P) : JS M K Γ (tSeq (tDrop (tBM K "list" rAppend (tVar i) (tCons te tNil))) u) R P := fun G0 H0 σ O G ev => by
  obtain ⟨p, xs, O1, O2, h1, rfl, h3, h4⟩ := ev.split hv
  exact evs_app h1 h4 (h _ _ _ ev) (by rw [h3.length]; exact hz) fun v G' s r => k _ _ _ _ _ ((ev.up s).app hv h1 ((h3.up s).append (.cons r .nil)))
theorem js_retO {i : Nat} {ds : List PyData} (hv : Γ[i]? = some (.bl ds)) : JS M K Γ (tRet (tVar i)) (D K (.list ds)) P := fun G0 H0 σ O G ev => by
  obtain ⟨p, xs, h1, h2, h3⟩ := ev.bl i ds hv
  exact evs_retO h1 h2 h3
/-- for: Δ k what the slots hold ahead of turn k -/
theorem js_for {ι : Type} {wi : TI} {tb : TS} {i : Nat} (is : List ι) (c : ι → PyData) (Δ : Nat → Ctx) (hi : JI M K Γ wi (is.map fun x => D K (c x))) (h0 : Wk Γ (Δ 0)) (hl : ∀ k, i < (Δ k).length)
    (hs : ∀ (k : Nat) (x : ι), is[k]? = some x → JS M K ((Δ k).set i (.is (D K (c x)))) tb R fun Γ' => Γ' = Δ (k + 1)) (hd : JS M K (Δ is.length) u R P) : JS M K Γ (tSeq (tFor wi (gName i) tb) u) R P := fun G0 H0 σ O G ev =>
  evs_for is (fun x => D K (c x)) (fun k σ' O' G' => Env K (Δ k) σ' O' G') (hi _ _ _ ev) (fun G' s => (ev.up s).wk h0)
    (fun k x σk Ok Gk hx s e v G1 s1 r => ⟨σk.set i (some v), fun H1 _ Q q => q, (hs k x hx G0 H0 _ _ _ ((e.up s1).set (hl k) r)).mono fun σ' O' G' _ ⟨Γ', z, e'⟩ => z ▸ e'⟩)
    fun σ' O' G' s e => hd _ _ _ _ _ e
/-- for i, x in enumerate(..), for x, y in pairs: two names out of a tuple -/
theorem js_for2 {ι : Type} {wi : TI} {tb : TS} {i j : Nat} (is : List ι) (c1 c2 : ι → PyData) (Δ : Nat → Ctx) (hi : JI M K Γ wi (is.map fun x => D K (.tuple [c1 x, c2 x]))) (h0 : Wk Γ (Δ 0)) (hl : ∀ k, i < (Δ k).length) (hl2 : ∀ k, j < (Δ k).length)
    (hs : ∀ (k : Nat) (x : ι), is[k]? = some x → JS M K (((Δ k).set i (.is (D K (c1 x)))).set j (.is (D K (c2 x)))) tb R fun Γ' => Γ' = Δ (k + 1)) (hd : JS M K (Δ is.length) u R P) : JS M K Γ (tSeq (tFor wi (gTup K 2 (gCons (gName i) (gCons (gName j) gNil))) tb) u) R P := fun G0 H0 σ O G ev =>
  evs_for is (fun x => D K (.tuple [c1 x, c2 x])) (fun k σ' O' G' => Env K (Δ k) σ' O' G') (hi _ _ _ ev) (fun G' s => (ev.up s).wk h0)
    (fun k x σk Ok Gk hx s e v G1 s1 r => by
      obtain ⟨a, xs, rfl, h1, h2⟩ := Own.D.tup r
      obtain ⟨y, z, rfl, ry, rz⟩ := h2.two
      exact ⟨(σk.set i (some y)).set j (some z), fun H1 s2 Q q => ⟨a, _, rfl, sqT_up s2 h1, rfl, y, _, rfl, z, _, rfl, rfl, q⟩, (hs k x hx G0 H0 _ _ _ (((e.up s1).set (R := D K (c1 x)) (hl k) ry).set (R := D K (c2 x)) (by rw [List.length_set]; exact hl2 k) rz)).mono fun σ' O' G' _ ⟨Γ', z, e'⟩ => z ▸ e'⟩)
    fun σ' O' G' s e => hd _ _ _ _ _ e
/-- a def's body, from its promise -/
theorem js_def {α : Type} {A : α → List Rp} {R : α → Rp} {ok : α → Prop} {N : List Str} {vs : List V} {H : Hp} {Q : VK} {E : XK} (h : spF A R ok vs H Q E) (hN : ∀ x, (A x).length ≤ N.length) (k : ∀ x, ok x → JS Am.no K ((A x).map Ce.is ++ List.replicate (N.length - (A x).length) .no) ts (R x) fun _ => False) : ts { nx := fun _ H' => Q .non H', rt := Q } (start N vs) H := by
  obtain ⟨x, G, s, ra, hx, kk⟩ := h
  exact EvS.start ((k x hx G H _ _ _ (Env.start N ra (hN x))).mono fun _ _ _ _ ⟨_, f, _⟩ => f) s (fun _ f => False.elim f) trivial trivial kk
theorem spF_len {α : Type} {A : α → List Rp} {R : α → Rp} {ok : α → Prop} {vs : List V} {H : Hp} {Q : VK} {E : XK} {n : Nat} (h : spF A R ok vs H Q E) (hn : ∀ x, (A x).length = n) : vs.length = n := by
  obtain ⟨x, G, s, ra, hx, kk⟩ := h
  have key : ∀ {Rs : List Rp} {vs : List V}, RAll Rs vs G → Rs.length = vs.length := by
    intro Rs
    induction Rs with
    | nil => intro vs h; cases h; rfl
    | cons R Rs ih => rintro vs ⟨v, r, rfl, h, t⟩; exact congrArg (· + 1) (ih t)
  rw [← key ra, hn]
end
end Own

set_option linter.all false
set_option linter.unusedVariables false
namespace Own
open PySem L2
/-- entries of a dict with texts for keys -/
inductive KvD (K : PySem.W.Frag) (G : Hp) : List (Key × V) → List (Str × PyData) → Prop
  | nil : KvD K G [] []
  | cons {k : Str} {v : V} {d : PyData} {kvs : List (Key × V)} {ds : List (Str × PyData)} : De K G v d → KvD K G kvs ds → KvD K G ((Sum.inr k, v) :: kvs) ((k, d) :: ds)
theorem KvD.up {K : PySem.W.Frag} {G G' : Hp} (s : Same G G') : ∀ {kvs : List (Key × V)} {ds : List (Str × PyData)}, KvD K G kvs ds → KvD K G' kvs ds
  | _, _, .nil => .nil
  | _, _, .cons h t => .cons (h.up s) (KvD.up s t)
def lookD : List (Str × PyData) → Str → Option PyData
  | [], _ => none
  | (k, d) :: r, z => if k = z then some d else lookD r z
theorem KvD.get {K : PySem.W.Frag} {G : Hp} {z : Str} {d : PyData} : ∀ {kvs : List (Key × V)} {ds : List (Str × PyData)}, KvD K G kvs ds → lookD ds z = some d → ∃ v, valV kvs (Sum.inr z) = some v ∧ De K G v d
  | _, _, .nil, e => by cases e
  | _, _, .cons (k := k) (v := v) (d := d') (kvs := kvs) (ds := ds) h t, e => by
    unfold lookD at e
    unfold valV
    by_cases q : k = z
    · subst q
      rw [if_pos rfl] at e
      cases e
      exact ⟨v, by rw [List.find?_cons_of_pos (by simp)]; rfl, h⟩
    · rw [if_neg q] at e
      obtain ⟨u, h1, h2⟩ := KvD.get t e
      unfold valV at h1
      exact ⟨u, by rw [List.find?_cons_of_neg (by simp [q])]; exact h1, h2⟩
def RDic (K : PySem.W.Frag) (ds : List (Str × PyData)) : Rp := ⟨fun v G => ∃ a kvs, v = .ref a ∧ G a = some (.dK kvs) ∧ KvD K G kvs ds, fun s ⟨a, kvs, e, h, t⟩ => ⟨a, kvs, e, s _ _ h, t.up s⟩⟩
section
variable {M : Am} {O : Bu} {K : PySem.W.Frag} {σ : L2.St} {G : Hp} {R Ra Rb : Rp} {te ta tb tc : TE} {tA tB' tt : TT} {t tr : TA} {Γ : Ctx} {P : Ctx → Prop} {ts u w' : TS}
theorem j_dget {ds : List (Str × PyData)} {z : Str} {d : PyData} (h : JE M K Γ ta (RDic K ds)) (e : lookD ds z = some d) : JE M K Γ (tDGet ta (tC (.str z))) (D K d) := fun σ O G ev G1 H1 s1 s2 o Q k =>
  h σ O G ev G1 H1 s1 s2 o _ fun v G2 H2 g ⟨a, kvs, e1, e2, e3⟩ => by
    obtain ⟨u, h1, h2⟩ := e3.get e
    exact ⟨a, u, e1, .inl ⟨kvs, Sum.inr z, .inl (g.s _ _ e2), rfl, h1.symm⟩, k _ _ _ g h2⟩
theorem js_ifJ {b : Bool} (Δ : Ctx) (h : JT M K Γ tA b) (h1 : b = true → JS M K Γ ts R fun Γ' => Γ' = Δ) (h2 : b = false → JS M K Γ u R fun Γ' => Γ' = Δ) (k : JS M K Δ w' R P) : JS M K Γ (tSeq (tIfS tA ts u) w') R P :=
  js_if h (fun e => js_seq (h1 e) fun Γ' z => z ▸ k) fun e => js_seq (h2 e) fun Γ' z => z ▸ k
theorem j_sorted {ns ms : List Int} (h : JE M K Γ ta (D K (.list (ns.map PyData.int)))) (hp : ms.Perm ns) (hs : ms.Pairwise (· ≤ ·)) : JE M K Γ (tCB (rSortedI K) (tCons ta tNil)) (D K (.list (ms.map PyData.int))) :=
  j_cb (jl_cons h jl_nil) fun vs G1 H1 Q s r k => by
    obtain ⟨v, rfl, q⟩ := r.one
    obtain ⟨a, xs, rfl, h1, h2⟩ := D.lst q
    refine ⟨a, ns, rfl, by rw [← h2.ints]; exact .inl (.inl (s _ _ h1)), fun ns' p q1 q2 np => ?_⟩
    obtain rfl : ns' = ms := List.Perm.eq_of_pairwise (fun _ _ _ _ h1 h2 => Int.le_antisymm h1 h2) q2 hs (q1.trans hp.symm)
    exact k _ _ _ (Gr.new s np) (.lst upd_same (.of_ints _))
theorem ji_listM {ι : Type} {xs : List ι} {c : ι → PyData} (h : JE M K Γ te (D K (.list (xs.map c)))) : JI M K Γ (iList K te) (xs.map fun x => D K (c x)) := by
  have q := ji_list h
  rw [List.map_map] at q
  exact q
theorem ji_tupM {ι : Type} {xs : List ι} {c : ι → PyData} (h : JE M K Γ te (D K (.tuple (xs.map c)))) : JI M K Γ (iTup K te) (xs.map fun x => D K (c x)) := by
  have q := ji_tup h
  rw [List.map_map] at q
  exact q
theorem strs_app {xs ys : List Str} : xs.map PyData.str ++ ys.map PyData.str = (xs ++ ys).map PyData.str := List.map_append.symm
end
end Own

set_option linter.all false
set_option linter.unusedVariables false
namespace L2
open PySem PySem.Spec PyProof.Rows
/-- a range that a name holds, walked -/
def iRngV (tl : TE) : TI := fun σ H R => tl σ H fun x H1 => ∃ a lo hi, x = .ref a ∧ H1 a = some (.rng lo hi) ∧ (-(2 ^ 62) ≤ lo ∧ lo < 2 ^ 62 ∧ -(2 ^ 62) ≤ hi ∧ hi < 2 ^ 62) ∧ R (Itr lo (hi - lo).toNat) H1
theorem pi_rngV {X : Cx} {tg l : Expr} {tl : TE} (hl : PE X l tl) : PI X tg l (iRngV tl) := by
  refine ⟨fun pins s σ H R I h => ?_⟩
  refine thn (hl.run pins s σ H _ I h) fun v s1 ⟨x, H1, I1, r1, q1⟩ => ?_
  obtain ⟨a, lo, hi, e, ea, ⟨h1, h2, h3, h4⟩, q⟩ := q1
  subst e
  cases r1
  obtain ⟨t, u, v, eo⟩ := (show ObjOk X.prog X.w H1 s1.heap a (.rng lo hi) from I1.hok a _ ea)
  refine wpAny_pyIter_range (show IsRange s1.heap a lo hi 1 t u v from eo) (small_one h1 h2 h3 h4) ?_
  refine ⟨s1.heap.objs.size, [s1.heap.objs.size], _, _, H1, rfl,
    I1.kept (t' := s1.toks) fun b o e => Heap.get?_push_of_some _ e, turn_range _ lo (hi - lo).toNat, ?_, fun b hb => ?_, q⟩
  · have e1 : lo + ((0 : Nat) : Int) * 1 = lo := by simp
    have e2 : (((hi - lo).toNat : Nat) : Int) - ((0 : Nat) : Int) = Builtin.Range.rangeSize lo hi 1 := by rw [rangeSize_one]; split <;> omega
    show IsRangeIter _ _ (lo + ((0 : Nat) : Int) * 1) ((((hi - lo).toNat : Nat) : Int) - ((0 : Nat) : Int)) 1
    rw [e1, e2]
    exact Heap.get?_push_size _ rfl
  · have e : b = s1.heap.objs.size := by simpa using hb
    subst e
    exact I1.fpOk (Nat.le_refl _) (I1.hok.fresh (Nat.le_refl _))
end L2
namespace Own
open PySem L2
def RRng (lo hi : Int) : Rp := ⟨fun v G => ∃ a, v = .ref a ∧ G a = some (.rng lo hi), fun s ⟨a, e, h⟩ => ⟨a, e, s _ _ h⟩⟩
section
variable {M : Am} {O : Bu} {K : PySem.W.Frag} {σ : L2.St} {G : Hp} {R Ra Rb : Rp} {te ta tb tc : TE} {tA tB' tt : TT} {t tr : TA} {Γ : Ctx} {P : Ctx → Prop} {ts u w' : TS}
theorem j_range2 {i j : Int} (h : JL M K Γ t [.int i, .int j]) : JE M K Γ (tCB (fun vs H Q => ∃ i j, vs = [V.int i, V.int j] ∧ ∀ p, H p = none → Q (.ref p) (upd H p (.rng i j))) t) (RRng i j) := fun σ O G ev G1 H1 s1 s2 o Q k =>
  h σ O G ev G1 H1 s1 s2 o _ fun vs G2 H2 g r => by
    obtain ⟨v, u, rfl, q, q'⟩ := r.two
    exact ⟨i, j, by rw [D.int q, D.int q'], fun p np => k _ _ _ (g.trans (Gr.new g.s np)) ⟨p, rfl, upd_same⟩⟩
theorem ji_rngV {i j : Int} (h : JE M K Γ te (RRng i j)) (hb : -(2 ^ 62) ≤ i ∧ i < 2 ^ 62 ∧ -(2 ^ 62) ≤ j ∧ j < 2 ^ 62) : JI M K Γ (iRngV te) ((List.range (j - i).toNat).map fun k => D K (.int (i + (k : Nat)))) := fun σ O G ev G1 H1 s1 s2 o Q k =>
  h σ O G ev G1 H1 s1 s2 o _ fun v G2 H2 g ⟨a, e, ha⟩ => ⟨a, i, j, e, g.s _ _ ha, hb, k _ _ _ g (walk_rng i _)⟩
/-- [f x y for x in xs for y in ys x] -/
theorem ev_lc2 {ι κ : Type} {wi wi1 : TI} {i j : Nat} (is : List ι) (c : ι → PyData) (js : ι → List κ) (c1 : ι → κ → PyData) (f : ι → κ → PyData) (n1 : Nat) (hij : i ≠ j) (hi : EvI M O wi σ G (is.map fun x => D K (c x))) (hn : ∀ x ∈ is, (js x).length ≤ n1) (hz : is.length * n1 < sizeLine)
    (hi1 : ∀ x ∈ is, ∀ (v : V) (G1 : Hp), Same G G1 → De K G1 v (c x) → EvI M O wi1 ((σ.set j none).set i (some v)) G1 ((js x).map fun y => D K (c1 x y)))
    (hs : ∀ x ∈ is, ∀ (v : V) (G1 : Hp), Same G G1 → De K G1 v (c x) → ∀ y ∈ js x, ∀ (u : V) (G2 : Hp), Same G1 G2 → De K G2 u (c1 x y) → Ev M O te (((σ.set j none).set i (some v)).set j (some u)) G2 (D K (f x y))) :
    Ev M O (tLc2 wi (gName i) tYes wi1 (gName j) tYes te [i, j] [j]) σ G (D K (.list (is.flatMap fun x => (js x).map (f x)))) := fun G1 H1 s1 s2 o Q k =>
  hi G1 H1 s1 s2 o _ fun J G2 H2 gg W Dd nD => by
    have s12 := s1.trans gg.g
    have o2 := o.gr gg
    have nA : ¬ M.ad Dd := Am.fresh o2.i nD
    refine ⟨fun a m H => m + a = is.length ∧ ∃ (Gi : Hp) (acc : List V), Gr M G2 H2 Gi H ∧ Gi Dd = none ∧ H Dd = some (.lst acc) ∧ acc.length ≤ a * n1 ∧ DeAll K Gi acc ((is.take a).flatMap fun x => (js x).map (f x)), ⟨is.length, rfl, G2, [], Gr.own gg.s nD, gg.s.free nD, upd_same, Nat.zero_le _, .nil⟩, fun a m H ⟨e, Gi, acc, gi, nG, hD, la, da⟩ => ?_⟩
    by_cases hi' : a < is.length
    · have hx : is[a]? = some is[a] := List.getElem?_eq_getElem hi'
      have hm := List.getElem_mem hi'
      obtain ⟨go, yl⟩ := W.1 a (D K (c is[a])) Gi H (by rw [List.getElem?_map, hx]; rfl) gi.g gi.s (gi.i o2.i) (o2.gr gi).f
      refine .inr ⟨go, fun H' => ∃ (Gi : Hp) (acc : List V), Gr M G2 H2 Gi H' ∧ Gi Dd = none ∧ H' Dd = some (.lst acc) ∧ acc.length ≤ (a + 1) * n1 ∧ DeAll K Gi acc ((is.take (a + 1)).flatMap fun x => (js x).map (f x)), fun H' q => ⟨is.length - (a + 1), by omega, by omega, q⟩, fun x H' y => ?_⟩
      obtain ⟨G3, g3, rx⟩ := yl x H' y
      have sG3 := (s12.trans gi.g).trans g3.g
      show (((σ.set j none).set i none).set i (some x) |>.set j none).set i none = (σ.set j none).set i none ∧ _
      rw [List.set_set]
      refine ⟨by rw [List.set_comm _ _ hij, List.set_set, List.set_set], ?_⟩
      unfold tYes
      refine iteT ?_
      rw [show (wipe σ [i, j]).set i (some x) = (σ.set j none).set i (some x) from by show ((σ.set j none).set i none).set i (some x) = _; rw [List.set_set]]
      have o3 := (o2.gr gi).gr g3
      refine hi1 is[a] hm x G3 sG3 rx G3 H' (Same.refl _) g3.s o3 _ fun J1 G4 H4 g4 W1 => ?_
      have e4 : is.take (a + 1) = is.take a ++ [is[a]] := by rw [List.take_add_one, hx]; rfl
      have gD0 : Gr M Gi H G4 H4 := g3.trans g4
      refine ⟨fun b m H5 => m + b = (js is[a]).length ∧ ∃ (Gj : Hp) (acc' : List V), Gr M G2 H2 Gj H5 ∧ Same G4 Gj ∧ Gj Dd = none ∧ H5 Dd = some (.lst acc') ∧ acc'.length ≤ a * n1 + b ∧ DeAll K Gj acc' (((is.take a).flatMap fun x => (js x).map (f x)) ++ ((js is[a]).take b).map (f is[a])), ⟨(js is[a]).length, rfl, G4, acc, gi.trans gD0, Same.refl _, gD0.n _ nG (fun z => by rw [hD] at z; cases z), gD0.h _ _ nA hD, la, by rw [List.take_zero, List.map_nil, List.append_nil]; exact da.up gD0.g⟩, fun b m' H5 ⟨eb, Gj, acc', gj, s4j, nGj, hDj, laj, daj⟩ => ?_⟩
      by_cases hb : b < (js is[a]).length
      · have hy : (js is[a])[b]? = some (js is[a])[b] := List.getElem?_eq_getElem hb
        have hmy := List.getElem_mem hb
        obtain ⟨go1, yl1⟩ := W1.1 b (D K (c1 is[a] (js is[a])[b])) Gj H5 (by rw [List.getElem?_map, hy]; rfl) s4j gj.s (gj.i o2.i) (o2.gr gj).f
        refine .inr ⟨go1, fun H6 => ∃ (Gj : Hp) (acc' : List V), Gr M G2 H2 Gj H6 ∧ Same G4 Gj ∧ Gj Dd = none ∧ H6 Dd = some (.lst acc') ∧ acc'.length ≤ a * n1 + (b + 1) ∧ DeAll K Gj acc' (((is.take a).flatMap fun x => (js x).map (f x)) ++ ((js is[a]).take (b + 1)).map (f is[a])), fun H' q => ⟨(js is[a]).length - (b + 1), by omega, by omega, q⟩, fun y H6 yy => ?_⟩
        obtain ⟨G6, g6, ry⟩ := yl1 y H6 yy
        show ((((σ.set j none).set i (some x)).set j none).set j (some y)).set j none = ((σ.set j none).set i (some x)).set j none ∧ _
        have ej : ((σ.set j none).set i (some x)).set j none = (σ.set j none).set i (some x) := by rw [List.set_comm _ _ hij, List.set_set]
        refine ⟨by rw [List.set_set, List.set_set], ?_⟩
        refine iteT ?_
        rw [show (wipe ((σ.set j none).set i (some x)) [j]).set j (some y) = (((σ.set j none).set i (some x)).set j none).set j (some y) from rfl, ej]
        have gE0 : Gr M G2 H2 G6 H6 := gj.trans g6
        have o6 := o2.gr gE0
        refine hs is[a] hm x G3 sG3 rx _ hmy y G6 ((g4.g.trans s4j).trans g6.g) ry G6 H6 (Same.refl _) g6.s o6 _ fun v G7 H7 g7 rv => ?_
        have gF := gE0.trans g7
        have n6 := g6.n _ nGj (fun z => by rw [hDj] at z; cases z)
        have h6 := g6.h _ _ nA hDj
        have n7 := g7.n _ n6 (fun z => by rw [h6] at z; cases z)
        have bound : acc'.length < sizeLine := by
          have h1 : (js is[a]).length ≤ n1 := hn _ hm
          have h2 : (a + 1) * n1 ≤ is.length * n1 := Nat.mul_le_mul_right _ hi'
          rw [Nat.succ_mul] at h2
          omega
        refine ⟨acc', g7.h _ _ nA h6, bound, G7, acc' ++ [v], ⟨gF.g, fun b' u' z q => ?_, same_mut g7.s n7, gF.n, fun i => Am.upd (gF.i i) nA (fun u e => by rw [g7.h _ _ nA h6] at e; cases e; rfl), fun a' z => ?_⟩, (s4j.trans g6.g).trans g7.g, n7, upd_same, by rw [List.length_append]; show acc'.length + 1 ≤ a * n1 + (b + 1); omega, ?_⟩
        · rw [upd_ne (ne_of_none q nD)]
          exact gF.h _ _ z q
        · by_cases q : a' = Dd
          · subst q; exact nD
          · rw [upd_ne q] at z; exact gF.k _ z
        · rw [List.take_add_one, hy, List.map_append, ← List.append_assoc]
          exact (daj.up (g6.g.trans g7.g)).append (.cons rv .nil)
      · obtain rfl : b = (js is[a]).length := by omega
        refine .inl ⟨by have := W1.2 H5 (s4j.trans gj.s) (gj.i o2.i); rw [List.length_map] at this; exact this, Gj, acc', gj, nGj, hDj, ?_, ?_⟩
        · have := hn _ hm
          rw [Nat.succ_mul]; omega
        · rw [e4, List.flatMap_append, List.flatMap_cons, List.flatMap_nil, List.append_nil]
          rw [List.take_length] at daj
          exact daj
    · obtain rfl : a = is.length := by omega
      refine .inl ⟨by have := W.2 H (gi.g.trans gi.s) (gi.i o2.i); rw [List.length_map] at this; exact this, ?_⟩
      rw [List.take_length] at da
      have s3 : Same G2 (upd Gi Dd (.lst acc)) := gi.g.trans (same_fresh nG)
      have gF := gg.trans gi
      refine k _ (upd Gi Dd (.lst acc)) _ ⟨gg.g.trans s3, gF.h, fun b u q => ?_, fun a e1 e2 => ?_, gF.i, gF.k⟩ (.lst upd_same (da.up (same_fresh nG)))
      · by_cases hb : b = Dd
        · subst hb
          rw [upd_same] at q
          rw [hD]
          exact q
        · rw [upd_ne hb] at q
          exact gi.s _ _ q
      · have h3 := (gg.n a e1 e2)
        have h4 : H2 a ≠ none := fun z => e2 (gg.k _ z)
        rw [upd_ne (fun z => h4 (by rw [z]; exact nD))]
        exact gi.n a h3 h4
end
end Own

set_option linter.all false
set_option linter.unusedVariables false
namespace Own
open PySem L2
/-! ### a call sees no more than it is shown -/
def baseO : HO → Bool
  | .lst _ => true
  | .tup _ => true
  | .dK _ => true
  | _ => false
/-- things of which data, lines, plants are made -/
def good : HO → Bool
  | .lst _ => true
  | .tup _ => true
  | .dK _ => true
  | .ins _ _ _ => true
  | .rng _ _ => true
  | .frz _ u => baseO u
  | _ => false
def SubG (G G' : Hp) : Prop := ∀ a o, good o = true → G a = some o → G' a = some o
theorem SubG.sqT {K : PySem.W.Frag} {G G' : Hp} {a : Addr} {xs : List V} (s : SubG G G') (h : SqT K G a xs) : SqT K G' a xs := by
  rcases h with (h | ⟨o, h⟩) | h
  · exact .inl (.inl (s _ _ rfl h))
  · exact .inl (.inr ⟨o, s _ _ rfl h⟩)
  · exact .inr h
theorem SubG.trans {G G1 G2 : Hp} (a : SubG G G1) (b : SubG G1 G2) : SubG G G2 := fun x o g e => b x o g (a x o g e)
theorem SubG.of {G G' : Hp} (s : Same G G') : SubG G G' := fun x o _ e => s x o e
def Rob (R : Rp) : Prop := ∀ (v : V) (G G' : Hp), SubG G G' → R.p v G → R.p v G'
mutual
theorem De.rob {K : PySem.W.Frag} {G G' : Hp} (s : SubG G G') : ∀ {v : V} {d : PyData}, De K G v d → De K G' v d
  | _, _, .non => .non
  | _, _, .bl b => .bl b
  | _, _, .int i => .int i
  | _, _, .str x => .str x
  | _, _, .lst h t => .lst (s _ _ rfl h) (DeAll.rob s t)
  | _, _, .tup h t => .tup (s.sqT h) (DeAll.rob s t)
theorem DeAll.rob {K : PySem.W.Frag} {G G' : Hp} (s : SubG G G') : ∀ {vs : List V} {ds : List PyData}, DeAll K G vs ds → DeAll K G' vs ds
  | _, _, .nil => .nil
  | _, _, .cons h t => .cons (De.rob s h) (DeAll.rob s t)
end
theorem rob_D {K : PySem.W.Frag} {d : PyData} : Rob (D K d) := fun _ _ _ s h => De.rob s h
theorem KvD.rob {K : PySem.W.Frag} {G G' : Hp} (s : SubG G G') : ∀ {kvs : List (Key × V)} {ds : List (Str × PyData)}, KvD K G kvs ds → KvD K G' kvs ds
  | _, _, .nil => .nil
  | _, _, .cons h t => .cons (h.rob s) (KvD.rob s t)
theorem rob_Dic {K : PySem.W.Frag} {ds : List (Str × PyData)} : Rob (RDic K ds) := fun _ _ _ s ⟨a, kvs, e, h, t⟩ => ⟨a, kvs, e, s _ _ rfl h, t.rob s⟩
theorem RAll.rob : ∀ {Rs : List Rp} {vs : List V} {G G' : Hp}, (∀ R ∈ Rs, Rob R) → SubG G G' → RAll Rs vs G → RAll Rs vs G'
  | [], _, _, _, _, _, h => h
  | R :: Rs, _, _, _, hr, s, ⟨v, r, e, h, t⟩ => ⟨v, r, e, hr R List.mem_cons_self _ _ _ s h, RAll.rob (fun R' h' => hr R' (List.mem_cons_of_mem _ h')) s t⟩
/-- the promise of a call that is shown G alone -/
def spFr (sp : Sp) : Sp := fun vs H Q _ => ∃ G, Same G H ∧ ∀ Gs, SubG G Gs → sp vs Gs (fun v G' => Same Gs G' ∧ ∀ H' G2, Gr Am.no G H G2 H' → SubG G' G2 → Q v H') (fun _ _ _ => False)
theorem fn_frX {P : Program} {w : World} {K : PySem.W.Frag} {mg : Str → Option Value} {base : Heap} {CX : CXT} {k : Nat} {f : Addr} {fd : FuncData} {ps : List Str} {sp : Sp} (hCX : ∀ outer H s e s', CX outer H s (fun _ _ _ => False) e s' → False) (F : FnOk P w K mg base CX k f fd ps sp) : FnOk P w K mg base CX k f fd ps (spFr sp) := by
  refine ⟨fun vs H Q E ⟨G, _, h⟩ => F.len _ _ _ _ (h G (SubG.of (Same.refl _))), fun A outer s H args us vs Q E hr e0 hb hv h => ?_⟩
  obtain ⟨G, sG, h⟩ := h
  classical
  generalize hGs : (fun a => if (∃ o, G a = some o ∧ good o = true) ∨ (∃ x C fs, G x = some (.ins C a fs)) then H a else none : Hp) = Gs
  have hGs' : ∀ a, Gs a = if (∃ o, G a = some o ∧ good o = true) ∨ (∃ x C fs, G x = some (.ins C a fs)) then H a else none := fun a => by rw [← hGs]
  have sub : SubG G Gs := fun a o g e => by
    rw [hGs', if_pos (.inl ⟨o, e, g⟩)]
    exact sG _ _ e
  have le : Same Gs H := fun a o e => by
    rw [hGs'] at e
    split at e
    · exact e
    · cases e
  have ownH : ∀ {x C a fs}, G x = some (.ins C a fs) → H a = some (.own x) := fun {x C a fs} e => by
    obtain ⟨d, _⟩ := (show ObjOk P w H s.heap x (.ins C a fs) from e0.hok x _ (sG _ _ e))
    exact d
  have kind : ∀ {a o}, Gs a = some o → (good o = true ∧ G a = some o) ∨ (∃ x C fs, o = .own x ∧ G x = some (.ins C a fs)) := fun {a o} e => by
    rw [hGs'] at e
    split at e
    · rename_i q
      rcases q with ⟨o', e', g⟩ | ⟨x, C, fs, q⟩
      · have := sG _ _ e'
        rw [this] at e
        cases e
        exact .inl ⟨g, e'⟩
      · have := ownH q
        rw [this] at e
        cases e
        exact .inr ⟨x, C, fs, rfl, q⟩
    · cases e
  have hokG : HOk P w Gs s.heap := fun a o e => by
    have x := e0.hok a o (le _ _ e)
    rcases kind e with ⟨g, eG⟩ | ⟨y, C, fs, rfl, _⟩
    · cases o with
      | lst xs => exact x
      | tup xs => exact x
      | dK kvs => exact x
      | rng lo hi => exact x
      | ins C dx fs =>
        obtain ⟨d, z, ne, e1, mA, n1, r1, w1⟩ := x
        refine ⟨?_, z, ne, e1, mA, n1, r1, w1⟩
        rw [hGs', if_pos (.inr ⟨a, C, fs, eG⟩)]
        exact d
      | frz ob u =>
        obtain ⟨e1, x⟩ := x
        refine ⟨e1, ?_⟩
        cases u <;> first | exact x | cases g
      | _ => cases g
    · exact x
  have frs0 : ∀ b ∈ frs outer, Gs b = none := fun b hb => le.free (e0.frf b hb)
  have e1 : Env0 P w K mg base A outer s Gs := ⟨e0.frames, e0.mod, fun b o hb => ⟨(e0.bs b o hb).1, le.free (e0.bs b o hb).2⟩, e0.bsz, e0.funs, frs0, hokG, e0.bare⟩
  refine codeAny_mono (F.run A outer s Gs args us vs _ _ hr e1 hb hv (h Gs sub)) fun r s' hq => ?_
  cases r with
  | error er => exact (hCX _ _ _ _ _ hq).elim
  | ok fl =>
    cases fl with
    | next => exact False.elim hq
    | brk => exact False.elim hq
    | cont => exact False.elim hq
    | ret u =>
      obtain ⟨v, G', os, bare, un, hok, rv, sGG, q⟩ := hq
      have exH : ∀ {a o}, H a = some o → ∃ ob, s.heap.get? a = some ob := fun {a o} e => by
        cases z : s.heap.get? a with
        | none => rw [HOk.gone e0.hok z] at e; cases e
        | some ob => exact ⟨ob, rfl⟩
      have L : ∀ {a o}, H a = some o → (Gs a = none ∧ G' a = none) ∨ (Gs a = some o ∧ G' a = some o) := fun {a o} e => by
        cases z : Gs a with
        | none =>
          obtain ⟨ob, eo⟩ := exH e
          exact .inl ⟨rfl, un.free a ob eo z (by simp)⟩
        | some o' =>
          have := le _ _ z
          rw [e] at this
          cases this
          exact .inr ⟨rfl, sGG _ _ z⟩
      generalize hH' : (fun a => match G' a with | some o => some o | none => H a : Hp) = H'
      have H's : ∀ {a o}, G' a = some o → H' a = some o := fun {a o} e => by rw [← hH']; show (match G' a with | some o => some o | none => H a) = some o; rw [e]
      have H'n : ∀ {a}, G' a = none → H' a = H a := fun {a} e => by rw [← hH']; show (match G' a with | some o => some o | none => H a) = H a; rw [e]
      have keepH : ∀ {a o}, H a = some o → H' a = some o := fun {a o} e => by
        rcases L e with ⟨_, n⟩ | ⟨_, n⟩
        · rw [H'n n]; exact e
        · exact H's n
      have hokH : HOk P w H' s'.heap := fun a o e => by
        cases z : G' a with
        | some o' =>
          rw [H's z] at e
          cases e
          exact (hok a _ z).stay (fun b u _ e => e) (fun b e => H's e) (fun b xs e => H's e)
        | none =>
          rw [H'n z] at e
          have nGs : Gs a = none := sGG.free z
          refine (e0.hok a o e).stay (fun b u hb eu => ?_) (fun b e => keepH e) (fun b xs e => keepH e)
          have hH : ∃ o1, H b = some o1 := by
            rcases hb with q | q
            · exact ⟨o, by rw [q]; exact e⟩
            · exact ⟨_, q⟩
          have nb : Gs b = none := by
            rcases hb with rfl | hb
            · exact nGs
            · cases zb : Gs b with
              | none => rfl
              | some ob =>
                rcases kind zb with ⟨g, eG⟩ | ⟨x, C, fs, rfl, eG⟩
                · rw [le _ _ zb] at hb; cases hb; cases g
                · rw [le _ _ zb] at hb
                  cases hb
                  have := sub a _ rfl eG
                  rw [nGs] at this
                  cases this
          obtain ⟨o1, hH⟩ := hH
          exact un.keep b u eu nb (fun hf => by rw [e0.frf b hf] at hH; cases hH) (by simp)
      have un' : Un (frs outer) [] H H' s.heap s'.heap := by
        refine ⟨fun b o z n hf hx => un.keep b o z (le.free n) hf hx, fun b o z n hf hx => un.slot b o z (le.free n) hf hx, fun b o z n hx => ?_, un.there, fun b xs e => keepH e, fun b o u e => keepH e, fun b ps e => ⟨#[], by rw [Array.append_empty]; exact keepH e⟩⟩
        rw [H'n (un.free b o z (le.free n) hx)]
        exact n
      generalize hG2 : (fun a => match G a with | some o => some o | none => match H a with | some _ => none | none => G' a : Hp) = G2
      have G2s : ∀ {a o}, G a = some o → G2 a = some o := fun {a o} e => by rw [← hG2]; show (match G a with | some o => some o | none => match H a with | some _ => none | none => G' a) = some o; rw [e]
      have G2n : ∀ {a}, G a = none → H a = none → G2 a = G' a := fun {a} e e2 => by rw [← hG2]; show (match G a with | some o => some o | none => match H a with | some _ => none | none => G' a) = G' a; rw [e, e2]
      have G2o : ∀ {a o}, G a = none → H a = some o → G2 a = none := fun {a o} e e2 => by rw [← hG2]; show (match G a with | some o => some o | none => match H a with | some _ => none | none => G' a) = none; rw [e, e2]
      have sub2 : SubG G' G2 := fun a o g e => by
        cases z : H a with
        | none => rw [G2n (sG.free z) z]; exact e
        | some o' =>
          rcases L z with ⟨_, n⟩ | ⟨m, n⟩
          · rw [n] at e; cases e
          · rw [n] at e
            cases e
            rcases kind m with ⟨_, eG⟩ | ⟨x, C, fs, rfl, _⟩
            · exact G2s eG
            · cases g
      refine ⟨v, H', os, bare, un', hokH, rv, q H' G2 ⟨fun a o e => G2s e, fun a o _ e => keepH e, fun a o e => ?_, fun a e n => ?_, fun i => i, fun a e => ?_⟩ sub2⟩
      · cases z : G a with
        | some o' =>
          rw [G2s z] at e
          cases e
          exact keepH (sG _ _ z)
        | none =>
          cases z2 : H a with
          | some o' => rw [G2o z z2] at e; cases e
          | none => rw [G2n z z2] at e; exact H's e
      · cases z : H a with
        | none => exact absurd z n
        | some o' => exact G2o e z
      · cases z : H a with
        | none => rfl
        | some o' => rw [keepH z] at e; cases e
theorem fn_fr {P : Program} {w : World} {K : PySem.W.Frag} {mg : Str → Option Value} {base : Heap} {k : Nat} {f : Addr} {fd : FuncData} {ps : List Str} {sp : Sp} (F : FnOk P w K mg base CX0 k f fd ps sp) : FnOk P w K mg base CX0 k f fd ps (spFr sp) := fn_frX (fun _ _ _ _ _ h => h) F
section
variable {M : Am} {O : Bu} {K : PySem.W.Frag} {σ : L2.St} {G : Hp} {R Ra Rb : Rp} {te ta tb tc : TE} {tA tB' tt : TT} {t tr : TA} {Γ : Ctx} {P : Ctx → Prop} {ts u w' : TS}
/-- such a promise, by what comes of it -/
def Gives (sp : Sp) (Rs : List Rp) (R : Rp) : Prop := ∀ (vs : List V) (G : Hp) (Q : VK), RAll Rs vs G → (∀ v G', Same G G' → R.p v G' → Q v G') → sp vs G Q (fun _ _ _ => False)
theorem gives_fr {sp : Sp} {Rs : List Rp} {vs : List V} {G H : Hp} {Q : VK} {E : XK} (g : Gives sp Rs R) (hr : ∀ R ∈ Rs, Rob R) (hR : Rob R) (s : Same G H) (r : RAll Rs vs G) (k : ∀ v G' H', Gr Am.no G H G' H' → R.p v G' → Q v H') : spFr sp vs H Q E :=
  ⟨G, s, fun Gs sub => g vs Gs _ (RAll.rob hr sub r) fun v G' s' rv => ⟨s', fun H' G2 gg sub' => k v G2 H' gg (hR _ _ _ sub' rv)⟩⟩
theorem j_fr {sp : Sp} {Rs : List Rp} {E : XK} (g : Gives sp Rs R) (h : JA M K Γ t Rs) (hr : ∀ R ∈ Rs, Rob R) (hR : Rob R) : JE M K Γ (tCall (spFr sp) [] E t) R := fun σ O G ev G1 H1 s1 s2 o Q k =>
  h σ O G ev G1 H1 s1 s2 o _ fun vs G2 H2 g2 r => by rw [List.append_nil]; exact gives_fr g hr hR g2.s r fun v G3 H3 g' rv => k v _ _ (g2.trans g'.of_no) rv
theorem j_frM {sp : Sp} {Rs : List Rp} {E : XK} {C : Addr} {m : Str} (g : Gives sp (Ra :: Rs) R) (ha : JE M K Γ ta Ra) (h : JA M K Γ t Rs) (hr : ∀ R ∈ Ra :: Rs, Rob R) (hR : Rob R) (hi : ∀ v G1, Ra.p v G1 → ∃ a dx fs, v = .ref a ∧ G1 a = some (.ins C dx fs) ∧ fs.lookup m = none) : JE M K Γ (tMeth C m (spFr sp) [] E ta t) R := fun σ O G ev G1 H1 s1 s2 o Q k =>
  ha σ O G ev G1 H1 s1 s2 o _ fun v G2 H2 g2 r => by
    obtain ⟨a, dx, fs, rfl, e1, e2⟩ := hi v G2 r
    exact ⟨a, dx, fs, rfl, g2.s _ _ e1, e2, h σ O G ev G2 H2 (s1.trans g2.g) g2.s (o.gr g2) _ fun vs G3 H3 g3 r3 => by rw [List.append_nil]; exact gives_fr g hr hR g3.s (⟨_, _, rfl, Ra.up g3.g r, r3⟩ : RAll (Ra :: Rs) _ G3) fun v G4 H4 g' rv => k v _ _ ((g2.trans g3).trans g'.of_no) rv⟩
theorem j_frP {sp : Sp} {E : XK} {C : Addr} (g : Gives sp [Ra] R) (ha : JE M K Γ ta Ra) (hr : Rob Ra) (hR : Rob R) (hi : ∀ v G1, Ra.p v G1 → ∃ a dx fs, v = .ref a ∧ G1 a = some (.ins C dx fs)) : JE M K Γ (tProp C (spFr sp) [] E ta) R := fun σ O G ev G1 H1 s1 s2 o Q k =>
  ha σ O G ev G1 H1 s1 s2 o _ fun v G2 H2 g2 r => by
    obtain ⟨a, dx, fs, rfl, e1⟩ := hi v G2 r
    exact ⟨a, dx, fs, rfl, g2.s _ _ e1, gives_fr g (fun R hR => by rw [List.mem_singleton.mp hR]; exact hr) hR g2.s (⟨_, _, rfl, r, rfl⟩ : RAll [Ra] _ G2) fun v G4 H4 g' rv => k v _ _ (g2.trans g'.of_no) rv⟩
/-! what is not known but for its kind -/
def REx {α : Type} (S : α → Prop) (R : α → Rp) : Rp := ⟨fun v G => ∃ x, S x ∧ (R x).p v G, fun s ⟨x, h, r⟩ => ⟨x, h, (R x).up s r⟩⟩
theorem js_open {α : Type} {S : α → Prop} {R' : α → Rp} {i : Nat} (h : Γ[i]? = some (.is (REx S R'))) (k : ∀ x, S x → JS M K (Γ.set i (.is (R' x))) ts R P) : JS M K Γ ts R P := fun G0 H0 σ O G ev => by
  obtain ⟨v, h1, x, hx, r⟩ := ev.is i _ h
  have hi : i < Γ.length := (List.getElem?_eq_some_iff.mp h).1
  have e := ev.set (R := R' x) hi r
  have hs : σ.set i (some v) = σ := by
    refine List.ext_getElem? fun j => ?_
    by_cases q : i = j
    · subst q
      rw [List.getElem?_set_self (by rw [← ev.len]; exact hi), h1]
    · rw [List.getElem?_set_ne q]
  rw [hs] at e
  exact k x hx G0 H0 σ O G e
theorem js_setX {α : Type} {S : α → Prop} {R' : α → Rp} {i : Nat} (h : JE M K Γ te (REx S R')) (hi : i < Γ.length) (k : ∀ x, S x → JS M K (Γ.set i (.is (R' x))) u R P) : JS M K Γ (tSeq (tAsg te (gName i)) u) R P :=
  js_set h hi (js_open (by rw [List.getElem?_set_self hi]) fun x hx => by rw [List.set_set]; exact k x hx)
/-- the value is this very one -/
def RIs (v0 : V) : Rp := ⟨fun v _ => v = v0, fun _ h => h⟩
/-- the rest by hand -/
theorem js_raw (h : ∀ (G0 H0 : Hp) (σ : L2.St) (O : Bu) (G : Hp), Env K Γ σ O G → EvS M G0 H0 O ts σ G R fun σ' O' G' => ∃ Γ', P Γ' ∧ Env K Γ' σ' O' G') : JS M K Γ ts R P := h
end
end Own

set_option linter.unusedVariables false
namespace Own
open PySem L2 PySem.HandSPX PyProof.Rows PySem.Spec LamX NdefX
/-- all but what stands at P stays -/
def ExtP (P : Addr) (H H' : Hp) : Prop := ∀ b o, b ≠ P → H b = some o → H' b = some o
section
variable {X : Cx} {pins : List (Addr × Obj)} {σ : L2.St} {H : Hp} {s : Shared}
theorem lam_mk2 {T : List (Addr × Str)} {c P : Addr} {params : Arguments} {body : Expr} {scope : Scope} {pos : Pos} {E : Value → Shared → Prop} {Q : Value → Shared → Prop} (I : Inv X pins σ H s) (TB : TabB X.base X.mg c P) (hcode : X.env.code = .ref c)
    (hm : (P, X.env.qual ++ "<lambda>") ∈ T) (hu : ∀ p ∈ T, p.1 = P → p.2 = X.env.qual ++ "<lambda>") (hT : Tabs T H) (hdef : defaultsOf params X.env = ([], [])) (hfree : ∀ y ∈ scope.names, y.2 = .free → ∃ c, X.env.cells.lookup y.1 = some c)
    (h : ∀ (f c' : Addr) (H1 : Hp) (s' : Shared), Inv X pins σ H1 s' → ExtP P H H1 → (∀ b, H1 b = none → H b = none) → Tabs T H1 → H f = none → H1 f = some (LamO f (lamF X params scope c') body) → H1 c' = some (CodeO c' (X.env.qual ++ "<lambda>")) → Q (.ref f) s') :
    wpAny (model X.prog X.w) X.A (eval (.Lambda params body scope pos) X.env) Q E s := by
  obtain ⟨ps, hP, ht, ha⟩ := hT _ hm
  refine PySem.W.kla_eval hdef ?_
  have bP : s.heap.BuiltinsAt X.mg P := TB.bm.keeps I.bk
  have hP' : s.heap.get? P = some { cls := .none, data := .fields ps } := I.hok P _ hP
  cases hc : codeAmong pos ps.toList with
  | none =>
    refine PySem.W.kla_makeFunction (mg := X.mg) (c := c) (P := P) (ps := ps) (closure_ok hfree) I.ok.glob (I.mod.glob.keeps I.bk) hcode (TB.code.keeps I.bk) hP' ht hc TB.gP bP fun c' ctv h' tk hx hge hlt hrec htb => ?_
    obtain ⟨c2, oc, vs, t, e2, hoc, hd, hv⟩ := hrec
    cases e2
    have nC : H c' = none := I.hok.fresh hge
    have I1 := inv_table (t' := tk) (more := #[rawInt pos.line, rawInt pos.col, .ref c']) (h' := h') I hP (fun b o hb e => hx b o hb e) htb hge ⟨oc, vs, t, hoc, hd, hv⟩
    have cP : ∀ {c0 : Addr} {q : Str}, H c0 = some (CodeO c0 q) → c0 ≠ P := fun {c0 q} e z => by
      rw [z, hP] at e
      have e : HO.tbl ps = HO.ext _ := Option.some.inj e
      cases e
    have hE : ExtP P H (upd (upd H P (.tbl (ps ++ #[rawInt pos.line, rawInt pos.col, .ref c']))) c' (CodeO c' (X.env.qual ++ "<lambda>"))) := fun b o n e => by
      rw [upd_ne (ne_of_none e nC), upd_ne n]
      exact e
    have eL : (ps ++ #[rawInt pos.line, rawInt pos.col, .ref c']).toList = ps.toList ++ [rawInt pos.line, rawInt pos.col, .ref c'] := by simp
    have T1 : Tabs T (upd (upd H P (.tbl (ps ++ #[rawInt pos.line, rawInt pos.col, .ref c']))) c' (CodeO c' (X.env.qual ++ "<lambda>"))) := fun p hp => by
      by_cases hb : p.1 = P
      · rw [hu p hp hb, hb]
        refine ⟨_, by rw [upd_ne (ne_of_none hP nC), upd_same], by rw [eL]; exact PySem.TriplesOk_snoc _ _ _ _ ht, fun p' cv hcv => ?_⟩
        rw [eL] at hcv
        rcases among_app _ ht hcv with z | z
        · obtain ⟨c0, e1, e2⟩ := ha p' cv z
          exact ⟨c0, e1, hE _ _ (cP e2) e2⟩
        · exact ⟨c', z, upd_same⟩
      · obtain ⟨ps', a1, a2, a3⟩ := hT p hp
        refine ⟨ps', by rw [upd_ne (ne_of_none a1 nC), upd_ne hb]; exact a1, a2, fun p' cv hcv => ?_⟩
        obtain ⟨c0, e1, e2⟩ := a3 p' cv hcv
        exact ⟨c0, e1, hE _ _ (cP e2) e2⟩
    have nF := I1.hok.fresh (Nat.le_refl _)
    have I2 := inv_lam (F := lamF X params scope c') (body := body) (t' := tk) (pm := (X.mg "__name__").getD .none) (ctv := ctv) I1 rfl
    refine h h'.objs.size c' _ _ I2 (fun b o n e => ?_) (fun b e => upd_none (upd_none (upd_none e))) (T1.ext fun b o e => ?_) (I.hok.fresh (Nat.le_trans hge (Nat.le_of_lt hlt))) upd_same ?_
    · have e1 := hE b o n e
      exact (upd_ne (ne_of_none e1 nF)).trans e1
    · exact (upd_ne (ne_of_none e nF)).trans e
    · exact (upd_ne (Nat.ne_of_lt hlt)).trans upd_same
  | some cv =>
    obtain ⟨c', e, hco⟩ := ha pos cv hc
    subst e
    refine PySem.W.kla_makeFunctionHit (mg := X.mg) (c := c) (P := P) (ps := ps) (closure_ok hfree) I.ok.glob (I.mod.glob.keeps I.bk) hcode (TB.code.keeps I.bk) hP' ht hc bP fun ctv h' tk hx hsz => ?_
    have I1 : Inv X pins σ H { s with heap := h', toks := tk } := I.kept hx
    have nF : H h'.objs.size = none := I1.hok.fresh (Nat.le_refl _)
    have I2 := inv_lam (F := lamF X params scope c') (body := body) (t' := tk) (pm := (X.mg "__name__").getD .none) (ctv := ctv) I1 rfl
    refine h h'.objs.size c' _ _ I2 (fun b o _ e => ?_) (fun b e => upd_none e) (hT.ext fun b o e => ?_) nF upd_same ?_
    · exact (upd_ne (ne_of_none e nF)).trans e
    · exact (upd_ne (ne_of_none e nF)).trans e
    · exact (upd_ne (ne_of_none hco nF)).trans hco
end
/-- lambda: body, made; only the table at P has grown -/
def tLamP (X : Cx) (T : List (Addr × Str)) (P : Addr) (params : Arguments) (scope : Scope) (body : Expr) : TE := fun _ H Q => Tabs T H ∧ ∀ (f c' : Addr) (H1 : Hp), ExtP P H H1 → (∀ b, H1 b = none → H b = none) → Tabs T H1 → H f = none → H1 f = some (LamO f (lamF X params scope c') body) → H1 c' = some (CodeO c' (X.env.qual ++ "<lambda>")) → Q (.ref f) H1
section
variable {X : Cx}
theorem pe_lamP {T : List (Addr × Str)} {c P : Addr} {params : Arguments} {body : Expr} {scope : Scope} {pos : Pos} (TB : TabB X.base X.mg c P) (hcode : X.env.code = .ref c)
    (hm : (P, X.env.qual ++ "<lambda>") ∈ T) (hu : ∀ p ∈ T, p.1 = P → p.2 = X.env.qual ++ "<lambda>") (hdef : defaultsOf params X.env = ([], [])) (L : LamS X.env.scope scope) :
    PE X (.Lambda params body scope pos) (tLamP X T P params scope body) :=
  ⟨fun pins s σ H Q I ⟨hT, h⟩ => lam_mk2 I TB hcode hm hu hT hdef (L.has I.ok) fun f c' H1 s' I1 e n T1 nf hf hc => ⟨.ref f, H1, I1, rfl, h f c' H1 e n T1 nf hf hc⟩⟩
end
/-! the bag at p, its cells at c, the tables T -/
theorem lawM_al {p c : Addr} {T : List (Addr × Str)} {H : Hp} (b : BagC H p c ∧ Tabs T H) {a : Addr} (z : a = p ∨ a = c ∨ ∃ q, (a, q) ∈ T) : H a ≠ none := by
  obtain ⟨⟨cs, i, d, m, h1, h2, _⟩, t⟩ := b
  rcases z with rfl | rfl | ⟨q, hq⟩
  · rw [h1]; exact fun q => nomatch q
  · rw [h2]; exact fun q => nomatch q
  · obtain ⟨ps, h3, _⟩ := t _ hq
    rw [show H a = some (.tbl ps) from h3]; exact fun q => nomatch q
theorem lawM_st {p c : Addr} {T : List (Addr × Str)} {H H' : Hp} (b : BagC H p c ∧ Tabs T H) (e : ∀ a o, H a = some o → ((a = p ∨ a = c ∨ ∃ q, (a, q) ∈ T) ∨ isX o = true) → H' a = some o) : BagC H' p c ∧ Tabs T H' := by
  refine ⟨b.1.keep (fun o q => e p o q (.inl (.inl rfl))) (fun o q => e c o q (.inl (.inr (.inl rfl)))), fun q hq => ?_⟩
  obtain ⟨ps, h1, h2, h3⟩ := b.2 q hq
  refine ⟨ps, e _ _ h1 (.inl (.inr (.inr ⟨q.2, hq⟩))), h2, fun pos cv hc => ?_⟩
  obtain ⟨c0, e1, e2⟩ := h3 pos cv hc
  exact ⟨c0, e1, e _ _ e2 (.inr rfl)⟩
def lawM (p c : Addr) (T : List (Addr × Str)) : Am := ⟨fun a => a = p ∨ a = c ∨ ∃ q, (a, q) ∈ T, fun H => BagC H p c ∧ Tabs T H, fun b _ z => lawM_al b z, fun b e => lawM_st b e, fun _ => True, fun _ _ => trivial⟩
end Own

set_option linter.unusedVariables false
namespace Own
open PySem L2 ClX PySem.HandSPX
theorem sort_eq' {a b : List Int} (h : a.Perm b) (ha : a.Pairwise (· ≤ ·)) (hb : b.Pairwise (· ≤ ·)) : a = b := List.Perm.eq_of_pairwise (fun _ _ _ _ h1 h2 => Int.le_antisymm h1 h2) ha hb h
def optDD : Option Int → PyData
  | none => .none
  | some n => .int n
/-- a plan, its data by their names -/
def planL (pl : Plan) : List (Str × PyData) := [("belts", .list (pl.belts.map .int)), ("scans", .list (pl.scans.map .int)), ("slips", .tuple [.int pl.most, .int pl.among]), ("words", .list (pl.words.map .str)), ("stretch", optDD pl.stretch), ("rooms", .list (pl.rooms.map .int)), ("seek", .int pl.seek), ("empty", .str pl.empty), ("strange", .str pl.strange), ("pause", .str pl.pause)]
theorem planR {K : PySem.W.Frag} {G : Hp} {D b s t w r : Addr} {pl : Plan} (h : PlanH G D b s t w r pl) : (RDic K (planL pl)).p (.ref D) G := by
  refine ⟨D, _, rfl, h.dk, .cons (.lst h.hb (.of_ints _)) (.cons (.lst h.hs (.of_ints _)) (.cons (.tup (.inl (.inl h.ht)) (.cons (.int _) (.cons (.int _) .nil))) (.cons (.lst h.hw (.of_strs _)) (.cons ?_ (.cons (.lst h.hr (.of_ints _)) (.cons (.int _) (.cons (.str _) (.cons (.str _) (.cons (.str _) .nil)))))))))⟩
  cases pl.stretch with
  | none => exact .non
  | some n => exact .int n
theorem PlanOk.line {m w : Nat} {pl : Plan} (h : PlanOk m w pl) (hm : m ≤ 3 := by decide) (hw : w ≤ 3 := by decide) : LnOk (pl.line pl.scans) where
  n1 := h.n1
  n3 := Nat.le_trans h.n2 hm
  bl := fun x hx => by have := h.bl x hx; omega
  sn := h.sc.imp fun q e => by omega
  sr := h.sr
  m0 := h.m0
  m3 := by have := h.m1; show pl.most ≤ 3; omega
  a1 := h.a0
  a6 := by have := h.a1; show pl.among ≤ 6; omega
  ws := h.ws
  st := by
    rcases h.st with e | ⟨k, e, h1, h2⟩
    · exact .inl e
    · exact .inr ⟨k, e, h1, by omega⟩
theorem PlanOk.sort {m w : Nat} {pl : Plan} (h : PlanOk m w pl) : pl.scans.Pairwise (· ≤ ·) := h.sc.imp fun q => Int.le_of_lt q

/-- G with what is new at these places -/
def addL (G H' : Hp) (L : List Addr) : Hp := fun a => if a ∈ L then H' a else G a
theorem gr_bag {p c : Addr} {T : List (Addr × Str)} {G H H' : Hp} (L : List Addr) (s : Same G H) (b : But p H H') (bg : BagC H p c) (bg' : BagC H' p c) (gp : G p = none) (hL : ∀ a ∈ L, H a = none) : Gr (lawM p c T) G H (addL G H' L) H' where
  g := fun a o e => by
    unfold addL
    rw [if_neg (fun z => by have := hL a z; rw [s _ _ e] at this; cases this)]
    exact e
  h := fun a o z e => b a o (fun q => z (.inl q)) e
  s := fun a o e => by
    unfold addL at e
    split at e
    · exact e
    · exact b a o (fun q => by rw [q, gp] at e; cases e) (s _ _ e)
  n := fun a e n => by
    unfold addL
    rw [if_neg (fun z => n (hL a z))]
    exact e
  i := fun i => ⟨bg', tabs_but i.2 bg b⟩
  k := fun a z => by
    by_cases q : a = p
    · subst q
      obtain ⟨cs, i, d, m, h1, _⟩ := bg'
      rw [z] at h1; cases h1
    · cases e : H a with
      | none => rfl
      | some o => rw [b a o q e] at z; cases z
def RPlan (pl : Plan) : Rp := ⟨fun v G => ∃ D b s t wd r, v = .ref D ∧ PlanH G D b s t wd r pl, fun s ⟨D, b, s', t, wd, r, e, h⟩ => ⟨D, b, s', t, wd, r, e, h.keep s⟩⟩
def RLine (K : PySem.W.Frag) (C : Addr) (l : LnD) : Rp := ⟨fun v G => ∃ a, v = .ref a ∧ LnAt K C G a l, fun s ⟨a, e, h⟩ => ⟨a, e, h.same' s⟩⟩
def RTrk (K : PySem.W.Frag) (C : Addr) (pl : Plan) : Rp := ⟨fun v G => ∃ a, v = .ref a ∧ TrP K C G a pl, fun s ⟨a, e, h⟩ => ⟨a, e, h.same s⟩⟩
def RPlant (K : PySem.W.Frag) (CP CL CT : Addr) (l : LnD) (pl : Plan) : Rp := ⟨fun v G => ∃ a, v = .ref a ∧ PlAt K CP CL CT G a l pl, fun s ⟨a, e, h⟩ => ⟨a, e, h.same s⟩⟩
section
variable {K : PySem.W.Frag} {CP CL CT : Addr} {l : LnD} {pl : Plan}
theorem rob_plan : Rob (RPlan pl) := fun _ _ _ s ⟨D, b, s', t, wd, r, e, h⟩ => ⟨D, b, s', t, wd, r, e, s _ _ rfl h.dk, s _ _ rfl h.hb, s _ _ rfl h.hs, s _ _ rfl h.ht, s _ _ rfl h.hw, s _ _ rfl h.hr⟩
theorem lnAt_rob {G G' : Hp} {a : Addr} (s : SubG G G') (h : LnAt K CL G a l) : LnAt K CL G' a l := by
  obtain ⟨⟨d, t, tS, tP, tW, h1, h2, h3, h4, h5⟩, ok⟩ := h
  exact ⟨⟨d, t, tS, tP, tW, s _ _ rfl h1, s.sqT h2, s.sqT h3, s.sqT h4, s.sqT h5⟩, ok⟩
theorem trP_rob {G G' : Hp} {a : Addr} (s : SubG G G') (h : TrP K CT G a pl) : TrP K CT G' a pl := by
  obtain ⟨d, u, h1, h2, h3⟩ := h
  exact ⟨d, u, s _ _ rfl h1, s.sqT h2, h3⟩
theorem plAt_rob {G G' : Hp} {a : Addr} (s : SubG G G') (h : PlAt K CP CL CT G a l pl) : PlAt K CP CL CT G' a l pl := by
  obtain ⟨dx, x, y, h1, h2, h3⟩ := h
  exact ⟨dx, x, y, s _ _ rfl h1, lnAt_rob s h2, trP_rob s h3⟩
theorem rob_line : Rob (RLine K CL l) := fun _ _ _ s ⟨a, e, h⟩ => ⟨a, e, lnAt_rob s h⟩
theorem rob_trk : Rob (RTrk K CT pl) := fun _ _ _ s ⟨a, e, h⟩ => ⟨a, e, trP_rob s h⟩
theorem rob_plant : Rob (RPlant K CP CL CT l pl) := fun _ _ _ s ⟨a, e, h⟩ => ⟨a, e, plAt_rob s h⟩
theorem rob_ex {α : Type} {S : α → Prop} {R : α → Rp} (h : ∀ x, Rob (R x)) : Rob (REx S R) := fun _ _ _ s ⟨x, hx, r⟩ => ⟨x, hx, h x _ _ _ s r⟩
theorem rall1 {R : Rp} {vs : List V} {G : Hp} (h : RAll [R] vs G) : ∃ v, vs = [v] ∧ R.p v G := by obtain ⟨v, _, rfl, h, rfl⟩ := h; exact ⟨v, rfl, h⟩
theorem rall2 {R R' : Rp} {vs : List V} {G : Hp} (h : RAll [R, R'] vs G) : ∃ v u, vs = [v, u] ∧ R.p v G ∧ R'.p u G := by obtain ⟨v, _, rfl, h, u, _, rfl, h', rfl⟩ := h; exact ⟨v, u, rfl, h, h'⟩
theorem gives_madeL (ok : LnOk (pl.line pl.scans)) (so : pl.scans.Pairwise (· ≤ ·)) : Gives (spMadeL K CL) [RPlan pl] (RLine K CL (pl.line pl.scans)) := fun vs G Q r k => by
  obtain ⟨v, rfl, D, b, s, t, wd, rr, rfl, ph⟩ := rall1 r
  refine ⟨D, b, s, t, wd, rr, pl, rfl, ph, ok, fun x H' ss nx s' pm sr la => ?_⟩
  obtain rfl : ss = pl.scans := sort_eq' pm sr so
  exact k _ _ s' ⟨x, rfl, la⟩
theorem gives_madeT (tk : pl.TrOk) : Gives (spMadeT K CT) [RPlan pl] (RTrk K CT pl) := fun vs G Q r k => by
  obtain ⟨v, rfl, D, b, s, t, wd, rr, rfl, ph⟩ := rall1 r
  exact ⟨D, b, s, t, wd, rr, pl, rfl, ph, tk, fun x H' nx ta s' => k _ _ s' ⟨x, rfl, ta⟩⟩
theorem gives_madeP (ok : LnOk (pl.line pl.scans)) (tk : pl.TrOk) (hl : pl.rooms.length = pl.belts.length) (so : pl.scans.Pairwise (· ≤ ·)) : Gives (spMadeP K CP CL CT) [RPlan pl] (RPlant K CP CL CT (pl.line pl.scans) pl) := fun vs G Q r k => by
  obtain ⟨v, rfl, D, b, s, t, wd, rr, rfl, ph⟩ := rall1 r
  refine ⟨D, b, s, t, wd, rr, pl, rfl, ph, ok, tk, hl, fun x H' ss nx s' pm sr pa => ?_⟩
  obtain rfl : ss = pl.scans := sort_eq' pm sr so
  exact k _ _ s' ⟨x, rfl, pa⟩
theorem gives_text : Gives (spGet CP "_text") [RPlant K CP CL CT l pl] (D K (.str (plText l pl))) := fun vs G Q r k => by
  obtain ⟨v, rfl, a, rfl, dx, x, y, h1, h2, h3⟩ := rall1 r
  exact ⟨a, dx, _, .str (plText l pl), rfl, h1, rfl, k _ _ (Same.refl _) (.str _)⟩
theorem gives_line : Gives (spGet CP "_line") [RPlant K CP CL CT l pl] (RLine K CL l) := fun vs G Q r k => by
  obtain ⟨v, rfl, a, rfl, dx, x, y, h1, h2, h3⟩ := rall1 r
  exact ⟨a, dx, _, .ref x, rfl, h1, rfl, k _ _ (Same.refl _) ⟨x, rfl, h2⟩⟩
theorem gives_trk : Gives (spGet CP "_tracker") [RPlant K CP CL CT l pl] (RTrk K CT pl) := fun vs G Q r k => by
  obtain ⟨v, rfl, a, rfl, dx, x, y, h1, h2, h3⟩ := rall1 r
  exact ⟨a, dx, _, .ref y, rfl, h1, rfl, k _ _ (Same.refl _) ⟨y, rfl, h3⟩⟩
theorem gives_same {d : PyData} (h : Shal 4 d) : Gives (spSame K 5) [D K d, D K d] (D K (.bool true)) := fun vs G Q r k => by
  obtain ⟨v, u, rfl, r1, r2⟩ := rall2 r
  exact ⟨v, u, d, 4, rfl, De.dp r1, De.dp r2, rfl, h, fun H' s' => k _ _ s' (.bl _)⟩
theorem plant_ins {v : V} {G : Hp} (h : (RPlant K CP CL CT l pl).p v G) : ∃ a dx fs, v = .ref a ∧ G a = some (.ins CP dx fs) := by
  obtain ⟨a, rfl, dx, x, y, h1, _⟩ := h
  exact ⟨a, dx, _, rfl, h1⟩
theorem line_ins {v : V} {G : Hp} (h : (RLine K CL l).p v G) : ∃ a dx fs, v = .ref a ∧ G a = some (.ins CL dx fs) := by
  obtain ⟨a, rfl, ⟨dx, x, y, z, u, h1, _⟩, _⟩ := h
  exact ⟨a, dx, _, rfl, h1⟩
theorem trk_ins {v : V} {G : Hp} (h : (RTrk K CT pl).p v G) : ∃ a dx fs, v = .ref a ∧ G a = some (.ins CT dx fs) := by
  obtain ⟨a, rfl, dx, u, h1, _⟩ := h
  exact ⟨a, dx, _, rfl, h1⟩
theorem plan_dic {v : V} {G : Hp} (h : (RPlan pl).p v G) : (RDic K (planL pl)).p v G := by
  obtain ⟨D, b, s, t, wd, r, rfl, ph⟩ := h
  exact planR ph
end
section
variable {M : Am} {O : Bu} {K : PySem.W.Frag} {σ : L2.St} {G : Hp} {R Ra Rb : Rp} {te ta tb tc : TE} {t tr : TA} {Γ : Ctx} {P : Ctx → Prop} {ts u w' : TS} {CP CL CT : Addr} {l r : LnD} {pl pr : Plan} {mg : Str → Option Value}
theorem j_imp (h : JE M K Γ te Ra) (q : ∀ v G, Ra.p v G → R.p v G) : JE M K Γ te R := fun σ O G ev G1 H1 s1 s2 o Q k => h σ O G ev G1 H1 s1 s2 o _ fun v G2 H2 g rv => k v G2 H2 g (q _ _ rv)
/-- C.m(x), m a static method -/
theorem j_frS {sp : Sp} {Rs : List Rp} {E : XK} {C : Addr} (g : Gives sp Rs R) (ha : JE M K Γ ta (RIs (.ref C))) (h : JA M K Γ t Rs) (hr : ∀ R ∈ Rs, Rob R) (hR : Rob R) : JE M K Γ (tSMeth C (spFr sp) [] E ta t) R := fun σ O G ev G1 H1 s1 s2 o Q k =>
  ha σ O G ev G1 H1 s1 s2 o _ fun v G2 H2 g2 r => ⟨r, h σ O G ev G2 H2 (s1.trans g2.g) g2.s (o.gr g2) _ fun vs G3 H3 g3 r3 => by rw [List.append_nil]; exact gives_fr g hr hR g3.s r3 fun v G4 H4 g' rv => k v _ _ ((g2.trans g3).trans g'.of_no) rv⟩
theorem j_frSN {sp : Sp} {E : XK} {C : Addr} {gV : List V → List V → List V} (g : Gives sp [Ra] R) (ha : JE M K Γ ta (RIs (.ref C))) (h : JA M K Γ t [Ra]) (hr : Rob Ra) (hR : Rob R) (hg : ∀ v, gV [] [v] = [v]) : JE M K Γ (tSMethN C 1 (spFr sp) gV E ta t) R := fun σ O G ev G1 H1 s1 s2 o Q k =>
  ha σ O G ev G1 H1 s1 s2 o _ fun v G2 H2 g2 r => ⟨r, h σ O G ev G2 H2 (s1.trans g2.g) g2.s (o.gr g2) _ fun vs G3 H3 g3 r3 => by
    obtain ⟨u, rfl, ru⟩ := rall1 r3
    exact ⟨rfl, by rw [hg]; exact gives_fr g (fun R hR => by rw [List.mem_singleton.mp hR]; exact hr) hR g3.s r3 fun v G4 H4 g' rv => k v _ _ ((g2.trans g3).trans g'.of_no) rv⟩⟩
variable {p c : Addr} {T : List (Addr × Str)}
theorem jb_plan {E : XK} {m w : Nat} (h : JA (lawM p c T) K Γ t [RIs (.ref p), D K (.int (m : Nat)), D K (.int (w : Nat))]) (hm : 1 ≤ m) (hm3 : m ≤ 3) (hw : 1 ≤ w) (hw3 : w ≤ 3) : JE (lawM p c T) K Γ (tCall spPlan [] E t) (REx (PlanOk m w) RPlan) := fun σ O G ev G1 H1 s1 s2 o Q k =>
  h σ O G ev G1 H1 s1 s2 o _ fun vs G2 H2 g r => by
    obtain ⟨_, _, rfl, rfl, _, _, rfl, e1, _, _, rfl, e2, rfl⟩ := r
    obtain rfl := D.int e1
    obtain rfl := D.int e2
    have o2 := o.gr g
    have gp : G2 p = none := o2.a p (.inl rfl)
    rw [List.append_nil]
    refine ⟨p, c, m, w, rfl, o2.i.1, hm, hm3, hw, hw3, fun H' D b s t wd r pl bt bg nD nb ns nt nw nr ph ok => ?_⟩
    refine k _ _ _ (g.trans (gr_bag [D, b, s, t, wd, r] g.s bt o2.i.1 bg gp fun a ha => ?_)) ⟨pl, ok, D, b, s, t, wd, r, rfl, ?_⟩
    · simp only [List.mem_cons, List.not_mem_nil, or_false] at ha
      rcases ha with rfl | rfl | rfl | rfl | rfl | rfl <;> assumption
    · have e : ∀ a, a ∈ [D, b, s, t, wd, r] → addL G2 H' [D, b, s, t, wd, r] a = H' a := fun a ha => by unfold addL; rw [if_pos ha]
      exact ⟨by rw [e _ (by simp)]; exact ph.dk, by rw [e _ (by simp)]; exact ph.hb, by rw [e _ (by simp)]; exact ph.hs, by rw [e _ (by simp)]; exact ph.ht, by rw [e _ (by simp)]; exact ph.hw, by rw [e _ (by simp)]; exact ph.hr⟩
theorem jb_draw {E : XK} {n : Int} (h : JA (lawM p c T) K Γ t [RIs (.ref p), D K (.int n)]) (h0 : 0 < n) (h1 : n.natAbs < 2 ^ 200) : JE (lawM p c T) K Γ (tCall spDraw [] E t) (REx (fun r : Int => 0 ≤ r ∧ r < n) fun r => D K (.int r)) := fun σ O G ev G1 H1 s1 s2 o Q k =>
  h σ O G ev G1 H1 s1 s2 o _ fun vs G2 H2 g r => by
    obtain ⟨_, _, rfl, rfl, _, _, rfl, e1, rfl⟩ := r
    obtain rfl := D.int e1
    have o2 := o.gr g
    rw [List.append_nil]
    refine ⟨p, n, c, rfl, o2.i.1, h0, h1, fun H' r bt bg r0 r1 => k _ (addL G2 H' []) _ (g.trans (gr_bag [] g.s bt o2.i.1 bg (o2.a p (.inl rfl)) fun a ha => nomatch ha)) ⟨r, ⟨r0, r1⟩, .int r⟩⟩
theorem jb_of {E : XK} {ds : List PyData} (h : JA (lawM p c T) K Γ t [RIs (.ref p), D K (.list ds)]) (h0 : ds ≠ []) (h1 : ds.length ≤ 1000) : JE (lawM p c T) K Γ (tCall (spOf K) [] E t) (REx (· ∈ ds) fun d => D K d) := fun σ O G ev G1 H1 s1 s2 o Q k =>
  h σ O G ev G1 H1 s1 s2 o _ fun vs G2 H2 g r => by
    obtain ⟨_, _, rfl, rfl, _, _, rfl, e1, rfl⟩ := r
    obtain ⟨a, xs, rfl, q1, q2⟩ := D.lst e1
    have o2 := o.gr g
    have gp : G2 p = none := o2.a p (.inl rfl)
    rw [List.append_nil]
    refine ⟨p, a, xs, c, rfl, o2.i.1, .inl (.inl (g.s _ _ q1)), fun z => (by rw [z, gp] at q1; cases q1), fun z => h0 (by subst z; cases q2; rfl), by rw [q2.length]; exact h1, fun H' x bt bg hx => ?_⟩
    obtain ⟨i, hi⟩ := List.getElem?_of_mem hx
    obtain ⟨d, hd, rd⟩ := q2.get' hi
    have gg := gr_bag (T := T) [] g.s bt o2.i.1 bg gp fun a ha => nomatch ha
    exact k _ _ _ (g.trans gg) ⟨d, List.mem_of_getElem? hd, De.up gg.g rd⟩
end
end Own

set_option linter.all false
set_option linter.unusedVariables false
namespace Own
open PySem L2 PySem.Spec PyProof.Rows
/-! ### *xs, y = a list -/
def gStar (K : PySem.W.Frag) (n : Nat) (t : TGs) : TG := fun v σ H Q => ∃ a xs, v = .ref a ∧ SqL K H a xs ∧ n ≤ xs.length ∧ ∀ p, H p = none → t (.ref p :: xs.drop (xs.length - n)) σ (upd H p (.lst (xs.take (xs.length - n)))) Q
theorem pg_star {X : Cx} {pos : Pos} {es : List Expr} {k : Nat} {t : TGs} {n : Nat} (hc : X.calm = true) (h : PGs X es t)
    (hn : (assignEach es X.env).length = n + 1 := by rfl) (hst : (assignEach es X.env).findIdx? (·.1) = some 0 := by rfl) : PG X (.Tuple es k pos) (gStar X.K n t) := by
  refine ⟨fun pins s σ H v u Q I r hw => ?_⟩
  obtain ⟨a, xs, rfl, hq, hl, hw⟩ := hw
  cases r
  obtain ⟨its, rv, ⟨w0, w1, pl, c0, d0, e0⟩, hz⟩ := I.list hq
  have il : s.heap.IsList a its.toArray := ⟨w0, pl, c0, w1, e0⟩
  have zi : its.length = xs.length := rv.length.symm
  rw [PyProof.Rows.assign_Tuple]
  refine wpAny_bind (wpAny_standAt ?_)
  unfold unpack
  rw [hn, hst]
  refine wpAny_bind (wpAny_holding ?_)
  have f1 : a < s.heap.objs.size := Heap.lt_size pl
  have f2 : a ≠ s.heap.objs.size := Nat.ne_of_lt f1
  unfold unpackItems
  refine wpAny_bind ?_
  unfold notIterableAtAll
  refine wpAny_bind (wpAny_specialOf il.typeIs slot_list_iter.lookup (wpAny_pure ?_))
  simp only [Bool.false_eq_true, if_false]
  refine wpAny_bind (wpAny_holding (wpAny_pyIter_list il ?_))
  refine wpAny_bind (wpAny_holding (wpAny_pure ?_))
  rw [if_neg (show ¬ (([] : List Value).length < 0) from Nat.not_lt_zero _)]
  have il' := il.push (o := { cls := .type "list_iterator", data := .fields #[.ref a, .int 0 0] })
  have it : (s.heap.push { cls := .type "list_iterator", data := .fields #[.ref a, .int 0 0] }).IsListIter s.heap.objs.size a 0 := ⟨_, Heap.get?_push_size _ rfl, rfl, rfl⟩
  obtain ⟨o1, ho1, _⟩ := id it
  obtain ⟨o2, ho2, _⟩ := id il'
  have sz : its.toArray.size = xs.length := by rw [List.size_toArray]; exact zi
  refine wpAny_bind (wpAny_holding (PySem.W.kun_collect (k := 0) (T := "list_iterator") (.inr (.inr (.inl rfl))) (Walks.list (A := X.A.in1) (I.ok.hd hc) s.heap.objs.size a f2 its.toArray) (fun j u st => st.1.typeIs) (Nat.zero_le _) ⟨it, il'⟩ (Heap.lt_size ho1) (Heap.lt_size ho2) (fun h2 tk hk => ?_) (by rw [sz]; exact hz)))
  rw [List.drop_zero]
  have dl : its.toArray.toList.length = xs.length := by rw [List.toList_toArray]; exact zi
  rw [if_neg (show ¬ (its.toArray.toList.length < n + 1 - 1 - 0) by rw [dl]; omega)]
  have md : its.toArray.toList.length - (n + 1 - 1 - 0) = xs.length - n := by rw [dl]; omega
  rw [md]
  have kp : ∀ b u, s.heap.get? b = some u → h2.get? b = some u := fun b u e => hk b u (Nat.ne_of_lt (Heap.lt_size e)) (Heap.get?_push_of_some _ e)
  have I2 : Inv X pins σ H { s with heap := h2, toks := tk } := I.kept kp
  have nf : H h2.objs.size = none := I2.hok.fresh (Nat.le_refl _)
  have zt : (its.toArray.toList.take (xs.length - n)).length ≤ sizeLine := by rw [List.length_take, dl]; omega
  refine wpAny_bind (wpAny_newList (wpAny_pure ?_) zt)
  have vt : Vals (xs.take (xs.length - n)) (its.toArray.toList.take (xs.length - n)) := by rw [List.toList_toArray]; exact rv.take _
  have vd : Vals (xs.drop (xs.length - n)) (its.toArray.toList.drop (xs.length - n)) := by rw [List.toList_toArray]; exact rv.drop _
  have I3 := I2.laid (a := h2.objs.size) (o := .lst (xs.take (xs.length - n))) (t' := tk) (h' := h2.push { cls := .type "list", data := .seq (its.toArray.toList.take (xs.length - n)).toArray }) (fun b u e => Heap.get?_push_of_some _ e) (Nat.le_refl _) ⟨by rw [vt.length]; exact zt, _, 0, vt, Heap.get?_push_size _ rfl⟩
  exact h.run pins _ σ _ (.ref h2.objs.size :: xs.drop (xs.length - n)) _ Q I3 (.cons (show L2.RelV (.ref h2.objs.size) (.ref h2.objs.size) from rfl) vd) (hw _ nf)
section
variable {M : Am} {O : Bu} {K : PySem.W.Frag} {σ : L2.St} {G : Hp} {R Ra Rb : Rp} {te ta tb tc tk tv : TE} {tA tB' tt : TT} {t tr : TA} {Γ : Ctx} {P : Ctx → Prop} {ts u w' : TS}
/-- *xs, y = a list -/
theorem js_star {i j : Nat} {ds : List PyData} {d : PyData} (h : JE M K Γ te (D K (.list (ds ++ [d])))) (hi : i < Γ.length) (hj : j < Γ.length) (k : JS M K ((Γ.set i (.is (D K (.list ds)))).set j (.is (D K d))) u R P) : JS M K Γ (tSeq (tAsg te (gStar K 1 (gCons (gName i) (gCons (gName j) gNil)))) u) R P := fun G0 H0 σ O G ev G1 H1 D0 st s1 kr n => by
  refine h σ O G ev G1 H1 s1 st.gr.s st.ow _ fun v G2 H2 g r => ?_
  obtain ⟨a, xs, rfl, q1, q2⟩ := D.lst r
  have hl := q2.length
  rw [List.length_append] at hl
  have hl : xs.length = ds.length + 1 := hl
  refine ⟨a, xs, rfl, .inl (.inl (g.s _ _ q1)), by rw [hl]; exact Nat.le_add_left _ _, fun p np => ?_⟩
  have e1 : xs.length - 1 = ds.length := by omega
  rw [e1]
  have q3 : DeAll K G2 (xs.take ds.length) ds := by have := q2.take ds.length; rwa [List.take_left] at this
  have q4 : DeAll K G2 (xs.drop ds.length) [d] := by have := q2.drop ds.length; rwa [List.drop_left] at this
  obtain ⟨v, ev', dv⟩ := q4.one
  rw [ev']
  have gn : Gr M G2 H2 (upd G2 p (.lst (xs.take ds.length))) (upd H2 p (.lst (xs.take ds.length))) := Gr.new g.s np
  have gg := g.trans gn
  have r1 : (D K (.list ds)).p (.ref p) (upd G2 p (.lst (xs.take ds.length))) := .lst upd_same (q3.up gn.g)
  refine ⟨_, _, rfl, _, _, rfl, rfl, ?_⟩
  have ev2 := ((ev.up (s1.trans gg.g)).set hi r1).set (i := j) (R := D K d) (by rw [List.length_set]; exact hj) (De.up gn.g dv)
  exact k _ _ _ _ _ ev2 _ _ D0 (st.to gg) (Same.refl _) kr fun σ'' O'' G3 H3 st'' s3 p' => n σ'' O'' G3 H3 st'' (gg.g.trans s3) p'
theorem j_split {a b : Str} {ys : List Str} (ha : JE M K Γ ta (D K (.str a))) (hb : JE M K Γ tb (D K (.str b))) (h0 : (b.length == 0) = false) (hz : a.length + 2 ≤ sizeLine) (hy : Txt.split a b = ys) : JE M K Γ (tM1 rSplitAny ta tb) (D K (.list (ys.map PyData.str))) := fun σ O G ev G1 H1 s1 s2 o Q k => by
  refine ha σ O G ev G1 H1 s1 s2 o _ fun v G2 H2 g r => ?_
  obtain rfl := D.str r
  refine ⟨⟨_, rfl⟩, hb σ O G ev G2 H2 (s1.trans g.g) g.s (o.gr g) _ fun v G3 H3 g3 r3 => ?_⟩
  obtain rfl := D.str r3
  refine .inl ⟨a, b, rfl, rfl, h0, hz, fun p np => ?_⟩
  rw [hy]
  exact k _ _ _ ((g.trans g3).trans (Gr.new g3.s np)) (.lst upd_same (.of_strs _))
/-! dicts with texts for keys: a key that is not written in the program -/
theorem KvD.no {z : Str} : ∀ {kvs : List (Key × V)} {ds : List (Str × PyData)}, KvD K G kvs ds → lookD ds z = none → valV kvs (Sum.inr z) = none
  | _, _, .nil, e => rfl
  | _, _, .cons (k := k) (v := v) (d := d') (kvs := kvs) (ds := ds) h t, e => by
    unfold lookD at e
    by_cases q : k = z
    · rw [if_pos q] at e; cases e
    · rw [if_neg q] at e
      exact (valV_neg (by show ¬ Sum.inr k = Sum.inr z; simp [q])).trans (KvD.no t e)
theorem j_dgetV {ds : List (Str × PyData)} {z : Str} {d : PyData} (h : JE M K Γ ta (RDic K ds)) (hk : JE M K Γ tb (D K (.str z))) (e : lookD ds z = some d) : JE M K Γ (tDGet ta tb) (D K d) := fun σ O G ev G1 H1 s1 s2 o Q k =>
  h σ O G ev G1 H1 s1 s2 o _ fun v G2 H2 g ⟨a, kvs, e1, e2, e3⟩ => hk σ O G ev G2 H2 (s1.trans g.g) g.s (o.gr g) _ fun v2 G3 H3 g3 r3 => by
    obtain rfl := D.str r3
    obtain ⟨u, h1, h2⟩ := e3.get e
    exact ⟨a, u, e1, .inl ⟨kvs, Sum.inr z, .inl (g3.s _ _ (g3.g _ _ e2)), rfl, h1.symm⟩, k _ _ _ (g.trans g3) (De.up g3.g h2)⟩
theorem jt_dnotin {ds : List (Str × PyData)} {z : Str} (hk : JE M K Γ tb (D K (.str z))) (h : JE M K Γ ta (RDic K ds)) : JE M K Γ (tDNotIn tb ta) (D K (.bool (!(lookD ds z).isSome))) := fun σ O G ev G1 H1 s1 s2 o Q k =>
  hk σ O G ev G1 H1 s1 s2 o _ fun v2 G2 H2 g r3 => h σ O G ev G2 H2 (s1.trans g.g) g.s (o.gr g) _ fun v G3 H3 g3 ⟨a, kvs, e1, e2, e3⟩ => by
    obtain rfl := D.str r3
    cases e : lookD ds z with
    | none => exact ⟨a, none, e1, .inl ⟨kvs, Sum.inr z, .inl (g3.s _ _ e2), rfl, (KvD.no e3 e).symm⟩, k _ _ _ (g.trans g3) (by rw [e]; exact .bl _)⟩
    | some d =>
      obtain ⟨u, h1, h2⟩ := e3.get e
      exact ⟨a, some u, e1, .inl ⟨kvs, Sum.inr z, .inl (g3.s _ _ e2), rfl, h1.symm⟩, k _ _ _ (g.trans g3) (by rw [e]; exact .bl _)⟩
theorem putK_end {κ : Type} [DecidableEq κ] {kvs : List (κ × V)} {k : κ} {v : V} (h : k ∉ kvs.map (·.1)) : putK kvs k v = kvs ++ [(k, v)] := by
  unfold putK
  rw [if_neg]
  intro q
  obtain ⟨p, hp, e⟩ := List.any_eq_true.mp q
  exact h (List.mem_map.mpr ⟨p, hp, of_decide_eq_true e⟩)
theorem KvD.keys : ∀ {kvs : List (Key × V)} {ds : List (Str × PyData)}, KvD K G kvs ds → kvs.map (·.1) = ds.map fun p => Sum.inr p.1
  | _, _, .nil => rfl
  | _, _, .cons h t => by rw [List.map_cons, List.map_cons, KvD.keys t]
theorem KvD.snoc {k : Str} {v : V} {d : PyData} (hv : De K G v d) : ∀ {kvs : List (Key × V)} {ds : List (Str × PyData)}, KvD K G kvs ds → KvD K G (kvs ++ [(Sum.inr k, v)]) (ds ++ [(k, d)])
  | _, _, .nil => .cons hv .nil
  | _, _, .cons h t => .cons h (KvD.snoc hv t)
theorem KvD.length : ∀ {kvs : List (Key × V)} {ds : List (Str × PyData)}, KvD K G kvs ds → kvs.length = ds.length
  | _, _, .nil => rfl
  | _, _, .cons h t => congrArg (· + 1) (KvD.length t)
/-- {k x: v x for x in xs}, the keys texts, all different -/
theorem ev_dc {ι : Type} {wi : TI} {i : Nat} (is : List ι) (c : ι → PyData) (kf : ι → Str) (vf : ι → PyData) (hi : EvI M O wi σ G (is.map fun x => D K (c x))) (hz : is.length < sizeLine) (hd : (is.map kf).Nodup)
    (hk : ∀ x ∈ is, ∀ (v : V) (G1 : Hp), Same G G1 → De K G1 v (c x) → Ev M O tk (σ.set i (some v)) G1 (D K (.str (kf x)))) (hv : ∀ x ∈ is, ∀ (v : V) (G1 : Hp), Same G G1 → De K G1 v (c x) → Ev M O tv (σ.set i (some v)) G1 (D K (vf x))) :
    Ev M O (tDc wi (gName i) tYes tk tv [i]) σ G (RDic K (is.map fun x => (kf x, vf x))) := fun G1 H1 s1 s2 o Q k =>
  hi G1 H1 s1 s2 o _ fun J G2 H2 gg W Dd nD => by
    have s12 := s1.trans gg.g
    have o2 := o.gr gg
    have nA : ¬ M.ad Dd := Am.fresh o2.i nD
    refine ⟨fun a m H => m + a = is.length ∧ ∃ (Gi : Hp) (acc : List (Key × V)), Gr M G2 H2 Gi H ∧ Gi Dd = none ∧ H Dd = some (.dK acc) ∧ KvD K Gi acc ((is.take a).map fun x => (kf x, vf x)), ⟨is.length, rfl, G2, [], Gr.own gg.s nD, gg.s.free nD, upd_same, .nil⟩, fun a m H ⟨e, Gi, acc, gi, nG, hD, da⟩ => ?_⟩
    by_cases hi' : a < is.length
    · have hx : is[a]? = some is[a] := List.getElem?_eq_getElem hi'
      have hm := List.getElem_mem hi'
      obtain ⟨go, yl⟩ := W.1 a (D K (c is[a])) Gi H (by rw [List.getElem?_map, hx]; rfl) gi.g gi.s (gi.i o2.i) (o2.gr gi).f
      refine .inr ⟨go, fun H' => ∃ (Gi : Hp) (acc : List (Key × V)), Gr M G2 H2 Gi H' ∧ Gi Dd = none ∧ H' Dd = some (.dK acc) ∧ KvD K Gi acc ((is.take (a + 1)).map fun x => (kf x, vf x)), fun H' q => ⟨is.length - (a + 1), by omega, by omega, q⟩, fun x H' y => ?_⟩
      obtain ⟨G3, g3, rx⟩ := yl x H' y
      have o3 := (o2.gr gi).gr g3
      have s3' := (s12.trans gi.g).trans g3.g
      have ew : (wipe σ [i]).set i (some x) = σ.set i (some x) := by show (σ.set i none).set i (some x) = _; rw [List.set_set]
      show wipe ((wipe σ [i]).set i (some x)) [i] = wipe σ [i] ∧ _
      rw [ew]
      refine ⟨by show (σ.set i (some x)).set i none = σ.set i none; rw [List.set_set], ?_⟩
      unfold tYes
      refine iteT ?_
      have e4 : is.take (a + 1) = is.take a ++ [is[a]] := by rw [List.take_add_one, hx]; rfl
      refine hk _ hm x G3 s3' rx G3 H' (Same.refl _) g3.s o3 _ fun v1 G4 H4 g4 r4 => ?_
      obtain rfl := D.str r4
      refine hv _ hm x G3 s3' rx G4 H4 g4.g g4.s (o3.gr g4) _ fun v2 G5 H5 g5 r5 => ?_
      have gE := (g3.trans g4).trans g5
      have gF := gi.trans gE
      have nG5 := gE.n _ nG (fun z => by rw [hD] at z; cases z)
      have da5 := da.up gE.g
      have kn : (Sum.inr (kf is[a]) : Key) ∉ acc.map (·.1) := by
        rw [da.keys, List.map_map]
        intro q
        obtain ⟨y, hy, e⟩ := List.mem_map.mp q
        have e : kf y = kf is[a] := Sum.inr.inj e
        obtain ⟨b, hb, rfl⟩ := List.mem_iff_getElem.mp hy
        rw [List.length_take] at hb
        rw [List.getElem_take] at e
        have hd' : (is.map kf).Pairwise (· ≠ ·) := hd
        have h9 := List.pairwise_iff_getElem.mp hd' b a (by rw [List.length_map]; omega) (by rw [List.length_map]; exact hi') (by omega)
        rw [List.getElem_map, List.getElem_map] at h9
        exact h9 e
      refine ⟨acc, Sum.inr (kf is[a]), rfl, gE.h _ _ nA hD, by rw [da.length, List.length_map, List.length_take]; omega, G5, acc ++ [(Sum.inr (kf is[a]), v2)], ⟨gF.g, fun b u z q => ?_, same_mut gE.s nG5, gF.n, fun i => Am.upd (gF.i i) nA (fun u e => by rw [gE.h _ _ nA hD] at e; cases e; rfl), fun a z => ?_⟩, nG5, by rw [putK_end kn]; exact upd_same, ?_⟩
      · rw [upd_ne (ne_of_none q nD)]
        exact gF.h _ _ z q
      · by_cases q : a = Dd
        · subst q; exact nD
        · rw [upd_ne q] at z; exact gF.k _ z
      · rw [e4, List.map_append]
        exact KvD.snoc r5 da5
    · obtain rfl : a = is.length := by omega
      refine .inl ⟨by have := W.2 H (gi.g.trans gi.s) (gi.i o2.i); rw [List.length_map] at this; exact this, ?_⟩
      rw [List.take_length] at da
      have s3 : Same G2 (upd Gi Dd (.dK acc)) := gi.g.trans (same_fresh nG)
      have gF := gg.trans gi
      refine k _ (upd Gi Dd (.dK acc)) _ ⟨gg.g.trans s3, gF.h, fun b u q => ?_, fun a e1 e2 => ?_, gF.i, gF.k⟩ ⟨Dd, acc, rfl, upd_same, da.up (same_fresh nG)⟩
      · by_cases hb : b = Dd
        · subst hb
          rw [upd_same] at q
          rw [hD]
          exact q
        · rw [upd_ne hb] at q
          exact gi.s _ _ q
      · have h3 := (gg.n a e1 e2)
        have h4 : H2 a ≠ none := fun z => e2 (gg.k _ z)
        rw [upd_ne (fun z => h4 (by rw [z]; exact nD))]
        exact gi.n a h3 h4
theorem j_dc {ι : Type} {wi : TI} {i : Nat} (is : List ι) (c : ι → PyData) (kf : ι → Str) (vf : ι → PyData) (hl : i < Γ.length) (hi : JI M K Γ wi (is.map fun x => D K (c x))) (hz : is.length < sizeLine) (hd : (is.map kf).Nodup)
    (hk : ∀ x ∈ is, JE M K (Γ.set i (.is (D K (c x)))) tk (D K (.str (kf x)))) (hv : ∀ x ∈ is, JE M K (Γ.set i (.is (D K (c x)))) tv (D K (vf x))) : JE M K Γ (tDc wi (gName i) tYes tk tv [i]) (RDic K (is.map fun x => (kf x, vf x))) := fun σ O G ev =>
  ev_dc is c kf vf (hi _ _ _ ev) hz hd (fun x hx v G1 s r => hk x hx _ _ _ ((ev.up s).set (R := D K (c x)) hl r)) fun x hx v G1 s r => hv x hx _ _ _ ((ev.up s).set (R := D K (c x)) hl r)
end
end Own

set_option linter.all false
set_option linter.unusedVariables false
namespace Own
open PySem L2 PySem.Spec PyProof.Rows
section
variable {M : Am} {O : Bu} {K : PySem.W.Frag} {σ : L2.St} {G : Hp} {R Ra Rb : Rp} {te ta tb tc tk tv : TE} {tA tB' tt : TT} {t tr : TA} {Γ : Ctx} {P : Ctx → Prop} {ts u w' : TS}
theorem Env.drop {j : Nat} (e : Env K Γ σ O G) (hi : j < Γ.length) : Env K (Γ.set j .no) (σ.set j none) O G := by
  have ne : ∀ {k : Nat} {c : Ce}, (Γ.set j .no)[k]? = some c → c ≠ .no → j ≠ k := fun {k c} h n z => by
    subst z
    rw [List.getElem?_set_self hi] at h
    exact n (Option.some.inj h).symm
  refine ⟨by rw [List.length_set, List.length_set]; exact e.len, fun k R' h => ?_, fun k ds h => ?_, fun k l ds es p q n h1 h2 h3 h4 => ?_, e.nd⟩
  · have q := ne h (by simp)
    rw [List.getElem?_set_ne q] at h ⊢
    exact e.is k R' h
  · have q := ne h (by simp)
    rw [List.getElem?_set_ne q] at h ⊢
    exact e.bl k ds h
  · have q1 := ne h1 (by simp)
    have q2 := ne h2 (by simp)
    rw [List.getElem?_set_ne q1] at h1 h3
    rw [List.getElem?_set_ne q2] at h2 h4
    exact e.ne k l ds es p q n h1 h2 h3 h4
/-- [f x y for x in xs for y in ys x] -/
theorem j_lc2 {ι κ : Type} {wi wi1 : TI} {i j : Nat} (is : List ι) (c : ι → PyData) (js : ι → List κ) (c1 : ι → κ → PyData) (f : ι → κ → PyData) (n1 : Nat) (hij : i ≠ j) (hl : i < Γ.length) (hl2 : j < Γ.length) (hi : JI M K Γ wi (is.map fun x => D K (c x))) (hn : ∀ x ∈ is, (js x).length ≤ n1) (hz : is.length * n1 < sizeLine)
    (hi1 : ∀ x ∈ is, JI M K ((Γ.set j .no).set i (.is (D K (c x)))) wi1 ((js x).map fun y => D K (c1 x y))) (hs : ∀ x ∈ is, ∀ y ∈ js x, JE M K (((Γ.set j .no).set i (.is (D K (c x)))).set j (.is (D K (c1 x y)))) te (D K (f x y))) :
    JE M K Γ (tLc2 wi (gName i) tYes wi1 (gName j) tYes te [i, j] [j]) (D K (.list (is.flatMap fun x => (js x).map (f x)))) := fun σ O G ev =>
  ev_lc2 is c js c1 f n1 hij (hi _ _ _ ev) hn hz (fun x hx v G1 s r => hi1 x hx _ _ _ (((ev.up s).drop hl2).set (R := D K (c x)) (by rw [List.length_set]; exact hl) r))
    fun x hx v G1 s r y hy u G2 s2 r2 => hs x hx y hy _ _ _ ((((((ev.up s).drop hl2).set (R := D K (c x)) (by rw [List.length_set]; exact hl) r)).up s2).set (R := D K (c1 x y)) (by rw [List.length_set, List.length_set]; exact hl2) r2)
/-- [e for x in xs], the items not known beforehand: each is one of those that S takes -/
theorem ev_lcX {ι : Type} {wi : TI} {i : Nat} (is : List ι) (c : ι → PyData) (S : PyData → Prop) (hi : EvI M O wi σ G (is.map fun x => D K (c x))) (hz : is.length < sizeLine)
    (hs : ∀ x ∈ is, ∀ (v : V) (G1 : Hp), Same G G1 → De K G1 v (c x) → Ev M O te (σ.set i (some v)) G1 (REx S (D K))) :
    Ev M O (tLc wi (gName i) tYes te [i]) σ G (REx (fun es : List PyData => es.length = is.length ∧ ∀ e ∈ es, S e) fun es => D K (.list es)) := fun G1 H1 s1 s2 o Q k =>
  hi G1 H1 s1 s2 o _ fun J G2 H2 gg W Dd nD => by
    have s12 := s1.trans gg.g
    have o2 := o.gr gg
    have nA : ¬ M.ad Dd := Am.fresh o2.i nD
    refine ⟨fun a m H => m + a = is.length ∧ ∃ (Gi : Hp) (acc : List V) (es : List PyData), Gr M G2 H2 Gi H ∧ Gi Dd = none ∧ H Dd = some (.lst acc) ∧ es.length = a ∧ (∀ e ∈ es, S e) ∧ DeAll K Gi acc es, ⟨is.length, rfl, G2, [], [], Gr.own gg.s nD, gg.s.free nD, upd_same, rfl, (fun e h => absurd h List.not_mem_nil), .nil⟩, fun a m H ⟨e, Gi, acc, es, gi, nG, hD, le, hS, da⟩ => ?_⟩
    by_cases hi' : a < is.length
    · have hx : is[a]? = some is[a] := List.getElem?_eq_getElem hi'
      have hm := List.getElem_mem hi'
      obtain ⟨go, yl⟩ := W.1 a (D K (c is[a])) Gi H (by rw [List.getElem?_map, hx]; rfl) gi.g gi.s (gi.i o2.i) (o2.gr gi).f
      refine .inr ⟨go, fun H' => ∃ (Gi : Hp) (acc : List V) (es : List PyData), Gr M G2 H2 Gi H' ∧ Gi Dd = none ∧ H' Dd = some (.lst acc) ∧ es.length = a + 1 ∧ (∀ e ∈ es, S e) ∧ DeAll K Gi acc es, fun H' q => ⟨is.length - (a + 1), by omega, by omega, q⟩, fun x H' y => ?_⟩
      obtain ⟨G3, g3, rx⟩ := yl x H' y
      have o3 := (o2.gr gi).gr g3
      have s3' := (s12.trans gi.g).trans g3.g
      have ew : (wipe σ [i]).set i (some x) = σ.set i (some x) := by show (σ.set i none).set i (some x) = _; rw [List.set_set]
      show wipe ((wipe σ [i]).set i (some x)) [i] = wipe σ [i] ∧ _
      rw [ew]
      refine ⟨by show (σ.set i (some x)).set i none = σ.set i none; rw [List.set_set], ?_⟩
      unfold tYes
      refine iteT ?_
      refine hs _ hm x G3 s3' rx G3 H' (Same.refl _) g3.s o3 _ fun v5 G5 H5 g5 ⟨e5, hS5, r5⟩ => ?_
      have gE := g3.trans g5
      have gF := gi.trans gE
      have nG5 := gE.n _ nG (fun z => by rw [hD] at z; cases z)
      have zl : acc.length < sizeLine := by have := da.length; omega
      refine ⟨acc, gE.h _ _ nA hD, zl, G5, acc ++ [v5], es ++ [e5], ⟨gF.g, fun b u z q => ?_, same_mut gE.s nG5, gF.n, fun i => Am.upd (gF.i i) nA (fun u e => by rw [gE.h _ _ nA hD] at e; cases e; rfl), fun a z => ?_⟩, nG5, upd_same, by rw [List.length_append, le]; rfl, fun e he => ?_, (da.up gE.g).append (.cons r5 .nil)⟩
      · rw [upd_ne (ne_of_none q nD)]
        exact gF.h _ _ z q
      · by_cases q : a = Dd
        · subst q; exact nD
        · rw [upd_ne q] at z; exact gF.k _ z
      · rcases List.mem_append.mp he with h | h
        · exact hS _ h
        · rw [List.mem_singleton.mp h]; exact hS5
    · obtain rfl : a = is.length := by omega
      refine .inl ⟨by have := W.2 H (gi.g.trans gi.s) (gi.i o2.i); rw [List.length_map] at this; exact this, ?_⟩
      have s3 : Same G2 (upd Gi Dd (.lst acc)) := gi.g.trans (same_fresh nG)
      have gF := gg.trans gi
      refine k _ (upd Gi Dd (.lst acc)) _ ⟨gg.g.trans s3, gF.h, fun b u q => ?_, fun a e1 e2 => ?_, gF.i, gF.k⟩ ⟨es, ⟨le, hS⟩, .lst upd_same (da.up (same_fresh nG))⟩
      · by_cases hb : b = Dd
        · subst hb
          rw [upd_same] at q
          rw [hD]
          exact q
        · rw [upd_ne hb] at q
          exact gi.s _ _ q
      · have h3 := (gg.n a e1 e2)
        have h4 : H2 a ≠ none := fun z => e2 (gg.k _ z)
        rw [upd_ne (fun z => h4 (by rw [z]; exact nD))]
        exact gi.n a h3 h4
theorem j_lcX {ι : Type} {wi : TI} {i : Nat} (is : List ι) (c : ι → PyData) (S : PyData → Prop) (hl : i < Γ.length) (hi : JI M K Γ wi (is.map fun x => D K (c x))) (hz : is.length < sizeLine) (hs : ∀ x ∈ is, JE M K (Γ.set i (.is (D K (c x)))) te (REx S (D K))) :
    JE M K Γ (tLc wi (gName i) tYes te [i]) (REx (fun es : List PyData => es.length = is.length ∧ ∀ e ∈ es, S e) fun es => D K (.list es)) := fun σ O G ev => ev_lcX is c S (hi _ _ _ ev) hz fun x hx v G1 s r => hs x hx _ _ _ ((ev.up s).set (R := D K (c x)) hl r)
end
end Own

set_option linter.unusedVariables false
namespace Own
open PySem L2 ClX PySem.HandSPX
theorem un65 {k : Nat} {A : Around} (r : Room k A) : A.units + 65 < cLine := by have := r.un; omega
/-! x in a tuple of data -/
def rInTD (K : PySem.W.Frag) : R2 := fun x y H Q => ∃ d ds, Dp K H x d ∧ Dp K H y (.tuple ds) ∧ SeqAt.shaped d = true ∧ SeqAt.shaped (.tuple ds) = true ∧ Q (.bl (ds.any fun z => PyData.eqv z d)) H
theorem op_inTD {X : Cx} (hu : X.A.units + 65 < cLine) : OpR X (compareOp .In) (rInTD X.K) := fun pins s σ H x y v u Q I rx ry ⟨d, ds, hd, he, sd, se, q⟩ =>
  let ⟨as, r1⟩ := Dp.reads I d x v hd rx
  let ⟨bs, r2⟩ := Dp.reads I (.tuple ds) y u he ry
  SeqAt.in_tuple_reads r2 r1 (SeqAt.canLay_of_shaped se) (SeqAt.canLay_of_shaped sd) (PyProof.Rows.room_in_shaped sd hu) ⟨.bl _, H, I, rfl, q⟩
section
variable {M : Am} {O : Bu} {K : PySem.W.Frag} {σ : L2.St} {G : Hp} {R Ra Rb : Rp} {te ta tb tc tk tv : TE} {tA tB' tt : TT} {t tr : TA} {Γ : Ctx} {P : Ctx → Prop} {ts u w' : TS}
theorem j_inD {d : PyData} {ds : List PyData} (ha : JE M K Γ ta (D K d)) (hb : JE M K Γ tb (D K (.tuple ds))) (sd : SeqAt.shaped d = true) (se : SeqAt.shaped (.tuple ds) = true) : JE M K Γ (tOp (rInTD K) ta tb) (D K (.bool (ds.any fun z => PyData.eqv z d))) := fun σ O G ev =>
  ev2 (ha σ O G ev) (hb σ O G ev) fun x y G1 H1 Q _ s _ rx ry k => ⟨d, ds, De.dp (De.up s rx), De.dp (De.up s ry), sd, se, k _ _ _ (Gr.refl s) (.bl _)⟩
theorem j_isi {d : PyData} {T : String} {b : Bool} (ha : JE M K Γ ta (D K d)) (hi : ∀ (H : Hp) (v : V), Dp K H v d → ∃ t u : Value, ClsV (.ty T) u ∧ TyX K H v t ∧ PySem.W.kitOne K t u = some b) : JE M K Γ (tCB (rIsi K) (tCons ta (tCons (tC (.ty T)) tNil))) (D K (.bool b)) := fun σ O G ev G1 H1 s1 s2 o Q k =>
  ha σ O G ev G1 H1 s1 s2 o _ fun v G2 H2 g r => by
    obtain ⟨tv, uv, h1, h2, h3⟩ := hi H2 v (De.dp (De.up g.s r))
    exact ⟨v, .ty T, tv, uv, b, rfl, h1, h2, h3, k _ _ _ g (.bl _)⟩
theorem j_KT {tH : Addr} {xs : List V} {ds : List PyData} (h : KT K tH xs) (q : ∀ G, DeAll K G xs ds) : JE M K Γ (tC (.ref tH)) (D K (.tuple ds)) := j_c fun G => .tup (.inr h) (q G)
end
end Own

set_option linter.unusedVariables false
namespace Own
open PySem L2 ClX PySem.HandSPX
/-! ### what fits -/
abbrev s_fits_pair : Stmt := topT 42
abbrev N_fits_pair : List Str := ["last", "word", "value"]
abbrev s_fits : Stmt := topT 41
abbrev N_fits : List Str := ["last", "value"]
abbrev s_is_offer : Stmt := topT 58
abbrev N_is_offer : List Str := ["plant", "value"]
def emptyS : List Str := ["blank", "none"]
def strangeS : List Str := ["first", "none"]
def pauseS : List Str := ["clear", "keep"]
def seW : List Str := ["scan", "eye"]
def wIn (ws : List Str) (d : PyData) : Bool := (ws.map PyData.str).any fun z => PyData.eqv z d
def fitsP (n : Int) (w v : PyData) : Bool :=
  if wIn seW w = true then numB v 1 (n - 1) else if PyData.eqv w (.str "seek") = true then numB v 0 3 else if PyData.eqv w (.str "stretch") = true then isNB v || numB v 1 12 else
  if PyData.eqv w (.str "empty") = true then wIn emptyS v else if PyData.eqv w (.str "strange") = true then wIn strangeS v else PyData.eqv w (.str "pause") && wIn pauseS v
def fitsD (n : Int) : PyData → Bool
  | .tuple [a, b, c] => PyData.eqv a (.str "room") && (numB b 1 n && numB c 1 4)
  | .tuple [a, b] => fitsP n a b
  | _ => false
def okD (d : PyData) : Prop := SeqAt.shaped d = true ∧ ∀ ds, d = .tuple ds → ∀ x ∈ ds, SeqAt.shaped x = true
abbrev spFp (K : PySem.W.Frag) : Sp := spF (fun x : Int × PyData × PyData => [D K (.int x.1), D K x.2.1, D K x.2.2]) (fun x => D K (.bool (fitsP x.1 x.2.1 x.2.2))) (fun x => SeqAt.shaped x.2.1 = true ∧ SeqAt.shaped x.2.2 = true)
abbrev spFi (K : PySem.W.Frag) : Sp := spF (fun x : Int × PyData => [D K (.int x.1), D K x.2]) (fun x => D K (.bool (fitsD x.1 x.2))) (fun x => okD x.2)
abbrev spIsO (K : PySem.W.Frag) (CP CL CT : Addr) : Sp := spF (fun x : LnD × Plan × PyData => [RPlant K CP CL CT x.1 x.2.1, D K x.2.2]) (fun x => D K (.bool (fitsD (x.1.belts.length : Nat) x.2.2))) (fun x => okD x.2.2)
theorem gives_num {K : PySem.W.Frag} {d : PyData} {lo hi : Int} : Gives (spNumD K) [D K d, D K (.int lo), D K (.int hi)] (D K (.bool (numB d lo hi))) := fun vs G Q r k => by
  obtain ⟨v, _, rfl, r1, _, _, rfl, r2, _, _, rfl, r3, rfl⟩ := r
  obtain rfl := D.int r2
  obtain rfl := D.int r3
  exact ⟨v, d, lo, hi, rfl, De.dp r1, k _ _ (Same.refl _) (.bl _)⟩
theorem gives_last {K : PySem.W.Frag} {CL : Addr} {l : LnD} : Gives (spLenF K CL "_belts") [RLine K CL l] (D K (.int (l.belts.length : Nat))) := fun vs G Q r k => by
  obtain ⟨v, rfl, a, rfl, ⟨d, t, tS, tP, tW, h1, h2, h3, h4, h5⟩, ok⟩ := rall1 r
  refine ⟨a, d, _, t, _, rfl, h1, rfl, h2, ?_⟩
  rw [List.length_map]
  exact k _ _ (Same.refl _) (.int _)
section
variable {P : Program} {w : World} {K : PySem.W.Frag} {mg : Str → Option Value} {base : Heap} {CP CL CT tE tS tP fN fP fF pL gL pX gX : Addr} {gN gP gF dL dX : FuncData}
theorem j_cval {M : Am} {Γ : Ctx} {C : Addr} {mc u : Value} {f : Str} {v : V} {d : PyData} (cr : CRead K C mc) (cv : CVal K C mc f v u) (h : ∀ G, De K G v d) : JE M K Γ (tCVal K (tC (.ref C)) f) (D K d) := fun σ O G ev G1 H1 s1 s2 o Q k => ⟨C, mc, v, u, rfl, cr, cv, k v G1 H1 (Gr.refl s2) (h G1)⟩
theorem rob3 {A B C : Rp} (a : Rob A) (b : Rob B) (c : Rob C) : ∀ R ∈ [A, B, C], Rob R := fun R h => by
  simp only [List.mem_cons, List.not_mem_nil, or_false] at h
  rcases h with rfl | rfl | rfl
  · exact a
  · exact b
  · exact c
theorem j_numB {M : Am} {Γ : Ctx} {E : XK} {ta tb tc : TE} {d : PyData} {lo hi : Int} (ha : JE M K Γ ta (D K d)) (hb : JE M K Γ tb (D K (.int lo))) (hc : JE M K Γ tc (D K (.int hi))) : JE M K Γ (tCall (spFr (spNumD K)) [] E (tCons ta (tCons tb (tCons tc tNil)))) (D K (.bool (numB d lo hi))) :=
  j_fr gives_num (ja_cons ha (ja_cons hb (ja_cons hc ja_nil))) (rob3 rob_D rob_D rob_D) rob_D
theorem j_last {M : Am} {Γ : Ctx} {te : TE} {E E' : XK} {l : LnD} {pl : Plan} (h : JE M K Γ te (RPlant K CP CL CT l pl)) : JE M K Γ (tProp CL (spFr (spLenF K CL "_belts")) [] E (tProp CP (spFr (spGet CP "_line")) [] E' te)) (D K (.int (l.belts.length : Nat))) :=
  j_frP gives_last (j_frP gives_line h rob_plant rob_line fun _ _ => plant_ins) rob_line rob_D fun _ _ => line_ins
theorem sc_fits_pair : FnScope N_fits_pair N_fits_pair (defScope s_fits_pair) := ⟨rfl, rfl, rfl, by decide +kernel, rfl, by decide +kernel, by decide +kernel⟩
theorem ok_fits_pair {f : Addr} {fd : FuncData} (F : Fun K "fits_pair" "fits_pair" s_fits_pair f fd) {k1 k2 : Tok} (mSk : mg "MOST_SEEK" = some (.int 3 k1)) (mSt : mg "MOST_STRETCH" = some (.int 12 k2)) (mE : mg "EMPTY_WORDS" = some (.ref tE)) (kE : KT K tE (emptyS.map V.str)) (mS : mg "STRANGE_WORDS" = some (.ref tS)) (kS : KT K tS (strangeS.map V.str)) (mP : mg "PAUSE_WORDS" = some (.ref tP)) (kP : KT K tP (pauseS.map V.str))
    (Nu : DefF P w K mg base "is_number" 1 ["value", "least", "most"] (spNumD K) fN gN) : FnOk P w K mg base CX0 2 f fd N_fits_pair (spFp K) := by
  refine F.ok sc_fits_pair (fun vs H Q E h => spF_len h fun _ => rfl) (fun cdv A outer s H vs Q E hr h => ?_)
  have nd := sc_fits_pair.nd
  have hr1 := hr.mono (j := 1) (by decide)
  refine ⟨_, PSs.nox (pss_cons (ps_if (pt_cmpR (op_inTD (un65 hr)) (pv 1) (pe_tup (pa_cons pe_str (pa_cons pe_str pa_nil))) (by rfl)) (pss_one (ps_ret (pe_call (fn_fr Nu.G) hr1 rfl Nu.m Nu.kp Nu.b .nil pass0 (pa_cons (pv 2) (pa_cons pe_int (pa_cons (pe_op op_sub (pv 0) pe_int) pa_nil)))))) pss_nil)
      (pss_cons (ps_if (pt_cmpR (op_eqD hr.units) (pv 1) pe_str (nomark _)) (pss_one (ps_ret (pe_call (fn_fr Nu.G) hr1 rfl Nu.m Nu.kp Nu.b .nil pass0 (pa_cons (pv 2) (pa_cons pe_int (pa_cons (pe_glob (v := .int 3) (by rfl) mSk ⟨_, rfl⟩) pa_nil)))))) pss_nil)
      (pss_cons (ps_if (pt_cmpR (op_eqD hr.units) (pv 1) pe_str (nomark _)) (pss_one (ps_ret (pe_or (pe_cmp (pc_isN (pv 2)) rfl) (pe_one (pe_call (fn_fr Nu.G) hr1 rfl Nu.m Nu.kp Nu.b .nil pass0 (pa_cons (pv 2) (pa_cons pe_int (pa_cons (pe_glob (v := .int 12) (by rfl) mSt ⟨_, rfl⟩) pa_nil)))))))) pss_nil)
      (pss_cons (ps_if (pt_cmpR (op_eqD hr.units) (pv 1) pe_str (nomark _)) (pss_one (ps_ret (pe_cmpR (op_inTD (un65 hr)) (pv 2) (pe_glob (v := .ref tE) (by rfl) mE rfl) (by rfl)))) pss_nil)
      (pss_cons (ps_if (pt_cmpR (op_eqD hr.units) (pv 1) pe_str (nomark _)) (pss_one (ps_ret (pe_cmpR (op_inTD (un65 hr)) (pv 2) (pe_glob (v := .ref tS) (by rfl) mS rfl) (by rfl)))) pss_nil)
      (pss_one (ps_ret (pe_and (pe_cmpR (op_eqD hr.units) (pv 1) pe_str (nomark _)) (pe_one (pe_cmpR (op_inTD (un65 hr)) (pv 2) (pe_glob (v := .ref tP) (by rfl) mP rfl) (by rfl))))))))))), js_def (K := K) (N := N_fits_pair) h (fun x => by show 3 ≤ 3; decide) fun ⟨n, a, b⟩ ⟨ha, hb⟩ => ?_⟩
  have key : ∀ {c : Bool} {x y z : PyData}, (c = true → x = z) → (c = false → y = z) → (if c = true then x else y) = z := fun {c x y z} h1 h2 => by
    cases c with
    | true => exact h1 rfl
    | false => exact h2 rfl
  have se : SeqAt.shaped (.tuple [.str "scan", .str "eye"]) = true := by decide +kernel
  have v1 := j_v (M := Am.no) (K := K) (Γ := [.is (D K (.int n)), .is (D K a), .is (D K b)]) (i := 1) (R := D K a) rfl
  have v2 := j_v (M := Am.no) (K := K) (Γ := [.is (D K (.int n)), .is (D K a), .is (D K b)]) (i := 2) (R := D K b) rfl
  unfold fitsP
  refine js_if (jt_test (j_inD v1 (j_tup (jl_cons (j_str _) (jl_cons (j_str _) jl_nil)) (by show 2 ≤ sizeLine; decide)) ha se)) (fun e => js_retS ((j_numB v2 (j_int 1) (j_sub (j_v rfl) (j_int 1))).eq ?_)) (fun e0 => JS.skip ?_)
  · exact congrArg PyData.bool (if_pos (show wIn seW a = true from e)).symm
  have e0 : ¬ wIn seW a = true := by rw [show wIn seW a = false from e0]; exact fun z => nomatch z
  rw [if_neg e0]
  refine js_if (jt_test (j_eqD v1 (j_str "seek") ha (by decide +kernel))) (fun e => js_retS ((j_numB v2 (j_int 0) (j_int 3)).eq ?_)) (fun e1 => JS.skip ?_)
  · exact congrArg PyData.bool (if_pos e).symm
  rw [if_neg (by rw [e1]; exact fun z => nomatch z)]
  refine js_if (jt_test (j_eqD v1 (j_str "stretch") ha (by decide +kernel))) (fun e => js_retS ((j_or (j_isN v2) (fun _ => j_numB v2 (j_int 1) (j_int 12))).eq ?_)) (fun e2 => JS.skip ?_)
  · exact congrArg PyData.bool (if_pos e).symm
  rw [if_neg (by rw [e2]; exact fun z => nomatch z)]
  refine js_if (jt_test (j_eqD v1 (j_str "empty") ha (by decide +kernel))) (fun e => js_retS ((j_inD v2 (j_KT kE (fun G => DeAll.of_strs emptyS)) hb (show SeqAt.shaped (.tuple (emptyS.map PyData.str)) = true by decide +kernel)).eq ?_)) (fun e3 => JS.skip ?_)
  · exact congrArg PyData.bool (if_pos e).symm
  rw [if_neg (by rw [e3]; exact fun z => nomatch z)]
  refine js_if (jt_test (j_eqD v1 (j_str "strange") ha (by decide +kernel))) (fun e => js_retS ((j_inD v2 (j_KT kS (fun G => DeAll.of_strs strangeS)) hb (show SeqAt.shaped (.tuple (strangeS.map PyData.str)) = true by decide +kernel)).eq ?_)) (fun e4 => JS.skip ?_)
  · exact congrArg PyData.bool (if_pos e).symm
  rw [if_neg (by rw [e4]; exact fun z => nomatch z)]
  exact js_ret (j_and (j_eqD v1 (j_str "pause") ha (by decide +kernel)) fun _ => j_inD v2 (j_KT kP (fun G => DeAll.of_strs pauseS)) hb (show SeqAt.shaped (.tuple (pauseS.map PyData.str)) = true by decide +kernel))
theorem sc_fits : FnScope N_fits N_fits (defScope s_fits) := ⟨rfl, rfl, rfl, by decide +kernel, rfl, by decide +kernel, by decide +kernel⟩
theorem ok_fits {f : Addr} {fd : FuncData} (F : Fun K "fits" "fits" s_fits f fd) (TT : TrF K mg CT) (zI : mg "isinstance" = none) (zT : mg "tuple" = none) (zL : mg "len" = none)
    (Nu : DefF P w K mg base "is_number" 1 ["value", "least", "most"] (spNumD K) fN gN) (Fp : DefF P w K mg base "fits_pair" 2 N_fits_pair (spFp K) fP gP) : FnOk P w K mg base CX0 3 f fd N_fits (spFi K) := by
  refine F.ok sc_fits (fun vs H Q E h => spF_len h fun _ => rfl) (fun cdv A outer s H vs Q E hr h => ?_)
  have nd := sc_fits.nd
  have hr1 := hr.mono (j := 1) (by decide)
  have hr2 := hr.mono (j := 2) (by decide)
  obtain ⟨mc, tk, cr, cv⟩ := TT.most
  refine ⟨_, PSs.nox (pss_cons (ps_if (pt_not (pt_val (pe_callB call_isi (by rfl) zI (by decide +kernel) (pa_cons (pv 1) (pa_cons (pe_bltn (v := .ty "tuple") (by rfl) zT (by decide +kernel) rfl) pa_nil))))) (pss_one (ps_ret pe_bl)) pss_nil)
      (pss_cons (ps_if (pt_cmpR op_eq (pe_callB call_len_seq (by rfl) zL PySem.boot_len (pa_cons (pv 1) pa_nil)) pe_int (nomark _)) (pss_one (ps_ret (pe_and (pe_cmpR (op_eqD hr.units) (pe_ix ix_tup (pv 1) pe_int (fun _ _ => rfl)) pe_str (nomark _)) (pe_and (pe_call (fn_fr Nu.G) hr1 rfl Nu.m Nu.kp Nu.b .nil pass0 (pa_cons (pe_ix ix_tup (pv 1) pe_int (fun _ _ => rfl)) (pa_cons pe_int (pa_cons (pv 0) pa_nil)))) (pe_one (pe_call (fn_fr Nu.G) hr1 rfl Nu.m Nu.kp Nu.b .nil pass0 (pa_cons (pe_ix ix_tup (pv 1) pe_int (fun _ _ => rfl)) (pa_cons pe_int (pa_cons (pe_cval (pe_glob (v := .ref CT) (by rfl) TT.at_ rfl)) pa_nil))))))))) pss_nil)
      (pss_one (ps_ret (pe_and (pe_cmpR op_eq (pe_callB call_len_seq (by rfl) zL PySem.boot_len (pa_cons (pv 1) pa_nil)) pe_int (nomark _)) (pe_one (pe_call Fp.G hr2 rfl Fp.m Fp.kp Fp.b .nil pass0 (pa_cons (pv 0) (pa_cons (pe_ix ix_tup (pv 1) pe_int (fun _ _ => rfl)) (pa_cons (pe_ix ix_tup (pv 1) pe_int (fun _ _ => rfl)) pa_nil)))))))))), js_def (K := K) (N := N_fits) h (fun x => by show 2 ≤ 2; decide) fun ⟨n, d⟩ hd => ?_⟩
  have v1 := j_v (M := Am.no) (K := K) (Γ := [.is (D K (.int n)), .is (D K d)]) (i := 1) (R := D K d) rfl
  have v0 := j_v (M := Am.no) (K := K) (Γ := [.is (D K (.int n)), .is (D K d)]) (i := 0) (R := D K (.int n)) rfl
  refine js_if (jt_not (jt_val (j_isi (T := "tuple") (b := isT d) v1 fun H v hv => isi_tup hv))) (fun e => js_retS ((j_bl _).eq ?_)) (fun e => JS.skip ?_)
  · cases d with
    | tuple ds => exact (Bool.false_ne_true e).elim
    | _ => rfl
  cases d with
  | tuple ds =>
    have hs := hd.2 ds rfl
    refine js_if (jt_test (j_eqI (j_lenT v1) (j_int 3))) (fun e => ?_) (fun e3 => JS.skip ?_)
    · have e : (ds.length : Int) = 3 := of_decide_eq_true e
      obtain ⟨a, b, c, rfl⟩ : ∃ a b c, ds = [a, b, c] := by
        match ds, e with
        | [a, b, c], _ => exact ⟨a, b, c, rfl⟩
        | [], e => exact absurd e (by decide)
        | [_], e => exact absurd e (by simp)
        | [_, _], e => exact absurd e (by simp)
        | _ :: _ :: _ :: _ :: r, e => exact absurd e (by simp only [List.length_cons]; omega)
      exact js_retS (j_and (j_eqD (j_ixT v1 (j_int 0) rfl) (j_str _) (hs a (by simp)) (by decide +kernel)) fun _ => j_and (j_numB (j_ixT v1 (j_int 1) rfl) (j_int 1) v0) fun _ => j_numB (j_ixT v1 (j_int 2) rfl) (j_int 1) (j_cval cr cv fun G => .int _))
    have e3 : ds.length ≠ 3 := fun z => of_decide_eq_false e3 (by rw [z]; rfl)
    by_cases e2 : ds.length = 2
    · obtain ⟨a, b, rfl⟩ : ∃ a b, ds = [a, b] := by
        match ds, e2 with
        | [a, b], _ => exact ⟨a, b, rfl⟩
      exact js_ret ((j_and (b := fitsP n a b) (j_eqI (j_lenT v1) (j_int 2)) fun _ => j_call (n, a, b) (ja_cons v0 (ja_cons (j_ixT v1 (j_int 0) rfl) (ja_cons (j_ixT v1 (j_int 1) rfl) ja_nil))) ⟨hs a (by simp), hs b (by simp)⟩).eq rfl)
    · have hn : decide ((ds.length : Int) = 2) = false := decide_eq_false fun z => e2 (by omega)
      refine js_ret ((j_and (b := false) (j_eqI (j_lenT v1) (j_int 2)) fun z => ?_).eq ?_)
      · rw [hn] at z
        cases z
      · rw [hn]
        match ds, e3, e2 with
        | [], _, _ => rfl
        | [_], _, _ => rfl
        | [_, _], _, e => exact absurd rfl e
        | [_, _, _], e, _ => exact absurd rfl e
        | _ :: _ :: _ :: _ :: _, _, _ => rfl
  | _ => exact (Bool.false_ne_true e.symm).elim
theorem sc_is_offer : FnScope N_is_offer N_is_offer (defScope s_is_offer) := ⟨rfl, rfl, rfl, by decide +kernel, rfl, by decide +kernel, by decide +kernel⟩
theorem ok_is_offer {f : Addr} {fd : FuncData} (F : Fun K "is_offer" "is_offer" s_is_offer f fd) (T : PlF K mg CP) (TL : LnF K mg CL) (Fi : DefF P w K mg base "fits" 3 N_fits (spFi K) fF gF) (Pl : PropF P w K mg base CP "line" pL gL (spGet CP "_line") dL) (La : PropF P w K mg base CL "last" pX gX (spLenF K CL "_belts") dX) : FnOk P w K mg base CX0 4 f fd N_is_offer (spIsO K CP CL CT) := by
  refine F.ok sc_is_offer (fun vs H Q E h => spF_len h fun _ => rfl) (fun cdv A outer s H vs Q E hr h => ?_)
  have nd := sc_is_offer.nd
  have hr1 := hr.mono (j := 2) (by decide)
  have hr3 := hr.mono (j := 3) (by decide)
  refine ⟨_, PSs.nox (pss_one (ps_ret (pe_call Fi.G hr3 rfl Fi.m Fi.kp Fi.b .nil pass0 (pa_cons (pe_prop (pe_prop (pv 0) T.cl Pl.hp (fn_fr Pl.G) hr1 Pl.b .nil pass0 rfl) TL.cl La.hp (fn_fr La.G) hr1 La.b .nil pass0 rfl) (pa_cons (pv 1) pa_nil))))), js_def (K := K) (N := N_is_offer) h (fun x => by show 2 ≤ 2; decide) fun ⟨l, pl, d⟩ hd => ?_⟩
  exact js_ret (j_call (((l.belts.length : Nat) : Int), d) (ja_cons (j_last (j_v rfl)) (ja_cons (j_v rfl) ja_nil)) hd)
end
end Own

set_option linter.unusedVariables false
namespace Own
open PySem L2 ClX PySem.HandSPX
abbrev sTC : Stmt := sTG 7
def trackL : List Str := ["rooms", "seek", "empty", "strange", "pause"]
/-- Tracker.changed, good values -/
def spChT (K : PySem.W.Frag) (C : Addr) : Sp := fun vs H Q _ => ∃ (a d : Addr) (pl pl' : Plan) (l : List (Str × V)), vs = [.ref a, .ref d] ∧ TrP K C H a pl ∧ H d = some (.dK (kwV l)) ∧ badKey l trackL = none ∧ pl'.TrOk ∧
  ((pl'.rooms = pl.rooms ∧ ∀ v, fv l "rooms" v = v) ∨ ∃ B, (∀ v, fv l "rooms" v = .ref B) ∧ (SqT K H B (pl'.rooms.map V.int) ∨ SqL K H B (pl'.rooms.map V.int))) ∧
  fv l "seek" (.int pl.seek) = .int pl'.seek ∧ fv l "empty" (.str pl.empty) = .str pl'.empty ∧ fv l "strange" (.str pl.strange) = .str pl'.strange ∧ fv l "pause" (.str pl.pause) = .str pl'.pause ∧
  ∀ (x : Addr) (H' : Hp), H x = none → TrP K C H' x pl' → Same H H' → Q (.ref x) H'
/-- Tracker.changed as it stands behind the top -/
structure TrCh (K : PySem.W.Frag) (f : Addr) : Prop where
  ex : ∃ (oc : Value) (od : Option Addr) (kV doc pm : Value) (an : Option Addr) (cdv ct : Value) (osl : Array (Option Value)), K.lookup f = some ⟨oc, od, .func (PySem.W.fnOf "changed" "Tracker.changed" (defArgs sTC) (defBody sTC) (defScope sTC) .none kV doc pm an cdv ct), osl⟩ ∧ PySem.W.codeIn K cdv "Tracker.changed" = true
  kp : PySem.W.keepIn K (.ref f) = true
section
variable {P : Program} {w : World} {K : PySem.W.Frag} {mg : Str → Option Value} {base : Heap}
abbrev NTc : List Str := ["self", "fields", "rooms", "seek", "empty", "strange", "pause"]
theorem scTC : FnScope NTc ["self", "fields"] (defScope sTC) := ⟨rfl, rfl, rfl, by decide +kernel, rfl, by decide +kernel, by decide +kernel⟩
structure TcF (P : Program) (w : World) (K : PySem.W.Frag) (mg : Str → Option Value) (base : Heap) (fI C : Addr) (cF : Addr) : Prop where
  T : TrF K mg C
  M : Mk K C fI
  G : FnSt P w K mg base (L2.CX P w) 4 fI ["seek", "empty", "strange", "pause"] (fun zs => mix1 zs []) (spTrI K C)
  F : ∃ f fd, FnOk P w K mg base (L2.CX P w) 6 f fd ["fields", "names"] (spCkFX K cF) ∧ mg "check_fields" = some (.ref f) ∧ PySem.W.keepIn K (.ref f) = true ∧ Binds K fd ["fields", "names"] []
  wf : ∃ t, mg "TRACKER_FIELDS" = some (.ref t) ∧ KT K t (trackL.map V.str)
theorem body_chT {f fI C cF : Addr} {qual : Str} {cdv : Value} {A : Around} {outer : List PySem.Env} {s : Shared} {H : Hp} {vs : List V} {Q : VK} {E : XK} (ch : TcF P w K mg base fI C cF)
    (hr : Room 9 (A.deeper (PyProof.Rows.envOfC qual (defScope sTC) s.heap.objs.size f cdv))) (h : spChT K C vs H Q E) :
    ∃ t, PSs (cxOf (L2.CX P w) P w K mg base NTc qual (defScope sTC) f cdv A outer s H E) (defBody sTC) t ∧ t { nx := fun _ H' => Q .non H', rt := Q } (start NTc vs) H := by
  obtain ⟨a, d, pl, pl', l, rfl, ⟨dx, t, ha, hT, tk0⟩, hd, hb, tk, hR, hS, hE, hG, hP, k⟩ := h
  obtain ⟨fF, gF, GF, mF, kF, bF⟩ := ch.F
  obtain ⟨tf, mf, kf⟩ := ch.wf
  have T := ch.T
  have nd := scTC.nd
  have hu : (A.deeper (PyProof.Rows.envOfC qual (defScope sTC) s.heap.objs.size f cdv)).units + 1 < cLine := by have := hr.units; omega
  have px : Passes (L2.CX P w) (cxOf (L2.CX P w) P w K mg base NTc qual (defScope sTC) f cdv A outer s H E) E := passes_call (takes_of rfl rfl rfl rfl) (fun _ _ _ _ h => h)
  refine ⟨_, pss_cons (ps_expr (pe_call GF (hr.mono (by decide)) rfl mF kF bF .nil px (pa_cons (pv 1) (pa_cons (pe_glob (v := .ref tf) (by rfl) mf rfl) pa_nil))))
    (pss_cons (ps_set (i := 2) nd rfl (Or.inl rfl) (pe_dget2 hu (pv 1) pe_str (pe_fld (pv 0) rfl) ⟨rfl, rfl, rfl, rfl⟩))
    (pss_cons (ps_set (i := 3) nd rfl (Or.inl rfl) (pe_dget2 hu (pv 1) pe_str (pe_fld (pv 0) rfl) ⟨rfl, rfl, rfl, rfl⟩))
    (pss_cons (ps_set (i := 4) nd rfl (Or.inl rfl) (pe_dget2 hu (pv 1) pe_str (pe_fld (pv 0) rfl) ⟨rfl, rfl, rfl, rfl⟩))
    (pss_cons (ps_set (i := 5) nd rfl (Or.inl rfl) (pe_dget2 hu (pv 1) pe_str (pe_fld (pv 0) rfl) ⟨rfl, rfl, rfl, rfl⟩))
    (pss_cons (ps_set (i := 6) nd rfl (Or.inl rfl) (pe_dget2 hu (pv 1) pe_str (pe_fld (pv 0) rfl) ⟨rfl, rfl, rfl, rfl⟩))
    (pss_one (ps_ret (pe_mkSs ch.M ch.G (hr.mono (by decide)) (by rfl) T.at_ px (pv 2) (pk_cons (pv 3) (pk_cons (pv 4) (pk_cons (pv 5) (pk_cons (pv 6) pk_nil)))))))))))), ?_⟩
  refine ⟨_, rfl, d, tf, l, trackL, rfl, hd, kf, fun _ => ?_, fun z hz => by rw [hb] at hz; cases hz⟩
  obtain ⟨B, eB, hB⟩ : ∃ B, fv l "rooms" (.ref t) = .ref B ∧ (SqT K H B (pl'.rooms.map V.int) ∨ SqL K H B (pl'.rooms.map V.int)) := by
    rcases hR with ⟨e, g⟩ | ⟨B, g, h⟩
    · exact ⟨t, g _, .inl (by rw [e]; exact hT)⟩
    · exact ⟨B, g _, h⟩
  refine ⟨_, rfl, d, rfl, .inl ⟨_, .inl hd⟩, _, rfl, a, C, dx, _, _, rfl, ha, T.cl, T.n1, rfl, _, DGet.k (k := Sum.inr "rooms") hd, ?_⟩
  refine ⟨_, rfl, d, rfl, .inl ⟨_, .inl hd⟩, _, rfl, a, C, dx, _, _, rfl, ha, T.cl, T.n2, rfl, _, DGet.k (k := Sum.inr "seek") hd, ?_⟩
  refine ⟨_, rfl, d, rfl, .inl ⟨_, .inl hd⟩, _, rfl, a, C, dx, _, _, rfl, ha, T.cl, T.n3, rfl, _, DGet.k (k := Sum.inr "empty") hd, ?_⟩
  refine ⟨_, rfl, d, rfl, .inl ⟨_, .inl hd⟩, _, rfl, a, C, dx, _, _, rfl, ha, T.cl, T.n4, rfl, _, DGet.k (k := Sum.inr "strange") hd, ?_⟩
  refine ⟨_, rfl, d, rfl, .inl ⟨_, .inl hd⟩, _, rfl, a, C, dx, _, _, rfl, ha, T.cl, T.n5, rfl, _, DGet.k (k := Sum.inr "pause") hd, ?_⟩
  refine ⟨_, rfl, _, rfl, _, rfl, _, rfl, _, rfl, B, pl'.rooms.map V.int, eB, hB, rfl, ?_⟩
  refine made_end rfl ?_ tk k
  show [fv l "seek" (.int pl.seek), fv l "empty" (.str pl.empty), fv l "strange" (.str pl.strange), fv l "pause" (.str pl.pause)] = _
  rw [hS, hE, hG, hP]
theorem tc_of {f fI C cF : Addr} {ks : List Str} (I : TrCh K f) (ch : TcF P w K mg base fI C cF) (hnd : ks.Nodup) (hsz : ks.length ≤ sizeLine)
    (hb : ∀ (kV doc pm : Value) (an : Option Addr) (cdv ct a : Value) (ws : List Value), ws.length = ks.length → bindArgs (PySem.W.fnOf "changed" "Tracker.changed" (defArgs sTC) (defBody sTC) (defScope sTC) .none kV doc pm an cdv ct) ⟨[a], ks.zip ws⟩ =
      (alloc ({ cls := .type "dict", data := .dict #[] } : Obj) : Sem Addr) >>= fun d => (forIn (ks.zip ws) PUnit.unit fun x _ => (nsSet d x.1 x.2 >>= fun _ => pure (ForInStep.yield PUnit.unit))) >>= fun _ => pure [(("self" : Str), a), (("fields" : Str), Value.ref d)]) :
    FnKw P w K mg base (L2.CX P w) 10 f ks (spChT K C) := by
  obtain ⟨oc, od, kV, doc, pm, an, cdv, ct, osl, lk, hcd⟩ := I.ex
  exact fn_kwo (p0 := "self") (pd := "fields") lk hcd scTC StX.cxUp hnd hsz (fun a ws l => hb kV doc pm an cdv ct a ws l)
    (fun A outer s H vs Q E hr h => body_chT ch hr h)
variable {f fI C cF : Addr}
theorem tc_rooms (I : TrCh K f) (ch : TcF P w K mg base fI C cF) : FnKw P w K mg base (L2.CX P w) 10 f ["rooms"] (spChT K C) := tc_of I ch (by decide +kernel) (by show 1 ≤ sizeLine; decide) (fun kV doc pm an cdv ct a ws l => match ws, l with | [_], _ => rfl)
theorem tc_word (I : TrCh K f) (ch : TcF P w K mg base fI C cF) : ∀ x ∈ (["seek", "empty", "strange", "pause"] : List Str), FnKw P w K mg base (L2.CX P w) 10 f [x] (spChT K C) := fun x hx => by
  simp only [List.mem_cons, List.not_mem_nil, or_false] at hx
  rcases hx with rfl | rfl | rfl | rfl <;> exact tc_of I ch (by decide +kernel) (by show 1 ≤ sizeLine; decide) (fun kV doc pm an cdv ct a ws l => match ws, l with | [_], _ => rfl)
end
end Own

set_option linter.unusedVariables false
namespace Own
open PySem L2 ClX PySem.HandSPX
/-! ### offers -/
inductive Off where
  | seek (n : Int)
  | empty (z : Str)
  | strange (z : Str)
  | pause (z : Str)
  | room (i p : Int)
  | stretch (n : Option Int)
  | scan (p : Int)
  | eye (p : Int)
def Off.vs : Off → List V
  | .seek n => [.str "seek", .int n]
  | .empty z => [.str "empty", .str z]
  | .strange z => [.str "strange", .str z]
  | .pause z => [.str "pause", .str z]
  | .room i p => [.str "room", .int i, .int p]
  | .stretch n => [.str "stretch", optV n]
  | .scan p => [.str "scan", .int p]
  | .eye p => [.str "eye", .int p]
def Off.ds : Off → List PyData
  | .seek n => [.str "seek", .int n]
  | .empty z => [.str "empty", .str z]
  | .strange z => [.str "strange", .str z]
  | .pause z => [.str "pause", .str z]
  | .room i p => [.str "room", .int i, .int p]
  | .stretch n => [.str "stretch", optDD n]
  | .scan p => [.str "scan", .int p]
  | .eye p => [.str "eye", .int p]
def Off.d (o : Off) : PyData := .tuple o.ds
/-- offers that fit a plant of k belts -/
def Off.ok (k : Nat) : Off → Prop
  | .seek n => 0 ≤ n ∧ n ≤ 3
  | .empty z => z = "blank" ∨ z = "none"
  | .strange z => z = "first" ∨ z = "none"
  | .pause z => z = "clear" ∨ z = "keep"
  | .room i p => 1 ≤ i ∧ i ≤ (k : Int) ∧ 1 ≤ p ∧ p ≤ 4
  | .stretch n => n = none ∨ ∃ m, n = some m ∧ 1 ≤ m ∧ m ≤ 12
  | .scan p => 1 ≤ p ∧ p < (k : Int)
  | .eye p => 1 ≤ p ∧ p < (k : Int)
def sortI (l : List Int) : List Int := l.mergeSort fun a b => decide (a ≤ b)
theorem sortI_perm (l : List Int) : (sortI l).Perm l := List.mergeSort_perm l _
theorem sortI_sorted (l : List Int) : (sortI l).Pairwise (· ≤ ·) := by
  have h := List.pairwise_mergeSort (le := fun a b : Int => decide (a ≤ b)) (fun a b c h1 h2 => by simp only [decide_eq_true_eq] at *; omega) (fun a b => by simp only [Bool.or_eq_true, decide_eq_true_eq]; omega) l
  exact h.imp fun q => by simpa using q
/-- the scans without a point -/
def outI (p : Int) (l : List Int) : List Int := l.filter fun x => !decide (x = p)
/-- the plan with what is offered -/
def Plan.off (pl : Plan) : Off → Plan
  | .seek n => { pl with seek := n }
  | .empty z => { pl with empty := z }
  | .strange z => { pl with strange := z }
  | .pause z => { pl with pause := z }
  | .room i p => { pl with rooms := pl.rooms.set (i - 1).toNat p }
  | .stretch n => { pl with stretch := n }
  | .scan p => { pl with scans := sortI (outI p pl.scans ++ [p]) }
  | .eye p => { pl with scans := outI p pl.scans }
/-- a plan of which a plant can be made -/
structure GoodP (pl : Plan) : Prop where
  ok : LnOk (pl.line pl.scans)
  tr : pl.TrOk
  so : pl.scans.Pairwise (· ≤ ·)
  rl : pl.rooms.length = pl.belts.length
theorem Off.belts (o : Off) (pl : Plan) : (pl.off o).belts = pl.belts := by cases o <;> rfl
theorem outI_sub (p : Int) (l : List Int) : (outI p l).Sublist l := List.filter_sublist
theorem outI_ne {p : Int} {l : List Int} {x : Int} (h : x ∈ outI p l) : x ∈ l ∧ x ≠ p := by
  obtain ⟨h1, h2⟩ := List.mem_filter.mp h
  exact ⟨h1, by simpa using h2⟩
theorem LnOk.scans {l : LnD} (ok : LnOk l) {ss : List Int} (n : ss.Nodup) (r : ∀ x ∈ ss, 1 ≤ x ∧ x < l.belts.length) : LnOk { l with scans := ss } := ⟨ok.n1, ok.n3, ok.bl, n, r, ok.m0, ok.m3, ok.a1, ok.a6, ok.ws, ok.st⟩
theorem scan_ok {pl : Plan} (g : GoodP pl) {p : Int} (h1 : 1 ≤ p) (h2 : p < (pl.belts.length : Int)) : LnOk { (pl.line pl.scans) with scans := outI p pl.scans ++ [p] } := by
  refine g.ok.scans ?_ fun x hx => ?_
  · refine List.nodup_append.mpr ⟨g.ok.sn.sublist (outI_sub p _), List.nodup_cons.mpr ⟨List.not_mem_nil, List.nodup_nil⟩, fun a ha b hb e => ?_⟩
    rw [List.mem_singleton.mp hb] at e
    exact (outI_ne ha).2 e
  · rcases List.mem_append.mp hx with hx | hx
    · exact g.ok.sr x (outI_ne hx).1
    · rw [List.mem_singleton.mp hx]
      exact ⟨h1, h2⟩
theorem GoodP.off {pl : Plan} (g : GoodP pl) {o : Off} (h : o.ok pl.belts.length) : GoodP (pl.off o) := by
  cases o with
  | seek n => exact ⟨g.ok, ⟨g.tr.n1, g.tr.n3, g.tr.rr, h.1, h.2, g.tr.e, g.tr.st, g.tr.p⟩, g.so, g.rl⟩
  | empty z => exact ⟨g.ok, ⟨g.tr.n1, g.tr.n3, g.tr.rr, g.tr.s0, g.tr.s3, (by show inV (.str z) emptyW = true; rcases h with rfl | rfl <;> decide +kernel), g.tr.st, g.tr.p⟩, g.so, g.rl⟩
  | strange z => exact ⟨g.ok, ⟨g.tr.n1, g.tr.n3, g.tr.rr, g.tr.s0, g.tr.s3, g.tr.e, (by show inV (.str z) strangeW = true; rcases h with rfl | rfl <;> decide +kernel), g.tr.p⟩, g.so, g.rl⟩
  | pause z => exact ⟨g.ok, ⟨g.tr.n1, g.tr.n3, g.tr.rr, g.tr.s0, g.tr.s3, g.tr.e, g.tr.st, (by show inV (.str z) pauseW = true; rcases h with rfl | rfl <;> decide +kernel)⟩, g.so, g.rl⟩
  | room i p =>
    obtain ⟨h1, h2, h3, h4⟩ := h
    have hl : (pl.rooms.set (i - 1).toNat p).length = pl.rooms.length := List.length_set
    refine ⟨g.ok, ⟨by show 1 ≤ (pl.rooms.set (i - 1).toNat p).length; rw [hl]; exact g.tr.n1, by show (pl.rooms.set (i - 1).toNat p).length ≤ 3; rw [hl]; exact g.tr.n3, fun r hr => ?_, g.tr.s0, g.tr.s3, g.tr.e, g.tr.st, g.tr.p⟩, g.so, hl.trans g.rl⟩
    rcases List.mem_or_eq_of_mem_set hr with hr | rfl
    · exact g.tr.rr r hr
    · exact ⟨h3, h4⟩
  | stretch n => exact ⟨⟨g.ok.n1, g.ok.n3, g.ok.bl, g.ok.sn, g.ok.sr, g.ok.m0, g.ok.m3, g.ok.a1, g.ok.a6, g.ok.ws, h⟩, g.tr, g.so, g.rl⟩
  | scan p =>
    have ok := scan_ok g h.1 h.2
    have pm := sortI_perm (outI p pl.scans ++ [p])
    exact ⟨ok.scans (ss := sortI (outI p pl.scans ++ [p])) (pm.nodup_iff.mpr ok.sn) fun x hx => ok.sr x (pm.mem_iff.mp hx), g.tr, sortI_sorted _, g.rl⟩
  | eye p => exact ⟨g.ok.scans (ss := outI p pl.scans) (g.ok.sn.sublist (outI_sub p _)) fun x hx => g.ok.sr x (outI_ne hx).1, g.tr, g.so.sublist (outI_sub p _), g.rl⟩
def Plan.offs (pl : Plan) (os : List Off) : Plan := os.foldl Plan.off pl
theorem offs_good {pl : Plan} (g : GoodP pl) : ∀ {os : List Off}, (∀ o ∈ os, o.ok pl.belts.length) → GoodP (pl.offs os) ∧ (pl.offs os).belts = pl.belts
  | [], _ => ⟨g, rfl⟩
  | o :: os, h => by
    have g1 := g.off (h o (.head _))
    have e1 := Off.belts o pl
    obtain ⟨a, b⟩ := offs_good g1 (os := os) fun o' h' => by rw [e1]; exact h o' (.tail _ h')
    exact ⟨a, b.trans e1⟩
theorem fitsP_scan (n : Int) (v : PyData) : fitsP n (.str "scan") v = numB v 1 (n - 1) := by unfold fitsP; rw [if_pos (by decide +kernel)]
theorem fitsP_eye (n : Int) (v : PyData) : fitsP n (.str "eye") v = numB v 1 (n - 1) := by unfold fitsP; rw [if_pos (by decide +kernel)]
theorem fitsP_seek (n : Int) (v : PyData) : fitsP n (.str "seek") v = numB v 0 3 := by unfold fitsP; rw [if_neg (by decide +kernel), if_pos (by decide +kernel)]
theorem fitsP_stretch (n : Int) (v : PyData) : fitsP n (.str "stretch") v = (isNB v || numB v 1 12) := by unfold fitsP; rw [if_neg (by decide +kernel), if_neg (by decide +kernel), if_pos (by decide +kernel)]
theorem fitsP_empty (n : Int) (v : PyData) : fitsP n (.str "empty") v = wIn emptyS v := by unfold fitsP; rw [if_neg (by decide +kernel), if_neg (by decide +kernel), if_neg (by decide +kernel), if_pos (by decide +kernel)]
theorem fitsP_strange (n : Int) (v : PyData) : fitsP n (.str "strange") v = wIn strangeS v := by unfold fitsP; rw [if_neg (by decide +kernel), if_neg (by decide +kernel), if_neg (by decide +kernel), if_neg (by decide +kernel), if_pos (by decide +kernel)]
theorem fitsP_pause (n : Int) (v : PyData) : fitsP n (.str "pause") v = wIn pauseS v := by unfold fitsP; rw [if_neg (by decide +kernel), if_neg (by decide +kernel), if_neg (by decide +kernel), if_neg (by decide +kernel), if_neg (by decide +kernel), show PyData.eqv (.str "pause") (.str "pause") = true by decide +kernel, Bool.true_and]
theorem numB_in {n lo hi : Int} (h1 : lo ≤ n) (h2 : n ≤ hi) : numB (.int n) lo hi = true := by simp [numB, h1, h2]
theorem fits_ok {k : Nat} {o : Off} (h : o.ok k) : fitsD (k : Nat) o.d = true := by
  cases o with
  | seek n => exact (fitsP_seek _ _).trans (numB_in h.1 h.2)
  | empty z =>
    refine (fitsP_empty _ _).trans ?_
    rcases h with rfl | rfl <;> decide +kernel
  | strange z =>
    refine (fitsP_strange _ _).trans ?_
    rcases h with rfl | rfl <;> decide +kernel
  | pause z =>
    refine (fitsP_pause _ _).trans ?_
    rcases h with rfl | rfl <;> decide +kernel
  | room i p =>
    obtain ⟨h1, h2, h3, h4⟩ := h
    show (PyData.eqv (.str "room") (.str "room") && (numB (.int i) 1 k && numB (.int p) 1 4)) = true
    rw [numB_in h1 h2, numB_in h3 h4]
    decide +kernel
  | stretch n =>
    refine (fitsP_stretch _ _).trans ?_
    rcases h with rfl | ⟨m, rfl, h1, h2⟩
    · rfl
    · show (isNB (.int m) || numB (.int m) 1 12) = true
      rw [numB_in h1 h2, Bool.or_true]
  | scan p => exact (fitsP_scan _ _).trans (numB_in h.1 (by have := h.2; omega))
  | eye p => exact (fitsP_eye _ _).trans (numB_in h.1 (by have := h.2; omega))
theorem sh_int (n : Int) : SeqAt.shaped (.int n) = true := by simp [SeqAt.shaped, PyData.canLay0, PyData.depth]
theorem sh_pair {a b : PyData} (h1 : a.canLay0 = true) (h2 : b.canLay0 = true) (h3 : a.depth = 0) (h4 : b.depth = 0) : okD (.tuple [a, b]) := by
  refine ⟨by simp [SeqAt.shaped, PyData.canLay0, PyData.canLayAll0, PyData.depth, PyData.depthAll, h1, h2, h3, h4], fun ds e x hx => ?_⟩
  cases e
  simp only [List.mem_cons, List.not_mem_nil, or_false] at hx
  rcases hx with rfl | rfl
  · simp [SeqAt.shaped, h1, h3]
  · simp [SeqAt.shaped, h2, h4]
theorem sh_three {a b c : PyData} (h1 : a.canLay0 = true) (h2 : b.canLay0 = true) (h5 : c.canLay0 = true) (h3 : a.depth = 0) (h4 : b.depth = 0) (h6 : c.depth = 0) : okD (.tuple [a, b, c]) := by
  refine ⟨by simp [SeqAt.shaped, PyData.canLay0, PyData.canLayAll0, PyData.depth, PyData.depthAll, h1, h2, h3, h4, h5, h6], fun ds e x hx => ?_⟩
  cases e
  simp only [List.mem_cons, List.not_mem_nil, or_false] at hx
  rcases hx with rfl | rfl | rfl
  · simp [SeqAt.shaped, h1, h3]
  · simp [SeqAt.shaped, h2, h4]
  · simp [SeqAt.shaped, h5, h6]
theorem ok_off {k : Nat} {o : Off} (h : o.ok k) : okD o.d := by
  cases o with
  | stretch n => cases n <;> exact sh_pair (by decide +kernel) (by simp [PyData.canLay0, optDD]) (by simp [PyData.depth]) (by simp [PyData.depth, optDD])
  | seek n => exact sh_pair (by decide +kernel) (by simp [PyData.canLay0]) (by simp [PyData.depth]) (by simp [PyData.depth])
  | scan n => exact sh_pair (by decide +kernel) (by simp [PyData.canLay0]) (by simp [PyData.depth]) (by simp [PyData.depth])
  | eye n => exact sh_pair (by decide +kernel) (by simp [PyData.canLay0]) (by simp [PyData.depth]) (by simp [PyData.depth])
  | room i p => exact sh_three (by decide +kernel) (by simp [PyData.canLay0]) (by simp [PyData.canLay0]) (by simp [PyData.depth]) (by simp [PyData.depth]) (by simp [PyData.depth])
  | empty z => rcases h with rfl | rfl <;> exact sh_pair (by decide +kernel) (by decide +kernel) (by simp [PyData.depth]) (by simp [PyData.depth])
  | strange z => rcases h with rfl | rfl <;> exact sh_pair (by decide +kernel) (by decide +kernel) (by simp [PyData.depth]) (by simp [PyData.depth])
  | pause z => rcases h with rfl | rfl <;> exact sh_pair (by decide +kernel) (by decide +kernel) (by simp [PyData.depth]) (by simp [PyData.depth])
theorem off_de {K : PySem.W.Frag} {H : Hp} {t : Addr} {o : Off} (h : SqT K H t o.vs) : De K H (.ref t) o.d := by
  refine .tup h ?_
  cases o with
  | stretch n =>
    refine .cons (.str _) (.cons ?_ .nil)
    cases n with
    | none => exact .non
    | some m => exact .int m
  | seek n => exact .cons (.str _) (.cons (.int _) .nil)
  | empty z => exact .cons (.str _) (.cons (.str _) .nil)
  | strange z => exact .cons (.str _) (.cons (.str _) .nil)
  | pause z => exact .cons (.str _) (.cons (.str _) .nil)
  | room i p => exact .cons (.str _) (.cons (.int _) (.cons (.int _) .nil))
  | scan p => exact .cons (.str _) (.cons (.int _) .nil)
  | eye p => exact .cons (.str _) (.cons (.int _) .nil)
theorem off_dp {K : PySem.W.Frag} {H : Hp} {t : Addr} {o : Off} (h : SqT K H t o.vs) : Dp K H (.ref t) o.d := De.dp (off_de h)
theorem off_vs {K : PySem.W.Frag} {H : Hp} {v : V} {o : Off} (h : Dp K H v o.d) : ∃ t, v = .ref t ∧ SqT K H t o.vs := by
  unfold Off.d at h
  cases h with
  | tup h1 h2 =>
    refine ⟨_, rfl, ?_⟩
    rename_i xs
    have two : ∀ {a b : PyData} {x y : V}, DpAll K H xs [a, b] → (∀ v, Dp K H v a → v = x) → (∀ v, Dp K H v b → v = y) → xs = [x, y] := fun q f g => by
      cases q with
      | cons p r =>
        cases r with
        | cons p2 r => cases r; rw [f _ p, g _ p2]
    have three : ∀ {a b c : PyData} {x y z : V}, DpAll K H xs [a, b, c] → (∀ v, Dp K H v a → v = x) → (∀ v, Dp K H v b → v = y) → (∀ v, Dp K H v c → v = z) → xs = [x, y, z] := fun q f g h => by
      cases q with
      | cons p r =>
        cases r with
        | cons p2 r =>
          cases r with
          | cons p3 r => cases r; rw [f _ p, g _ p2, h _ p3]
    have fi : ∀ (n : Int) v, Dp K H v (.int n) → v = .int n := fun n v q => by cases q; rfl
    have fs : ∀ (n : Str) v, Dp K H v (.str n) → v = .str n := fun n v q => by cases q; rfl
    have e : xs = o.vs := by
      cases o with
      | stretch n => exact two h2 (fs _) (fun v q => by cases n <;> cases q <;> rfl)
      | seek n => exact two h2 (fs _) (fi _)
      | scan n => exact two h2 (fs _) (fi _)
      | eye n => exact two h2 (fs _) (fi _)
      | empty n => exact two h2 (fs _) (fs _)
      | strange n => exact two h2 (fs _) (fs _)
      | pause n => exact two h2 (fs _) (fs _)
      | room i p => exact three h2 (fs _) (fi _) (fi _)
    rw [← e]
    exact h1
end Own

set_option linter.unusedVariables false
namespace Own
open PySem L2 ClX PySem.HandSPX
abbrev s_offered_line : Stmt := topT 43
abbrev N_offered_line : List Str := ["line", "offer", "scans", "point"]
def spOL (K : PySem.W.Frag) (C : Addr) : Sp := fun vs H Q _ => ∃ (a t : Addr) (pl : Plan) (o : Off), vs = [.ref a, .ref t] ∧ LnAt K C H a (pl.line pl.scans) ∧ SqT K H t o.vs ∧ GoodP pl ∧ o.ok pl.belts.length ∧
  ∀ (x : Addr) (H' : Hp), Same H H' → LnAt K C H' x ((pl.off o).line (pl.off o).scans) → Q (.ref x) H'
/-- H but for its lists -/
def noLst (H : Hp) : Hp := fun b => match H b with
  | some (.lst _) => none
  | o => o
theorem noLst_at {H : Hp} {b : Addr} {o : HO} (h : H b = some o) (n : ∀ xs, o ≠ .lst xs) : noLst H b = some o := by
  unfold noLst
  rw [h]
  cases o with
  | lst xs => exact absurd rfl (n xs)
  | _ => rfl
theorem noLst_le (H : Hp) : Same (noLst H) H := fun b o e => by
  unfold noLst at e
  split at e
  · cases e
  · exact e
theorem noLst_not {H : Hp} {b : Addr} {xs : List V} (e : noLst H b = some (.lst xs)) : False := by
  unfold noLst at e
  split at e
  · cases e
  · rename_i n
    exact n _ e
theorem noLst_sqT {K : PySem.W.Frag} {H : Hp} {t : Addr} {xs : List V} (h : SqT K H t xs) : SqT K (noLst H) t xs := by
  rcases h with (h | ⟨ob, h⟩) | h
  · exact .inl (.inl (noLst_at h fun _ z => nomatch z))
  · exact .inl (.inr ⟨ob, noLst_at h fun _ z => nomatch z⟩)
  · exact .inr h
theorem noLst_ln {K : PySem.W.Frag} {C a : Addr} {H : Hp} {l : LnD} (h : LnAt K C H a l) : LnAt K C (noLst H) a l := by
  obtain ⟨⟨d, t, tS, tP, tW, h1, h2, h3, h4, h5⟩, ok⟩ := h
  exact ⟨⟨d, t, tS, tP, tW, noLst_at h1 (fun _ z => nomatch z), noLst_sqT h2, noLst_sqT h3, noLst_sqT h4, noLst_sqT h5⟩, ok⟩
/-- a new list of data -/
theorem je_list {K : PySem.W.Frag} {Γ : Ctx} {te : TE} {ds : List PyData} {σ : L2.St} {H : Hp} {Q : VK} (h : JE Am.no K Γ te (D K (.list ds))) (ev : Env K Γ σ [] (noLst H)) (q : ∀ l xs H2, H l = none → Same H H2 → H2 l = some (.lst xs) → DeAll K H2 xs ds → Q (.ref l) H2) : te σ H Q :=
  h σ [] (noLst H) ev (noLst H) H (Same.refl _) (noLst_le H) ⟨fun q hq => (List.not_mem_nil hq).elim, fun a z => z.elim, trivial, trivial⟩ Q fun v G2 H2 g r => by
    obtain ⟨l, xs, rfl, q1, q2⟩ := D.lst r
    have hl : H l = none := by
      cases e : H l with
      | none => rfl
      | some o =>
        cases z : noLst H l with
        | some o2 =>
          have := g.g _ _ z
          rw [q1] at this
          cases this
          exact (noLst_not z).elim
        | none =>
          have := g.n l z (by rw [e]; exact fun y => nomatch y)
          rw [q1] at this
          cases this
    exact q l xs H2 hl (fun a o e => g.h a o (fun z => z) e) (g.s _ _ q1) (q2.up g.s)
theorem tset_list {K : PySem.W.Frag} {Γ : Ctx} {te : TE} {u : TS} {Ds : Ends} {i : Nat} {ds : List PyData} {σ : L2.St} {H : Hp} (h : JE Am.no K Γ te (D K (.list ds))) (ev : Env K Γ σ [] (noLst H)) (q : ∀ l xs H2, H l = none → Same H H2 → H2 l = some (.lst xs) → DeAll K H2 xs ds → u Ds (σ.set i (some (.ref l))) H2) : tSeq (tAsg te (gName i)) u Ds σ H :=
  je_list h ev q
theorem rob1 {A : Rp} (a : Rob A) : ∀ R ∈ [A], Rob R := fun R h => by rw [List.mem_singleton.mp h]; exact a
theorem sqT_lst {K : PySem.W.Frag} {H : Hp} {t l : Addr} {xs ys zs : List V} (h : SqT K H t xs) (e : H l = some (.lst ys)) : SqT K (upd H l (.lst zs)) t xs := by
  rcases h with (h | ⟨ob, h⟩) | h
  · exact .inl (.inl (by rw [upd_ne (L2.ne_of h e fun z => nomatch z)]; exact h))
  · exact .inl (.inr ⟨ob, by rw [upd_ne (L2.ne_of h e fun z => nomatch z)]; exact h⟩)
  · exact .inr h
theorem ln_lst {K : PySem.W.Frag} {C a l : Addr} {H : Hp} {ln : LnD} {ys zs : List V} (h : LnAt K C H a ln) (e : H l = some (.lst ys)) : LnAt K C (upd H l (.lst zs)) a ln := by
  obtain ⟨⟨d, t, tS, tP, tW, h1, h2, h3, h4, h5⟩, ok⟩ := h
  exact ⟨⟨d, t, tS, tP, tW, by rw [upd_ne (L2.ne_of h1 e fun z => nomatch z)]; exact h1, sqT_lst h2 e, sqT_lst h3 e, sqT_lst h4 e, sqT_lst h5 e⟩, ok⟩
theorem badKey_one {z : Str} {v : V} {ws : List Str} (h : wordB (.str z) ws = true) : badKey [(z, v)] ws = none := badKey_none fun j q' e => by
  cases j with
  | zero => cases e; exact h
  | succ j => cases e
theorem fv_one {x y : Str} {v d : V} (h : ¬ y = x) : fv [(y, v)] x d = d := (fv_miss h).trans fv_nil
theorem je_old {K : PySem.W.Frag} {Γ : Ctx} {te : TE} {R : Rp} {σ : L2.St} {H : Hp} {Q : VK} (h : JE Am.no K Γ te R) (ev : Env K Γ σ [] H) (q : ∀ v H2, Same H H2 → R.p v H2 → Q v H2) : te σ H Q :=
  h σ [] H ev H H (Same.refl _) (Same.refl _) ⟨fun q hq => (List.not_mem_nil hq).elim, fun a z => z.elim, trivial, trivial⟩ Q fun v G2 H2 g r => q v H2 (fun a o e => g.h a o (fun z => z) e) (R.up g.s r)
section
variable {P : Program} {w : World} {K : PySem.W.Frag} {mg : Str → Option Value} {base : Heap}
def Off.wd : Off → Str
  | .seek _ => "seek"
  | .empty _ => "empty"
  | .strange _ => "strange"
  | .pause _ => "pause"
  | .room _ _ => "room"
  | .stretch _ => "stretch"
  | .scan _ => "scan"
  | .eye _ => "eye"
theorem off_at0 (o : Off) : atI o.vs 0 = some (.str o.wd) := by cases o <;> rfl
theorem w_stretch {o : Off} (h : o.wd = "stretch") : ∃ n, o = .stretch n := by
  cases o with
  | stretch n => exact ⟨n, rfl⟩
  | _ => dsimp only [Off.wd] at h; exfalso; revert h; decide +kernel
theorem w_se {o : Off} (h : inV (.str o.wd) [.str "scan", .str "eye"] = true) : ∃ p, o = .scan p ∨ o = .eye p := by
  cases o with
  | scan p => exact ⟨p, .inl rfl⟩
  | eye p => exact ⟨p, .inr rfl⟩
  | _ => dsimp only [Off.wd] at h; exfalso; revert h; decide +kernel
theorem line_keep {pl : Plan} {o : Off} (h1 : ¬ o.wd = "stretch") (h2 : ¬ inV (.str o.wd) [.str "scan", .str "eye"] = true) : (pl.off o).line (pl.off o).scans = pl.line pl.scans := by
  cases o with
  | stretch n => exact absurd rfl h1
  | scan p => exact absurd (by show inV (.str "scan") _ = true; decide +kernel) h2
  | eye p => exact absurd (by show inV (.str "eye") _ = true; decide +kernel) h2
  | _ => rfl
theorem sc_offered_line : FnScope N_offered_line ["line", "offer"] (defScope s_offered_line) := ⟨rfl, rfl, rfl, by decide +kernel, rfl, by decide +kernel, by decide +kernel⟩
theorem gives_scans {C : Addr} {l : LnD} : Gives (spListF K C "_scans") [RLine K C l] (D K (.list (l.scans.map PyData.int))) := fun vs G Q r k => by
  obtain ⟨v, rfl, a, rfl, ⟨d, t, tS, tP, tW, h1, h2, h3, h4, h5⟩, ok⟩ := rall1 r
  exact ⟨a, d, _, tS, _, rfl, h1, rfl, h3, fun p np => k _ _ (same_fresh np) (.lst upd_same (.of_ints _))⟩
theorem ok_offered_line {f fC fI fS C a0 a1 a2 cF : Addr} {fd gS : FuncData} {cA : Nat → Addr} (F : Fun K "offered_line" "offered_line" s_offered_line f fd) (ch : ChF P w K mg base fI C a0 a1 a2 cA cF) (Ic : LnCh K fC) (cM : Meth K C "changed" fC) (Sc : MetF P w K mg base C "scans" 1 ["self"] (spListF K C "_scans") fS gS) :
    FnOk P w K mg base (L2.CX P w) 11 f fd ["line", "offer"] (spOL K C) := by
  refine F.okX sc_offered_line (fun vs H Q E ⟨a, t, pl, o, e, _⟩ => by rw [e]; rfl) (fun cdv A outer s H vs Q E hr h => ?_)
  obtain ⟨a, t, pl, o, rfl, la, ht, g, ho, k⟩ := h
  have nd := sc_offered_line.nd
  have T := ch.T
  have hr1 := hr.mono (j := 1) (by decide)
  have px : Passes (L2.CX P w) (cxOf (L2.CX P w) P w K mg base N_offered_line "offered_line" (defScope s_offered_line) f cdv A outer s H E) E := passes_call (takes_of rfl rfl rfl rfl) (fun _ _ _ _ h => h)
  refine ⟨_, (pss_cons (ps_if (pt_cmpR op_eq (pe_ix ix_tup (pv 1) pe_int (fun _ _ => rfl)) pe_str (nomark _)) (pss_one (ps_ret (pe_methKw T.cl cM (ch_stretch Ic ch) hr Ic.kp px (pv 0) (pk_cons (pe_ix ix_tup (pv 1) pe_int (fun _ _ => rfl)) pk_nil)))) pss_nil)
      (pss_cons (ps_if (pt_cmpR op_in_seq (pe_ix ix_tup (pv 1) pe_int (fun _ _ => rfl)) (pe_tup (pa_cons pe_str (pa_cons pe_str pa_nil))) (by rfl)) (pss_cons (ps_setLc (i := 2) (own := [("point", 3)]) (g := (gName 3)) rfl nd rfl rfl (sw_true rfl rfl rfl (by decide +kernel)) (pi_list (pe_meth0 (pv 0) T.cl Sc.m (fn_fr Sc.G) hr1 Sc.b .nil pass0)) (blkOk_by (N := N_offered_line) (sc := defScope s_offered_line) (by decide +kernel)) (fun _ _ _ _ _ => pg_name (i := 3) nd rfl (Or.inl rfl)) (fun _ _ _ _ _ => pts_one (pt_cmpR op_ne (pv 3) (pe_ix (show IxR _ (rIxT K) from ix_tup) (pv 1) pe_int (fun _ _ => rfl)) (nomark _))) (fun _ _ _ _ _ => pv 3))
      (pss_cons (ps_if (pt_cmpR op_eq (pe_ix ix_tup (pv 1) pe_int (fun _ _ => rfl)) pe_str (nomark _)) (pss_one (ps_expr (pe_bm PySem.F.plainAttrs_list PySem.F.slot_list_append PySem.F.type_list_append mt_append (pv 2) (pa_cons (pe_ix ix_tup (pv 1) pe_int (fun _ _ => rfl)) pa_nil)))) pss_nil)
      (pss_one (ps_ret (pe_methKw T.cl cM (ch_scans Ic ch) hr Ic.kp px (pv 0) (pk_cons (pv 2) pk_nil)))))) pss_nil)
      (pss_one (ps_ret (pv 0))))), ?_⟩
  refine ⟨_, rfl, t, _, _, _, rfl, rfl, ht, off_at0 o, rfl, _, rfl, ?_⟩
  obtain ⟨⟨dx, t1, tS, tP, tW, ha, _⟩, _⟩ := id la
  refine ite2 (fun c => ?_) (fun c => ?_)
  · obtain ⟨n, rfl⟩ := w_stretch (V.str.inj (of_decide_eq_true c))
    refine ⟨_, rfl, a, dx, _, rfl, ha, rfl, _, rfl, t, _, _, _, rfl, rfl, ht, rfl, rfl, fun p hp => ?_⟩
    refine ch_go (kw := [("stretch", optV n)]) (l := (pl.off (.stretch n)).line pl.scans) la hp (badKey_one (by decide +kernel)) (g.off ho).ok (.inl ⟨rfl, fun v => fv_one (by decide +kernel)⟩) (.inl ⟨rfl, fun v => fv_one (by decide +kernel)⟩) (.inl ⟨rfl, rfl, fun v => fv_one (by decide +kernel)⟩) (.inl ⟨rfl, fun v => fv_one (by decide +kernel)⟩) (.inr fun v => fv_hit) fun x H' ss nx sm pm sr la' => ?_
    have e : ss = pl.scans := sort_eq' pm sr g.so
    rw [e] at la'
    exact k x H' sm la'
  refine ⟨_, rfl, t, _, _, _, rfl, rfl, ht, off_at0 o, by show 2 ≤ sizeLine; decide, fun p np => ?_⟩
  have s1 := same_fresh (o := .tup [.str "scan", .str "eye"]) np
  refine ⟨p, _, rfl, .inr (SqT.of upd_same), rfl, rfl, _, rfl, ?_⟩
  refine ite2 (fun c2 => ?_) (fun c2 => ?_)
  · have la1 := la.same' s1
    have ht1 := sqT_same ht s1
    obtain ⟨q, hq⟩ := w_se (o := o) (by simpa using c2)
    have hq2 : atI o.vs 1 = some (.int q) ∧ atI o.ds 1 = some (.int q) ∧ 1 ≤ q ∧ q < (pl.belts.length : Int) := by
      rcases hq with rfl | rfl <;> exact ⟨rfl, rfl, ho.1, ho.2⟩
    generalize upd H p (.tup [.str "scan", .str "eye"]) = H1 at s1 la1 ht1
    have sl := g.ok.sl
    have sl : pl.scans.length ≤ 2 := sl
    refine tset_list (K := K) (Γ := [.is (RLine K C (pl.line pl.scans)), .is (D K o.d), .no, .no]) (ds := (outI q pl.scans).map PyData.int) ?_ ?_ fun l xs H2 nl s2 hl hd => ?_
    · refine (j_lcIf (K := K) pl.scans PyData.int (fun x => !decide (x = q)) PyData.int (by show 3 < 4; decide) (ji_listM (j_frM gives_scans (j_v rfl) ja_nil (rob1 rob_line) rob_D fun v G1 h => ?_)) (by exact Nat.lt_of_le_of_lt sl (by decide)) (fun x hx => jt_test (j_neI (j_v rfl) (j_ixT (j_v rfl) (j_int 1) hq2.2.1))) (fun x hx _ => j_v rfl))
      obtain ⟨a, rfl, ⟨d, t, tS, tP, tW, h1, _⟩, _⟩ := h
      exact ⟨a, d, _, rfl, h1, rfl⟩
    · exact Env.start (Rs := [RLine K C (pl.line pl.scans), D K o.d]) (vs := [.ref a, .ref t]) N_offered_line ⟨_, _, rfl, ⟨a, rfl, noLst_ln la1⟩, _, _, rfl, off_de (noLst_sqT ht1), rfl⟩ (by show 2 ≤ 4; decide)
    obtain rfl := DeAll.ints hd
    have la2 := la1.same' s2
    have ht2 := sqT_same ht1 s2
    obtain ⟨⟨dx2, t12, tS2, tP2, tW2, ha2, _⟩, _⟩ := id la2
    have fin : ∀ (ns : List Int) (H3 : Hp), LnAt K C H3 a (pl.line pl.scans) → H3 l = some (.lst (ns.map V.int)) → Same H1 H3 → LnOk { (pl.line pl.scans) with scans := ns } → (∀ ss : List Int, ss.Perm ns → ss.Pairwise (· ≤ ·) → ss = (pl.off o).scans) → (pl.off o).line = pl.line → 
        (tRet (tMethKw C "changed" ["scans"] (spChL K C cA cF) E (tVar 0) (tCons (tVar 2) tNil))) { nx := tRet (tVar 0) { nx := fun x H' => Q V.non H', rt := Q }, rt := Q } ((L2.start N_offered_line [V.ref a, V.ref t]).set 2 (some (.ref l))) H3 := fun ns H3 la3 hl3 s3 ok3 hss el => by
      obtain ⟨⟨dx3, t13, tS3, tP3, tW3, ha3, _⟩, _⟩ := id la3
      refine ⟨_, rfl, a, dx3, _, rfl, ha3, rfl, _, rfl, rfl, fun p3 hp3 => ?_⟩
      refine ch_go (kw := [("scans", .ref l)]) (l := { (pl.line pl.scans) with scans := ns }) la3 hp3 (badKey_one (by decide +kernel)) ok3 (.inl ⟨rfl, fun v => fv_one (by decide +kernel)⟩) (.inr ⟨l, fun v => fv_hit, .inl (SqL.of hl3)⟩) (.inl ⟨rfl, rfl, fun v => fv_one (by decide +kernel)⟩) (.inl ⟨rfl, fun v => fv_one (by decide +kernel)⟩) (.inl ⟨rfl, fun v => fv_one (by decide +kernel)⟩) fun x H' ss nx sm pm sr la' => ?_
      have e : ss = (pl.off o).scans := hss ss pm sr
      refine k x H' ((s1.trans s3).trans sm) ?_
      rw [el]
      rw [e] at la'
      exact la'
    refine ⟨_, rfl, t, _, _, _, rfl, rfl, ht2, off_at0 o, rfl, _, rfl, ?_⟩
    refine ite2 (fun c3 => ?_) (fun c3 => ?_)
    · rcases hq with rfl | rfl
      · refine ⟨_, rfl, (.inl ⟨rfl, _, SqL.of hl⟩), _, rfl, t, _, _, _, rfl, rfl, ht2, hq2.1, l, _, .int q, rfl, rfl, hl, by rw [List.length_map]; exact Nat.lt_of_le_of_lt (Nat.le_trans (outI_sub q pl.scans).length_le sl) (by decide), ?_⟩
        have sm3 : Same H1 (upd H2 l (.lst ((outI q pl.scans).map V.int ++ [.int q]))) := fun b o e => by
          rw [upd_ne (ne_of_none e nl)]
          exact s2 _ _ e
        refine fin (outI q pl.scans ++ [q]) _ (ln_lst la2 hl) (by rw [upd_same, List.map_append]; rfl) sm3 (scan_ok g hq2.2.2.1 hq2.2.2.2) (fun ss pm sr => sort_eq' (pm.trans (sortI_perm _).symm) sr (sortI_sorted _)) rfl
      · exact absurd (V.str.inj (of_decide_eq_true c3)) (by show ¬ (("eye" : Str) = "scan"); decide +kernel)
    · rcases hq with rfl | rfl
      · exact absurd (decide_eq_true rfl) c3
      · exact fin (outI q pl.scans) _ la2 hl s2 (g.off ho).ok (fun ss pm sr => sort_eq' pm sr (g.so.sublist (outI_sub q _))) rfl
  · have e := line_keep (pl := pl) (fun z => by rw [z] at c; exact c (by decide +kernel)) c2
    refine ⟨_, rfl, ?_⟩
    exact k a _ s1 (by rw [e]; exact la.same' s1)
end
end Own

set_option linter.unusedVariables false
namespace Own
open PySem L2 ClX PySem.HandSPX
abbrev s_offered_tracker : Stmt := topT 44
abbrev N_offered_tracker : List Str := ["tracker", "offer", "rooms", "fields"]
def rulesV : List V := [.str "seek", .str "empty", .str "strange", .str "pause"]
def spOT (K : PySem.W.Frag) (C : Addr) : Sp := fun vs H Q _ => ∃ (a t : Addr) (pl : Plan) (o : Off), vs = [.ref a, .ref t] ∧ TrP K C H a pl ∧ SqT K H t o.vs ∧ GoodP pl ∧ o.ok pl.belts.length ∧
  ∀ (x : Addr) (H' : Hp), Same H H' → TrP K C H' x (pl.off o) → Q (.ref x) H'
theorem w_room {o : Off} (h : o.wd = "room") : ∃ i p, o = .room i p := by
  cases o with
  | room i p => exact ⟨i, p, rfl⟩
  | _ => dsimp only [Off.wd] at h; exfalso; revert h; decide +kernel
theorem trk_keep {pl : Plan} {o : Off} (h1 : ¬ o.wd = "room") (h2 : ¬ inV (.str o.wd) rulesV = true) {K : PySem.W.Frag} {C : Addr} {H : Hp} {a : Addr} (h : TrP K C H a pl) : TrP K C H a (pl.off o) := by
  cases o with
  | room i p => exact absurd rfl h1
  | seek n => exact absurd (by show inV (.str "seek") _ = true; decide +kernel) h2
  | empty n => exact absurd (by show inV (.str "empty") _ = true; decide +kernel) h2
  | strange n => exact absurd (by show inV (.str "strange") _ = true; decide +kernel) h2
  | pause n => exact absurd (by show inV (.str "pause") _ = true; decide +kernel) h2
  | stretch n => exact h
  | scan p => exact h
  | eye p => exact h
theorem tr_lst {K : PySem.W.Frag} {C a l : Addr} {H : Hp} {pl : Plan} {zs : List V} (h : TrP K C H a pl) {ys : List V} (e : H l = some (.lst ys)) : TrP K C (upd H l (.lst zs)) a pl := by
  obtain ⟨d, t, h1, h2, h3⟩ := h
  exact ⟨d, t, by rw [upd_ne (L2.ne_of h1 e fun z => nomatch z)]; exact h1, sqT_lst h2 e, h3⟩
section
variable {P : Program} {w : World} {K : PySem.W.Frag} {mg : Str → Option Value} {base : Heap}
theorem sc_offered_tracker : FnScope N_offered_tracker ["tracker", "offer"] (defScope s_offered_tracker) := ⟨rfl, rfl, rfl, by decide +kernel, rfl, by decide +kernel, by decide +kernel⟩
theorem ok_offered_tracker {f fC fI fR C cF tR : Addr} {fd gR : FuncData} (F : Fun K "offered_tracker" "offered_tracker" s_offered_tracker f fd) (ch : TcF P w K mg base fI C cF) (Ic : TrCh K fC) (bM : BMeth K C "changed" fC) (Ro : MetF P w K mg base C "rooms" 1 ["self"] (spRooms K C) fR gR) (mR : mg "RULES" = some (.ref tR)) (kR : KT K tR rulesV) :
    FnOk P w K mg base (L2.CX P w) 11 f fd ["tracker", "offer"] (spOT K C) := by
  refine F.okX sc_offered_tracker (fun vs H Q E ⟨a, t, pl, o, e, _⟩ => by rw [e]; rfl) (fun cdv A outer s H vs Q E hr h => ?_)
  obtain ⟨a, t, pl, o, rfl, la, ht, g, ho, k⟩ := h
  have nd := sc_offered_tracker.nd
  have T := ch.T
  have hr1 := hr.mono (j := 1) (by decide)
  have px : Passes (L2.CX P w) (cxOf (L2.CX P w) P w K mg base N_offered_tracker "offered_tracker" (defScope s_offered_tracker) f cdv A outer s H E) E := passes_call (takes_of rfl rfl rfl rfl) (fun _ _ _ _ h => h)
  refine ⟨_, (pss_cons (ps_if (pt_cmpR op_eq (pe_ix ix_tup (pv 1) pe_int (fun _ _ => rfl)) pe_str (nomark _)) (pss_cons (ps_set (i := 2) nd rfl (Or.inl rfl) (pe_meth0 (pv 0) T.cl Ro.m Ro.G hr1 Ro.b .nil pass0))
      (pss_cons (ps_asg (pe_ix ix_tup (pv 1) pe_int (fun _ _ => rfl)) (pg_sub (pv 2) (pe_op op_sub (pe_ix ix_tup (pv 1) pe_int (fun _ _ => rfl)) pe_int) set_list))
      (pss_one (ps_ret (pe_methKw T.cl bM.mt (tc_rooms Ic ch) hr Ic.kp px (pv 0) (pk_cons (pv 2) pk_nil)))))) pss_nil)
      (pss_cons (ps_if (pt_cmpR op_in_seq (pe_ix ix_tup (pv 1) pe_int (fun _ _ => rfl)) (pe_glob (v := .ref tR) (by rfl) mR rfl) (by rfl)) (pss_cons (ps_set (i := 3) nd rfl (Or.inl rfl) (pe_disp (pps_cons (pe_ix ix_tup (pv 1) pe_int (fun _ _ => rfl)) (pe_ix ix_tup (pv 1) pe_int (fun _ _ => rfl)) pps_nil) (by rfl) (by rfl) (fun z => by cases z) (by decide)))
      (pss_one (ps_ret (pe_methKd (ks := ["seek", "empty", "strange", "pause"]) T.cl bM (tc_word Ic ch) hr px (pv 0) (pv 3))))) pss_nil)
      (pss_one (ps_ret (pv 0))))), ?_⟩
  obtain ⟨dx, t1, ha, hR, tk⟩ := id la
  refine ⟨_, rfl, t, _, _, _, rfl, rfl, ht, off_at0 o, rfl, _, rfl, ?_⟩
  refine ite2 (fun c => ?_) (fun c => ?_)
  · obtain ⟨i, q, rfl⟩ := w_room (V.str.inj (of_decide_eq_true c))
    refine ⟨_, rfl, a, dx, _, rfl, ha, rfl, a, pl.rooms, pl.seek, pl.empty, pl.strange, pl.pause, rfl, la, fun l nl => ?_⟩
    obtain ⟨h1, h2, h3, h4⟩ := ho
    have rl : pl.rooms.length = pl.belts.length := g.rl
    have s1 := same_fresh (o := .lst (pl.rooms.map V.int)) nl
    have ix : ixN (pl.rooms.map V.int).length (i - 1) = some (i - 1).toNat := by
      unfold ixN
      rw [List.length_map]
      rw [if_pos (by omega), if_pos (by omega)]
    refine ⟨_, rfl, t, _, _, _, rfl, rfl, sqT_same ht s1, rfl, _, rfl, _, rfl, t, _, _, _, rfl, rfl, sqT_same ht s1, rfl, _, _, rfl, rfl, l, _, _, _, rfl, rfl, upd_same, ix, ?_⟩
    have e1 : upd (upd H l (.lst (pl.rooms.map V.int))) l (.lst ((pl.rooms.map V.int).set (i - 1).toNat (.int q))) = upd H l (.lst ((pl.rooms.set (i - 1).toNat q).map V.int)) := by rw [upd_upd, List.map_set]
    rw [e1]
    have s2 := same_fresh (o := .lst ((pl.rooms.set (i - 1).toNat q).map V.int)) nl
    refine ⟨_, rfl, a, dx, _, rfl, s2 _ _ ha, rfl, _, rfl, rfl, fun p3 hp3 => ?_⟩
    have s3 := s2.trans (same_fresh (o := .dK (kwV ((["rooms"] : List Str).zip [V.ref l]))) hp3)
    refine ⟨a, p3, pl, pl.off (.room i q), [("rooms", .ref l)], rfl, la.same s3, upd_same, badKey_one (by decide +kernel), (g.off (o := .room i q) ⟨h1, h2, h3, h4⟩).tr, .inr ⟨l, fun v => fv_hit, .inr (SqL.of (by rw [upd_ne (fun z => by rw [← z, upd_same] at hp3; exact nomatch hp3)]; exact upd_same))⟩, fv_one (by decide +kernel), fv_one (by decide +kernel), fv_one (by decide +kernel), fv_one (by decide +kernel), fun x H' nx tp sm => k x H' (s3.trans sm) tp⟩
  refine ⟨_, rfl, t, _, _, _, rfl, rfl, ht, off_at0 o, tR, _, rfl, .inr (.inr kR), rfl, rfl, _, rfl, ?_⟩
  refine ite2 (fun c2 => ?_) (fun c2 => ?_)
  · have fin : ∀ (z : Str) (v : V), o.vs = [.str z, v] → z ∈ (["seek", "empty", "strange", "pause"] : List Str) → wordB (.str z) trackL = true → (pl.off o).rooms = pl.rooms → ¬ z = "rooms" → fv [(z, v)] "seek" (.int pl.seek) = .int (pl.off o).seek → fv [(z, v)] "empty" (.str pl.empty) = .str (pl.off o).empty → fv [(z, v)] "strange" (.str pl.strange) = .str (pl.off o).strange → fv [(z, v)] "pause" (.str pl.pause) = .str (pl.off o).pause →
        (tSeq (tAsg (tDisp [(tOp (rIxT K) (tVar 1) (tC (V.int 0)), tOp (rIxT K) (tVar 1) (tC (V.int 1)))]) (gName 3)) (tRet (tMethKd C "changed" fC ["seek", "empty", "strange", "pause"] (spChT K C) E (tVar 0) (tVar 3)))) { nx := tRet (tVar 0) { nx := fun x H' => Q V.non H', rt := Q }, rt := Q } (L2.start N_offered_tracker [V.ref a, V.ref t]) H := fun z v ev hz hw er nr f1 f2 f3 f4 p np => by
      rw [ev] at ht
      have s1 := same_fresh (o := .dK []) np
      have ht1 := sqT_same ht s1
      refine ⟨_, rfl, t, _, _, _, rfl, rfl, ht1, rfl, _, rfl, t, _, _, _, rfl, rfl, ht1, rfl, ?_⟩
      refine ⟨upd_same, [(Sum.inr z, v)], rfl, (by show 1 ≤ 15; decide), ?_⟩
      rw [upd_upd]
      have s2 := same_fresh (o := .dK (mergeK [] [((Sum.inr z : Key), v)])) np
      refine ⟨_, rfl, a, dx, _, rfl, s2 _ _ ha, rfl, fun q nq => ⟨_, rfl, p, z, v, rfl, ?_, hz, upd_same, fun p3 hp3 => ?_⟩⟩
      · rw [upd_ne (fun y => by rw [← y, upd_same] at nq; exact nomatch nq), upd_same]
        rfl
      · have s3 := (s2.trans (same_fresh (o := .met fC a) nq)).trans (same_fresh (o := .dK (kwV [(z, v)])) hp3)
        exact ⟨a, p3, pl, pl.off o, [(z, v)], rfl, la.same s3, upd_same, badKey_one hw, (g.off ho).tr, .inl ⟨er, fun u => fv_one nr⟩, f1, f2, f3, f4, fun x H' nx tp sm => k x H' (s3.trans sm) tp⟩
    cases o with
    | seek n => exact fin "seek" (.int n) rfl (by decide +kernel) (by decide +kernel) rfl (by decide +kernel) fv_hit (fv_one (by decide +kernel)) (fv_one (by decide +kernel)) (fv_one (by decide +kernel))
    | empty n => exact fin "empty" (.str n) rfl (by decide +kernel) (by decide +kernel) rfl (by decide +kernel) (fv_one (by decide +kernel)) fv_hit (fv_one (by decide +kernel)) (fv_one (by decide +kernel))
    | strange n => exact fin "strange" (.str n) rfl (by decide +kernel) (by decide +kernel) rfl (by decide +kernel) (fv_one (by decide +kernel)) (fv_one (by decide +kernel)) fv_hit (fv_one (by decide +kernel))
    | pause n => exact fin "pause" (.str n) rfl (by decide +kernel) (by decide +kernel) rfl (by decide +kernel) (fv_one (by decide +kernel)) (fv_one (by decide +kernel)) (fv_one (by decide +kernel)) fv_hit
    | _ => dsimp only [Off.wd] at c2; exfalso; revert c2; decide +kernel
  · refine ⟨_, rfl, ?_⟩
    exact k a _ (Same.refl _) (trk_keep (fun z => by rw [z] at c; exact c (decide_eq_true rfl)) (by simpa using c2) la)
end
end Own

set_option linter.unusedVariables false
namespace Own
open PySem L2 ClX PySem.HandSPX
abbrev s_wo : Stmt := inClass (topT 48) 5
abbrev N_wo : List Str := ["self", "offers", "at", "offer", "line", "tracker"]
/-- Plant.with_offers behind its binding: all fit, or one is the first that does not -/
def spWO (K : PySem.W.Frag) (CP CL CT cO : Addr) : Sp := fun vs H Q E => ∃ (a p : Addr) (pl : Plan) (xs : List V) (ds : List PyData), vs = [.ref a, .ref p] ∧ PlAt K CP CL CT H a (pl.line pl.scans) pl ∧ GoodP pl ∧ SqT K H p xs ∧ DeAll K H xs ds ∧ (∀ d ∈ ds, okD d) ∧
  ((∃ os : List Off, ds = os.map Off.d ∧ (∀ o ∈ os, o.ok pl.belts.length) ∧ ∀ (x : Addr) (H' : Hp), Same H H' → PlAt K CP CL CT H' x ((pl.offs os).line (pl.offs os).scans) (pl.offs os) → Q (.ref x) H') ∨
   (∃ (i : Nat) (d : PyData), ds[i]? = some d ∧ fitsD (pl.belts.length : Nat) d = false ∧ (∀ (j : Nat) (d' : PyData), j < i → ds[j]? = some d' → fitsD (pl.belts.length : Nat) d' = true) ∧ ∀ dd H', ErrOut K H H' dd "InvalidOffer" "at" (.int (i : Nat)) → E (.ref cO) (some dd) H'))
theorem offs_take {pl : Plan} {os : List Off} {i : Nat} {o : Off} (h : os[i]? = some o) : pl.offs (os.take (i + 1)) = (pl.offs (os.take i)).off o := by
  unfold Plan.offs
  rw [List.take_add_one, h, List.foldl_append]
  rfl
section
variable {P : Program} {w : World} {K : PySem.W.Frag} {mg : Str → Option Value} {base : Heap}
theorem sc_wo : FnScope N_wo ["self", "offers"] (defScope s_wo) := ⟨rfl, rfl, rfl, by decide +kernel, rfl, by decide +kernel, by decide +kernel⟩
/-- Plant.with_offers as it stands behind the top -/
structure WoE (K : PySem.W.Frag) (f : Addr) : Prop where
  ex : ∃ (oc : Value) (od : Option Addr) (kV doc pm : Value) (an : Option Addr) (cdv ct : Value) (osl : Array (Option Value)), K.lookup f = some ⟨oc, od, .func (PySem.W.fnOf "with_offers" "Plant.with_offers" (defArgs s_wo) (defBody s_wo) (defScope s_wo) .none kV doc pm an cdv ct), osl⟩ ∧ PySem.W.codeIn K cdv "Plant.with_offers" = true
theorem ok_wo {f fI CP CL CT cO fF fL fT pX gX : Addr} {gI gF gL gT dX : FuncData} (I : WoE K f) (T : PlF K mg CP) (TL : LnF K mg CL) (M : Mk K CP fI) (GI : FnOk P w K mg base (L2.CX P w) 6 fI gI NPi (spPi K CP CL CT)) (bI : Binds K gI NPi []) (eO : ErrC P w K mg base "InvalidOffer" "at" cO) (zE : mg "enumerate" = none)
    (Fi : DefF P w K mg base "fits" 3 N_fits (spFi K) fF gF) (La : PropF P w K mg base CL "last" pX gX (spLenF K CL "_belts") dX)
    (Ol : FnOk P w K mg base (L2.CX P w) 11 fL gL ["line", "offer"] (spOL K CL) ∧ mg "offered_line" = some (.ref fL) ∧ PySem.W.keepIn K (.ref fL) = true ∧ Binds K gL ["line", "offer"] [])
    (Ot : FnOk P w K mg base (L2.CX P w) 11 fT gT ["tracker", "offer"] (spOT K CT) ∧ mg "offered_tracker" = some (.ref fT) ∧ PySem.W.keepIn K (.ref fT) = true ∧ Binds K gT ["tracker", "offer"] []) :
    FnR P w K mg base (L2.CX P w) 12 f (fun vs H Q E => ∃ ws rest, vs = ws ++ rest ∧ ws.length = (["self"] : List Str).length ∧ rest.length ≤ sizeLine ∧ ∀ p, H p = none → spWO K CP CL CT cO (ws ++ [V.ref p]) (upd H p (.tup rest)) Q E) := by
  obtain ⟨oc, od, kV, doc, pm, an, cdv, ct, osl, lk, hcd⟩ := I.ex
  obtain ⟨GOl, mOl, kOl, bOl⟩ := Ol
  obtain ⟨GOt, mOt, kOt, bOt⟩ := Ot
  refine StX.fn_star (ps := ["self"]) (pv := "offers") lk hcd sc_wo StX.cxUp (fun us rest hl => ?_) (fun A outer s H vs Q E hr h => ?_)
  · match us, hl, rest with
    | [u], _, [] => rfl
    | [u], _, _ :: _ => rfl
  obtain ⟨a, p, pl, xs, ds, rfl, pa, g, hT, hD, hok, alt⟩ := h
  have nd := sc_wo.nd
  have hr3 := hr.mono (j := 3) (by decide)
  have hr1 := hr.mono (j := 2) (by decide)
  have px : Passes (L2.CX P w) (cxOf (L2.CX P w) P w K mg base N_wo "Plant.with_offers" (defScope s_wo) f cdv A outer s H E) E := passes_call (takes_of rfl rfl rfl rfl) (fun _ _ _ _ h => h)
  refine ⟨_, (pss_cons (ps_for (passes_of rfl) rfl (pi_enumT (by rfl) zE (pa_cons (pv 1) pa_nil)) (pg_tup rfl (pgs_cons (pg_name (i := 2) nd rfl (Or.inl rfl)) (pgs_cons (pg_name (i := 3) nd rfl (Or.inl rfl)) pgs_nil))) (pss_one (ps_if (pt_not (pt_val (pe_call Fi.G hr3 rfl Fi.m Fi.kp Fi.b .nil pass0 (pa_cons (pe_prop (pe_fld (pv 0) rfl) TL.cl La.hp La.G hr1 La.b .nil pass0 rfl) (pa_cons (pv 3) pa_nil))))) (pss_one (ps_raise rfl (takes_of rfl rfl rfl rfl) (pmk_err eO (hr.mono (by decide)) (by rfl) (pa_cons (pv 2) pa_nil) (fun σ H R R' f ⟨x, h, q⟩ => ⟨x, h, f _ _ q⟩)))) pss_nil)))
      (pss_cons (ps_set (i := 4) nd rfl (Or.inl rfl) (pe_fld (pv 0) rfl))
      (pss_cons (ps_set (i := 5) nd rfl (Or.inl rfl) (pe_fld (pv 0) rfl))
      (pss_cons (ps_for (passes_of rfl) rfl (pi_tup (pv 1)) (pg_name (i := 3) nd rfl (Or.inl rfl)) (pss_cons (ps_set (i := 4) nd rfl (Or.inl rfl) (pe_call GOl hr rfl mOl kOl bOl .nil px (pa_cons (pv 4) (pa_cons (pv 3) pa_nil))))
      (pss_one (ps_set (i := 5) nd rfl (Or.inl rfl) (pe_call GOt hr rfl mOt kOt bOt .nil px (pa_cons (pv 5) (pa_cons (pv 3) pa_nil)))))))
      (pss_one (ps_ret (pe_make M GI (hr.mono (by decide)) (by rfl) T.at_ bI .nil px (pa_cons (pv 4) (pa_cons (pv 5) pa_nil))))))))), ?_⟩
  obtain ⟨dx, aL, aT, ha, la, tb⟩ := id pa
  have hlen := hD.length
  refine ⟨_, rfl, p, xs, rfl, hT, ?_⟩
  refine for_it (walk_enumT (K := K) (a := p) (xs := xs)) (fun i σ H' => ∃ v2 v3 : Option V, σ = [some (.ref a), some (.ref p), v2, v3, none, none] ∧ Same H H' ∧ ∀ (j : Nat) (d' : PyData), j < i → ds[j]? = some d' → fitsD (pl.belts.length : Nat) d' = true) ⟨_, _, rfl, Same.refl _, fun j d' hj => absurd hj (Nat.not_lt_zero _)⟩ ?_ ?_ ?_
  · rintro i σ H' _ ⟨v2, v3, rfl, sm, _⟩
    exact sqT_same hT sm
  · rintro i x σ H1 H2 hi ⟨v2, v3, rfl, sm, hp⟩ ⟨T1, u, v, rfl, nT, rfl, e1, e2⟩
    obtain rfl : u = .int (i : Nat) := (Option.some.inj e1).symm
    have hid : i < ds.length := by rw [← hlen]; exact hi
    obtain ⟨d, hd⟩ : ∃ d, ds[i]? = some d := ⟨_, List.getElem?_eq_getElem hid⟩
    have hde : De K H v d := by obtain ⟨v', q1, q2⟩ := hD.get hd; rw [show xs[i]? = some v from e2] at q1; cases q1; exact q2
    have s1 := same_fresh (o := .tup [.int (i : Nat), v]) nT
    have s2 := sm.trans s1
    have la2 := la.same' s2
    obtain ⟨⟨dxL, t1, tS, tP, tW, haL, hTL, _⟩, _⟩ := la2
    refine ⟨T1, _, rfl, SqT.of upd_same, rfl, .int (i : Nat), _, rfl, v, _, rfl, rfl, ?_⟩
    refine ⟨_, rfl, a, CP, dx, _, _, rfl, s2 _ _ ha, T.cl, T.n1, rfl, aL, dxL, _, rfl, haL, aL, dxL, _, t1, _, rfl, haL, rfl, hTL, _, rfl, ?_⟩
    refine ⟨(((pl.belts.length : Nat) : Int), d), _, Same.refl _, ⟨_, _, rfl, ?_, _, _, rfl, De.up s2 hde, rfl⟩, hok d (List.mem_of_getElem? hd), fun vb G' H' gg rb => ?_⟩
    · show De K _ (.int ((pl.belts.map V.int).length : Nat)) (.int (pl.belts.length : Nat))
      rw [List.length_map]
      exact .int _
    obtain rfl := D.bool rb
    have s3 : Same H H' := s2.trans fun b o e => gg.h b o (fun z => z) e
    refine ⟨_, rfl, ?_⟩
    cases hf : fitsD (pl.belts.length : Nat) d with
    | true =>
      refine iteF ⟨_, _, rfl, s3, fun j d' hj hj' => ?_⟩
      rcases Nat.lt_succ_iff_lt_or_eq.mp hj with hj | rfl
      · exact hp j d' hj hj'
      · rw [hd] at hj'
        cases hj'
        exact hf
    | false =>
      refine iteT ?_
      rcases alt with ⟨os, rfl, hos, _⟩ | ⟨i', d', hi', hf', hb', kE⟩
      · exfalso
        obtain ⟨o, ho, rfl⟩ := List.mem_map.mp (List.mem_of_getElem? hd)
        rw [fits_ok (hos o ho)] at hf
        cases hf
      · have ei : i' = i := by
          rcases Nat.lt_trichotomy i' i with h | h | h
          · have := hp i' d' h hi'
            rw [hf'] at this
            cases this
          · exact h
          · have := hb' i d h hd
            rw [hf] at this
            cases this
        subst ei
        exact ⟨_, rfl, .int (i' : Nat), .int (i' : Nat), rfl, .int _, .int _, fun dd H2 eo => kE dd H2 (eo.pre s3)⟩
  · rintro σ H' ⟨v2, v3, rfl, sm, hp⟩
    obtain ⟨os, rfl, hos, kQ⟩ : ∃ os : List Off, ds = os.map Off.d ∧ (∀ o ∈ os, o.ok pl.belts.length) ∧ ∀ (x : Addr) (H' : Hp), Same H H' → PlAt K CP CL CT H' x ((pl.offs os).line (pl.offs os).scans) (pl.offs os) → Q (.ref x) H' := by
      rcases alt with h | ⟨i', d', hi', hf', _, _⟩
      · exact h
      · have hl : i' < xs.length := by rw [hlen]; exact (List.getElem?_eq_some_iff.mp hi').1
        have := hp i' d' hl hi'
        rw [hf'] at this
        cases this
    have lo : os.length = xs.length := by rw [hlen, List.length_map]
    refine ⟨_, rfl, a, CP, dx, _, _, rfl, sm _ _ ha, T.cl, T.n1, rfl, ?_⟩
    refine ⟨_, rfl, a, CP, dx, _, _, rfl, sm _ _ ha, T.cl, T.n2, rfl, ?_⟩
    refine ⟨_, rfl, p, rfl, ⟨_, sqT_same hT sm⟩, for_tup (K := K) (a := p) (xs := xs) (fun i σ H2 => ∃ (v2 v3 : Option V) (x y : Addr), σ = [some (.ref a), some (.ref p), v2, v3, some (.ref x), some (.ref y)] ∧ Same H H2 ∧ LnAt K CL H2 x ((pl.offs (os.take i)).line (pl.offs (os.take i)).scans) ∧ TrP K CT H2 y (pl.offs (os.take i))) ⟨_, _, aL, aT, rfl, sm, la.same' sm, tb.same sm⟩ ?_ ?_ ?_⟩
    · rintro i σ H2 _ ⟨v2, v3, x, y, rfl, s2, _⟩
      exact sqT_same hT s2
    · rintro i z σ H2 hz ⟨v2, v3, x, y, rfl, s2, lx, ty⟩
      have hi : i < os.length := by rw [lo]; exact (List.getElem?_eq_some_iff.mp hz).1
      obtain ⟨o, ho⟩ : ∃ o, os[i]? = some o := ⟨_, List.getElem?_eq_getElem hi⟩
      have hde : De K H z o.d := by obtain ⟨v', q1, q2⟩ := hD.get (show (os.map Off.d)[i]? = some o.d by rw [List.getElem?_map, ho]; rfl); rw [hz] at q1; cases q1; exact q2
      obtain ⟨t, rfl, ht⟩ := off_vs (De.dp (De.up s2 hde))
      have hmo : ∀ o' ∈ os.take i, o'.ok pl.belts.length := fun o' h' => hos o' (List.mem_of_mem_take h')
      obtain ⟨gi, bi⟩ := offs_good g hmo
      have hoi : o.ok (pl.offs (os.take i)).belts.length := by rw [bi]; exact hos o (List.mem_of_getElem? ho)
      refine ⟨_, rfl, _, rfl, x, t, pl.offs (os.take i), o, rfl, lx, ht, gi, hoi, fun x2 H3 s3 lx2 => ?_⟩
      refine ⟨_, rfl, _, rfl, y, t, pl.offs (os.take i), o, rfl, ty.same s3, sqT_same ht s3, gi, hoi, fun y2 H4 s4 ty2 => ?_⟩
      refine ⟨_, _, x2, y2, rfl, (s2.trans s3).trans s4, ?_, ?_⟩
      · rw [offs_take ho]
        exact lx2.same' s4
      · rw [offs_take ho]
        exact ty2
    · rintro σ H2 ⟨v2, v3, x, y, rfl, s2, lx, ty⟩
      rw [← lo, List.take_length] at lx ty
      obtain ⟨gi, bi⟩ := offs_good g hos
      refine ⟨_, rfl, _, rfl, ?_⟩
      intro z dz nz ndz ne
      have sA : Same H2 (upd (upd H2 dz (.own z)) z (.ins CP dz [])) := ((Same.refl _).new ndz).new (by rw [upd_ne (Ne.symm ne)]; exact nz)
      refine ⟨z, dz, x, y, (pl.offs os).line (pl.offs os).scans, pl.offs os, rfl, upd_same, lx.same' sA, ty.same sA, gi.rl, fun H' hx e => ⟨rfl, ?_⟩⟩
      have sB : Same H2 H' := fun q o hq => e q o (L2.ne_of_none hq nz) (sA _ _ hq)
      exact kQ z H' (s2.trans sB) ⟨dz, x, y, hx, lx.same' sB, ty.same sB⟩
end
end Own

set_option linter.unusedVariables false
namespace Own
open PySem L2 ClX PySem.HandSPX
abbrev s__law_all_offers : Stmt := topT 75
abbrev N__law_all_offers : List Str := ["_law_made", "_law_some"]
/-- what comes of offers to the plant of a plan -/
def AltO (K : PySem.W.Frag) (CP CL CT cO : Addr) (pl : Plan) (ds : List PyData) (H : Hp) (Q : VK) (E : XK) : Prop :=
  (∃ os : List Off, ds = os.map Off.d ∧ (∀ o ∈ os, o.ok pl.belts.length) ∧ ∀ (x : Addr) (H' : Hp), Same H H' → PlAt K CP CL CT H' x ((pl.offs os).line (pl.offs os).scans) (pl.offs os) → Q (.ref x) H') ∨
  (∃ (i : Nat) (d : PyData), ds[i]? = some d ∧ fitsD (pl.belts.length : Nat) d = false ∧ (∀ (j : Nat) (d' : PyData), j < i → ds[j]? = some d' → fitsD (pl.belts.length : Nat) d' = true) ∧ ∀ dd H', ErrOut K H H' dd "InvalidOffer" "at" (.int (i : Nat)) → E (.ref cO) (some dd) H')
def spAO (K : PySem.W.Frag) (CP CL CT cO : Addr) : Sp := fun vs H Q E => ∃ (a b : Addr) (pl : Plan) (xs : List V) (ds : List PyData), vs = [.ref a, .ref b] ∧ PlAt K CP CL CT H a (pl.line pl.scans) pl ∧ GoodP pl ∧ SqL K H b xs ∧ DeAll K H xs ds ∧ (∀ d ∈ ds, okD d) ∧ xs.length ≤ 4 ∧ AltO K CP CL CT cO pl ds H Q E
abbrev spWR (K : PySem.W.Frag) (CP CL CT cO : Addr) : Sp := fun vs H Q E => ∃ ws rest, vs = ws ++ rest ∧ ws.length = (["self"] : List Str).length ∧ rest.length ≤ sizeLine ∧ ∀ p, H p = none → spWO K CP CL CT cO (ws ++ [V.ref p]) (upd H p (.tup rest)) Q E
theorem pe_methR0 {X : Cx} {CX : CXT} {k : Nat} {C f : Addr} {m : Str} {sp : Sp} {E : XK} {o : Expr} {ta : TE} {apos pos : Pos} {pl : Sem Bool} (he : PE X o ta) (c : Cls X.K C) (hm : Meth X.K C m f) (F : FnR X.prog X.w X.K X.mg X.base CX k f sp) (hr : Room k X.A) (hx : Passes CX X E)
    (ht : eval (.Call (.Attribute o m apos) [] [] pos) X.env = (do
      let ov ← eval o X.env
      standAt apos.atName
      let (f, first) ← holding [ov] (getMethod ov m pl)
      callWith pos f first (backTo pos (starEach [] X.env)) (backToKw pos (keywordEach [] X.env))) := by rfl) :
    PE X (.Call (.Attribute o m apos) [] [] pos) (tMethR C m sp E ta tNil) := by
  refine ⟨fun pins s σ H Q I h => ?_⟩
  refine PySem.W.methodCall_KW (pl := pl) (thn (he.run pins s σ H _ I h) fun u s1 ⟨x, H1, I1, rx, a, dx, fs, ex, ea, l, q⟩ => ?_) ht
  subst ex
  obtain rfl : u = Value.ref a := rx
  refine getmeth_ok I1 ea c hm l ?_
  exact PySem.W.callWith_K0 (first := [.ref a]) I1.kIn hm.kp (wpAny_call (run_fnR (us := [.ref a]) (vs := [.ref a]) F hr hx I1 (.cons rfl .nil) q))
section
variable {P : Program} {w : World} {K : PySem.W.Frag} {mg : Str → Option Value} {base : Heap}
theorem sc__law_all_offers : FnScope N__law_all_offers N__law_all_offers (defScope s__law_all_offers) := ⟨rfl, rfl, rfl, by decide +kernel, rfl, by decide +kernel, by decide +kernel⟩
theorem ok__law_all_offers {f fW CP CL CT cO : Addr} {fd : FuncData} (F : Fun K "_law_all_offers" "_law_all_offers" s__law_all_offers f fd) (T : PlF K mg CP) (z_len : mg "len" = none) (cM : Meth K CP "with_offers" fW) (Wo : FnR P w K mg base (L2.CX P w) 12 fW (spWR K CP CL CT cO)) :
    FnOk P w K mg base (L2.CX P w) 13 f fd N__law_all_offers (spAO K CP CL CT cO) := by
  refine F.okX sc__law_all_offers (fun vs H Q E ⟨a, b, pl, xs, ds, e, _⟩ => by rw [e]; rfl) (fun cdv A outer s H vs Q E hr h => ?_)
  obtain ⟨a, b, pl, xs, ds, rfl, pa, g, hb, hD, hok, h4, alt⟩ := h
  have nd := sc__law_all_offers.nd
  have px : Passes (L2.CX P w) (cxOf (L2.CX P w) P w K mg base N__law_all_offers "_law_all_offers" (defScope s__law_all_offers) f cdv A outer s H E) E := passes_call (takes_of rfl rfl rfl rfl) (fun _ _ _ _ h => h)
  refine ⟨_, (pss_cons (ps_if (pt_cmpR op_eq (pe_callB call_len_seq (by rfl) z_len PySem.boot_len (pa_cons (pv 1) pa_nil)) pe_int (nomark _)) (pss_one (ps_ret (pe_methR0 (pv 0) T.cl cM Wo hr px))) pss_nil)
      (pss_cons (ps_if (pt_cmpR op_eq (pe_callB call_len_seq (by rfl) z_len PySem.boot_len (pa_cons (pv 1) pa_nil)) pe_int (nomark _)) (pss_one (ps_ret (pe_methR (pv 0) T.cl cM Wo hr px (pa_cons (pe_ix ix_list (pv 1) pe_int (fun _ _ => rfl)) pa_nil)))) pss_nil)
      (pss_cons (ps_if (pt_cmpR op_eq (pe_callB call_len_seq (by rfl) z_len PySem.boot_len (pa_cons (pv 1) pa_nil)) pe_int (nomark _)) (pss_one (ps_ret (pe_methR (pv 0) T.cl cM Wo hr px (pa_cons (pe_ix ix_list (pv 1) pe_int (fun _ _ => rfl)) (pa_cons (pe_ix ix_list (pv 1) pe_int (fun _ _ => rfl)) pa_nil))))) pss_nil)
      (pss_cons (ps_if (pt_cmpR op_eq (pe_callB call_len_seq (by rfl) z_len PySem.boot_len (pa_cons (pv 1) pa_nil)) pe_int (nomark _)) (pss_one (ps_ret (pe_methR (pv 0) T.cl cM Wo hr px (pa_cons (pe_ix ix_list (pv 1) pe_int (fun _ _ => rfl)) (pa_cons (pe_ix ix_list (pv 1) pe_int (fun _ _ => rfl)) (pa_cons (pe_ix ix_list (pv 1) pe_int (fun _ _ => rfl)) pa_nil)))))) pss_nil)
      (pss_one (ps_ret (pe_methR (pv 0) T.cl cM Wo hr px (pa_cons (pe_ix ix_list (pv 1) pe_int (fun _ _ => rfl)) (pa_cons (pe_ix ix_list (pv 1) pe_int (fun _ _ => rfl)) (pa_cons (pe_ix ix_list (pv 1) pe_int (fun _ _ => rfl)) (pa_cons (pe_ix ix_list (pv 1) pe_int (fun _ _ => rfl)) pa_nil))))))))))), ?_⟩
  obtain ⟨dx, aL, aT, ha, _⟩ := id pa
  have go : ∀ vs : List V, vs = .ref a :: xs → spWR K CP CL CT cO vs H Q E := fun vs e => by
    refine ⟨[.ref a], xs, e, rfl, Nat.le_trans h4 (by decide), fun p np => ?_⟩
    have s1 := same_fresh (o := .tup xs) np
    refine ⟨a, p, pl, xs, ds, rfl, pa.same s1, g, SqT.of upd_same, hD.up s1, hok, ?_⟩
    rcases alt with ⟨os, e1, e2, k⟩ | ⟨i, d, e1, e2, e3, k⟩
    · exact .inl ⟨os, e1, e2, fun x H' s2 => k x H' (s1.trans s2)⟩
    · exact .inr ⟨i, d, e1, e2, e3, fun dd H' eo => k dd H' (eo.pre s1)⟩
  match xs, h4, hb, go with
  | [], _, hb, go =>
    refine ⟨_, rfl, b, _, rfl, .inl hb, rfl, _, rfl, iteT ?_⟩
    exact ⟨_, rfl, a, dx, _, rfl, ha, rfl, go _ rfl⟩
  | [x0], _, hb, go =>
    refine ⟨_, rfl, b, _, rfl, .inl hb, rfl, _, rfl, iteF ?_⟩
    refine ⟨_, rfl, b, _, rfl, .inl hb, rfl, _, rfl, iteT ?_⟩
    exact ⟨_, rfl, a, dx, _, rfl, ha, rfl, _, rfl, b, _, _, _, rfl, rfl, hb, rfl, go _ rfl⟩
  | [x0, x1], _, hb, go =>
    refine ⟨_, rfl, b, _, rfl, .inl hb, rfl, _, rfl, iteF ?_⟩
    refine ⟨_, rfl, b, _, rfl, .inl hb, rfl, _, rfl, iteF ?_⟩
    refine ⟨_, rfl, b, _, rfl, .inl hb, rfl, _, rfl, iteT ?_⟩
    exact ⟨_, rfl, a, dx, _, rfl, ha, rfl, _, rfl, b, _, _, _, rfl, rfl, hb, rfl, _, rfl, b, _, _, _, rfl, rfl, hb, rfl, go _ rfl⟩
  | [x0, x1, x2], _, hb, go =>
    refine ⟨_, rfl, b, _, rfl, .inl hb, rfl, _, rfl, iteF ?_⟩
    refine ⟨_, rfl, b, _, rfl, .inl hb, rfl, _, rfl, iteF ?_⟩
    refine ⟨_, rfl, b, _, rfl, .inl hb, rfl, _, rfl, iteF ?_⟩
    refine ⟨_, rfl, b, _, rfl, .inl hb, rfl, _, rfl, iteT ?_⟩
    exact ⟨_, rfl, a, dx, _, rfl, ha, rfl, _, rfl, b, _, _, _, rfl, rfl, hb, rfl, _, rfl, b, _, _, _, rfl, rfl, hb, rfl, _, rfl, b, _, _, _, rfl, rfl, hb, rfl, go _ rfl⟩
  | [x0, x1, x2, x3], _, hb, go =>
    refine ⟨_, rfl, b, _, rfl, .inl hb, rfl, _, rfl, iteF ?_⟩
    refine ⟨_, rfl, b, _, rfl, .inl hb, rfl, _, rfl, iteF ?_⟩
    refine ⟨_, rfl, b, _, rfl, .inl hb, rfl, _, rfl, iteF ?_⟩
    refine ⟨_, rfl, b, _, rfl, .inl hb, rfl, _, rfl, iteF ?_⟩
    exact ⟨_, rfl, a, dx, _, rfl, ha, rfl, _, rfl, b, _, _, _, rfl, rfl, hb, rfl, _, rfl, b, _, _, _, rfl, rfl, hb, rfl, _, rfl, b, _, _, _, rfl, rfl, hb, rfl, _, rfl, b, _, _, _, rfl, rfl, hb, rfl, go _ rfl⟩
  | _ :: _ :: _ :: _ :: _ :: r, n, _, _ => exact absurd n (by simp only [List.length_cons]; omega)
end
end Own

set_option linter.unusedVariables false
namespace Own
open PySem L2 ClX PySem.HandSPX
abbrev s__law_offered : Stmt := topT 74
abbrev N__law_offered : List Str := ["_law_plan", "_law_offer", "_law_late", "_law_word", "_law_others", "_law_rooms", "_law_at", "_law_point"]
def putDs (ds : List (Str × PyData)) (z : Str) (d : PyData) : List (Str × PyData) := if (ds.any fun q => decide (q.1 = z)) = true then ds.map (fun q => if q.1 = z then (q.1, d) else q) else ds ++ [(z, d)]
theorem has_scans (pl : Plan) : ((planL pl).any fun q => decide (q.1 = "scans")) = true := List.any_eq_true.mpr ⟨_, List.mem_of_getElem? (i := 1) rfl, decide_eq_true rfl⟩
theorem put_scans (pl : Plan) (ss : List Int) : putDs (planL pl) "scans" (.list (ss.map .int)) = planL { pl with scans := ss } := by
  unfold putDs
  rw [has_scans, if_pos rfl]
  unfold planL
  simp only [List.map_cons, List.map_nil]
  rw [if_neg (show ¬ (("belts" : Str) = "scans") by decide +kernel), if_pos trivial, if_neg (show ¬ (("slips" : Str) = "scans") by decide +kernel), if_neg (show ¬ (("words" : Str) = "scans") by decide +kernel), if_neg (show ¬ (("stretch" : Str) = "scans") by decide +kernel), if_neg (show ¬ (("rooms" : Str) = "scans") by decide +kernel), if_neg (show ¬ (("seek" : Str) = "scans") by decide +kernel), if_neg (show ¬ (("empty" : Str) = "scans") by decide +kernel), if_neg (show ¬ (("strange" : Str) = "scans") by decide +kernel), if_neg (show ¬ (("pause" : Str) = "scans") by decide +kernel)]
theorem has_stretch (pl : Plan) : ((planL pl).any fun q => decide (q.1 = "stretch")) = true := List.any_eq_true.mpr ⟨_, List.mem_of_getElem? (i := 4) rfl, decide_eq_true rfl⟩
theorem put_stretch (pl : Plan) (n : Option Int) : putDs (planL pl) "stretch" (optDD n) = planL { pl with stretch := n } := by
  unfold putDs
  rw [has_stretch, if_pos rfl]
  unfold planL
  simp only [List.map_cons, List.map_nil]
  rw [if_neg (show ¬ (("belts" : Str) = "stretch") by decide +kernel), if_neg (show ¬ (("scans" : Str) = "stretch") by decide +kernel), if_neg (show ¬ (("slips" : Str) = "stretch") by decide +kernel), if_neg (show ¬ (("words" : Str) = "stretch") by decide +kernel), if_pos trivial, if_neg (show ¬ (("rooms" : Str) = "stretch") by decide +kernel), if_neg (show ¬ (("seek" : Str) = "stretch") by decide +kernel), if_neg (show ¬ (("empty" : Str) = "stretch") by decide +kernel), if_neg (show ¬ (("strange" : Str) = "stretch") by decide +kernel), if_neg (show ¬ (("pause" : Str) = "stretch") by decide +kernel)]
theorem has_rooms (pl : Plan) : ((planL pl).any fun q => decide (q.1 = "rooms")) = true := List.any_eq_true.mpr ⟨_, List.mem_of_getElem? (i := 5) rfl, decide_eq_true rfl⟩
theorem put_rooms (pl : Plan) (rs : List Int) : putDs (planL pl) "rooms" (.list (rs.map .int)) = planL { pl with rooms := rs } := by
  unfold putDs
  rw [has_rooms, if_pos rfl]
  unfold planL
  simp only [List.map_cons, List.map_nil]
  rw [if_neg (show ¬ (("belts" : Str) = "rooms") by decide +kernel), if_neg (show ¬ (("scans" : Str) = "rooms") by decide +kernel), if_neg (show ¬ (("slips" : Str) = "rooms") by decide +kernel), if_neg (show ¬ (("words" : Str) = "rooms") by decide +kernel), if_neg (show ¬ (("stretch" : Str) = "rooms") by decide +kernel), if_pos trivial, if_neg (show ¬ (("seek" : Str) = "rooms") by decide +kernel), if_neg (show ¬ (("empty" : Str) = "rooms") by decide +kernel), if_neg (show ¬ (("strange" : Str) = "rooms") by decide +kernel), if_neg (show ¬ (("pause" : Str) = "rooms") by decide +kernel)]
theorem has_seek (pl : Plan) : ((planL pl).any fun q => decide (q.1 = "seek")) = true := List.any_eq_true.mpr ⟨_, List.mem_of_getElem? (i := 6) rfl, decide_eq_true rfl⟩
theorem put_seek (pl : Plan) (n : Int) : putDs (planL pl) "seek" (.int n) = planL { pl with seek := n } := by
  unfold putDs
  rw [has_seek, if_pos rfl]
  unfold planL
  simp only [List.map_cons, List.map_nil]
  rw [if_neg (show ¬ (("belts" : Str) = "seek") by decide +kernel), if_neg (show ¬ (("scans" : Str) = "seek") by decide +kernel), if_neg (show ¬ (("slips" : Str) = "seek") by decide +kernel), if_neg (show ¬ (("words" : Str) = "seek") by decide +kernel), if_neg (show ¬ (("stretch" : Str) = "seek") by decide +kernel), if_neg (show ¬ (("rooms" : Str) = "seek") by decide +kernel), if_pos trivial, if_neg (show ¬ (("empty" : Str) = "seek") by decide +kernel), if_neg (show ¬ (("strange" : Str) = "seek") by decide +kernel), if_neg (show ¬ (("pause" : Str) = "seek") by decide +kernel)]
theorem has_empty (pl : Plan) : ((planL pl).any fun q => decide (q.1 = "empty")) = true := List.any_eq_true.mpr ⟨_, List.mem_of_getElem? (i := 7) rfl, decide_eq_true rfl⟩
theorem put_empty (pl : Plan) (z : Str) : putDs (planL pl) "empty" (.str z) = planL { pl with empty := z } := by
  unfold putDs
  rw [has_empty, if_pos rfl]
  unfold planL
  simp only [List.map_cons, List.map_nil]
  rw [if_neg (show ¬ (("belts" : Str) = "empty") by decide +kernel), if_neg (show ¬ (("scans" : Str) = "empty") by decide +kernel), if_neg (show ¬ (("slips" : Str) = "empty") by decide +kernel), if_neg (show ¬ (("words" : Str) = "empty") by decide +kernel), if_neg (show ¬ (("stretch" : Str) = "empty") by decide +kernel), if_neg (show ¬ (("rooms" : Str) = "empty") by decide +kernel), if_neg (show ¬ (("seek" : Str) = "empty") by decide +kernel), if_pos trivial, if_neg (show ¬ (("strange" : Str) = "empty") by decide +kernel), if_neg (show ¬ (("pause" : Str) = "empty") by decide +kernel)]
theorem has_strange (pl : Plan) : ((planL pl).any fun q => decide (q.1 = "strange")) = true := List.any_eq_true.mpr ⟨_, List.mem_of_getElem? (i := 8) rfl, decide_eq_true rfl⟩
theorem put_strange (pl : Plan) (z : Str) : putDs (planL pl) "strange" (.str z) = planL { pl with strange := z } := by
  unfold putDs
  rw [has_strange, if_pos rfl]
  unfold planL
  simp only [List.map_cons, List.map_nil]
  rw [if_neg (show ¬ (("belts" : Str) = "strange") by decide +kernel), if_neg (show ¬ (("scans" : Str) = "strange") by decide +kernel), if_neg (show ¬ (("slips" : Str) = "strange") by decide +kernel), if_neg (show ¬ (("words" : Str) = "strange") by decide +kernel), if_neg (show ¬ (("stretch" : Str) = "strange") by decide +kernel), if_neg (show ¬ (("rooms" : Str) = "strange") by decide +kernel), if_neg (show ¬ (("seek" : Str) = "strange") by decide +kernel), if_neg (show ¬ (("empty" : Str) = "strange") by decide +kernel), if_pos trivial, if_neg (show ¬ (("pause" : Str) = "strange") by decide +kernel)]
theorem has_pause (pl : Plan) : ((planL pl).any fun q => decide (q.1 = "pause")) = true := List.any_eq_true.mpr ⟨_, List.mem_of_getElem? (i := 9) rfl, decide_eq_true rfl⟩
theorem put_pause (pl : Plan) (z : Str) : putDs (planL pl) "pause" (.str z) = planL { pl with pause := z } := by
  unfold putDs
  rw [has_pause, if_pos rfl]
  unfold planL
  simp only [List.map_cons, List.map_nil]
  rw [if_neg (show ¬ (("belts" : Str) = "pause") by decide +kernel), if_neg (show ¬ (("scans" : Str) = "pause") by decide +kernel), if_neg (show ¬ (("slips" : Str) = "pause") by decide +kernel), if_neg (show ¬ (("words" : Str) = "pause") by decide +kernel), if_neg (show ¬ (("stretch" : Str) = "pause") by decide +kernel), if_neg (show ¬ (("rooms" : Str) = "pause") by decide +kernel), if_neg (show ¬ (("seek" : Str) = "pause") by decide +kernel), if_neg (show ¬ (("empty" : Str) = "pause") by decide +kernel), if_neg (show ¬ (("strange" : Str) = "pause") by decide +kernel), if_pos trivial]
theorem KvD.anyG {K : PySem.W.Frag} {G : Hp} {z : Str} : ∀ {kvs : List (Key × V)} {ds : List (Str × PyData)}, KvD K G kvs ds → (kvs.any fun kv => decide (kv.1 = (Sum.inr z : Key))) = ds.any fun q => decide (q.1 = z)
  | _, _, .nil => rfl
  | _, _, .cons (k := y) _ t => by
    rw [List.any_cons, List.any_cons, KvD.anyG t]
    congr 1
    exact decide_eq_decide.mpr ⟨fun q => Sum.inr.inj q, fun q => congrArg Sum.inr q⟩
theorem KvD.mapG {K : PySem.W.Frag} {G : Hp} {z : Str} {v : V} {d : PyData} (hv : De K G v d) : ∀ {kvs : List (Key × V)} {ds : List (Str × PyData)}, KvD K G kvs ds → KvD K G (kvs.map fun kv => if kv.1 = (Sum.inr z : Key) then (kv.1, v) else kv) (ds.map fun q => if q.1 = z then (q.1, d) else q)
  | _, _, .nil => .nil
  | _, _, .cons (k := y) h t => by
    have ih := KvD.mapG (z := z) hv t
    rw [List.map_cons, List.map_cons]
    by_cases e : y = z
    · rw [if_pos (show (Sum.inr y : Key) = Sum.inr z by rw [e]), if_pos e]
      exact .cons hv ih
    · rw [if_neg (fun q => e (Sum.inr.inj q)), if_neg e]
      exact .cons h ih
theorem KvD.putG {K : PySem.W.Frag} {G : Hp} {z : Str} {v : V} {d : PyData} {kvs : List (Key × V)} {ds : List (Str × PyData)} (h : KvD K G kvs ds) (hv : De K G v d) (ha : (ds.any fun q => decide (q.1 = z)) = true) : KvD K G (putK kvs (Sum.inr z) v) (putDs ds z d) := by
  unfold putK putDs
  rw [KvD.anyG h, ha, if_pos rfl, if_pos rfl]
  exact KvD.mapG hv h
theorem je_at {K : PySem.W.Frag} {Γ : Ctx} {te : TE} {R : Rp} {σ : L2.St} {G H : Hp} {Q : VK} (h : JE Am.no K Γ te R) (ev : Env K Γ σ [] G) (s : Same G H) (q : ∀ v G2 H2, Same G G2 → Same G2 H2 → Same H H2 → (∀ b, G b = none → H b ≠ none → G2 b = none) → R.p v G2 → Q v H2) : te σ H Q :=
  h σ [] G ev G H (Same.refl _) s ⟨fun q hq => (List.not_mem_nil hq).elim, fun a z => z.elim, trivial, trivial⟩ Q fun v G2 H2 g r => q v G2 H2 g.g g.s (fun a o e => g.h a o (fun z => z) e) (fun b z n => g.n b z n) r
theorem tset_at {K : PySem.W.Frag} {Γ : Ctx} {te : TE} {R : Rp} {u : TS} {Ds : Ends} {i : Nat} {σ : L2.St} {G H : Hp} (h : JE Am.no K Γ te R) (ev : Env K Γ σ [] G) (s : Same G H) (q : ∀ v G2 H2, Same G G2 → Same G2 H2 → Same H H2 → (∀ b, G b = none → H b ≠ none → G2 b = none) → R.p v G2 → u Ds (σ.set i (some v)) H2) : tSeq (tAsg te (gName i)) u Ds σ H := je_at h ev s q
theorem tput_at {K : PySem.W.Frag} {Γ : Ctx} {te td ty : TE} {R : Rp} {Ds : Ends} {σ : L2.St} {G H : Hp} (h : JE Am.no K Γ te R) (ev : Env K Γ σ [] G) (s : Same G H) (q : ∀ v G2 H2, Same G G2 → Same G2 H2 → Same H H2 → (∀ b, G b = none → H b ≠ none → G2 b = none) → R.p v G2 → td σ H2 fun x H2 => ty σ H2 fun y H3 => ∃ a H4, x = .ref a ∧ DPut H3 a y v H4 ∧ Ds.nx σ H4) : sDPut td ty te Ds σ H := je_at h ev s q
theorem ct_take {α : Type} (xs : List α) (k : Nat) (h : k ≤ xs.length) : cutD xs none (some (k : Int)) = xs.take k := by
  unfold cutD
  rw [HT.sIx_nat, HT.sIx_none, List.drop_zero, Nat.sub_zero, Nat.min_eq_left h]
theorem ct_drop {α : Type} (xs : List α) (k : Nat) (h : k ≤ xs.length) : cutD xs (some (k : Int)) none = xs.drop k := by
  unfold cutD
  rw [HT.sIx_nat, HT.sIx_none, Nat.min_eq_left h, ← List.length_drop, List.take_length]
def spOfd (K : PySem.W.Frag) : Sp := fun vs H Q _ => ∃ (vD vt : V) (pl : Plan) (o : Off), vs = [vD, vt] ∧ (RDic K (planL pl)).p vD H ∧ De K H vt o.d ∧ GoodP pl ∧ o.ok pl.belts.length ∧ ∀ v H', Same H H' → (RDic K (planL (pl.off o))).p v H' → Q v H'
section
variable {P : Program} {w : World} {K : PySem.W.Frag} {mg : Str → Option Value} {base : Heap}
theorem sc__law_offered : FnScope N__law_offered ["_law_plan", "_law_offer"] (defScope s__law_offered) := ⟨rfl, rfl, rfl, by decide +kernel, rfl, by decide +kernel, by decide +kernel⟩
theorem ok__law_offered {f : Addr} {fd : FuncData} (F : Fun K "_law_offered" "_law_offered" s__law_offered f fd) (z_dict : mg "dict" = none) (z_sorted : mg "sorted" = none) : FnOk P w K mg base CX0 1 f fd ["_law_plan", "_law_offer"] (spOfd K) := by
  refine F.ok sc__law_offered (fun vs H Q E ⟨_, _, _, _, e, _⟩ => by rw [e]; rfl) (fun cdv A outer s H vs Q E hr h => ?_)
  obtain ⟨vD, vt, pl, o, rfl, ⟨D0, kvs, rfl, hD, hkv⟩, ho, g, ok, k⟩ := h
  have nd := sc__law_offered.nd
  have hu : (A.deeper (PyProof.Rows.envOfC "_law_offered" (defScope s__law_offered) s.heap.objs.size f cdv)).units + 1 < cLine := by have := hr.units; omega
  refine ⟨_, PSs.nox (pss_cons (ps_par (i := 2) (j := 3) (by rfl) nd rfl rfl (by decide) rfl rfl (pa_cons (pe_callTy call_dictD (by rfl) z_dict (by decide +kernel) (pa_cons (pv 0) pa_nil)) (pa_cons (pe_ix ix_tup (pv 1) pe_int (fun _ _ => rfl)) pa_nil)) (by rfl))
      (pss_cons (ps_if (pt_cmpR op_in_seq (pv 3) (pe_tup (pa_cons pe_str (pa_cons pe_str pa_nil))) (by rfl)) (pss_cons (ps_setLc (i := 4) (own := [("_law_point", 7)]) (g := (gName 7)) rfl nd rfl rfl (sw_true rfl rfl rfl (by decide +kernel)) (pi_list (pe_dget hu (pv 0) pe_str (fun _ _ => rfl))) (blkOk_by (N := N__law_offered) (sc := defScope s__law_offered) (by decide +kernel)) (fun _ _ _ _ _ => pg_name (i := 7) nd rfl (Or.inl rfl)) (fun _ _ _ _ _ => pts_one (pt_cmpR op_ne (pv 7) (pe_ix (show IxR _ (rIxT K) from ix_tup) (pv 1) pe_int (fun _ _ => rfl)) (nomark _))) (fun _ _ _ _ _ => pv 7))
      (pss_one (ps_dput hu (pv 2) pe_str (pe_ifExp (pt_cmpR op_eq (pv 3) pe_str (nomark _)) (pe_callB cr_sortedI (by rfl) z_sorted PyProof.Rows.boot_sorted (pa_cons (pe_op op_cat (pv 4) (pe_lst (pa_cons (pe_ix ix_tup (pv 1) pe_int (fun _ _ => rfl)) pa_nil))) pa_nil)) (pv 4)) rfl))) (pss_one (ps_if (pt_cmpR op_eq (pv 3) pe_str (nomark _)) (pss_cons (ps_par (i := 5) (j := 6) (by rfl) nd rfl rfl (by decide) rfl rfl (pa_cons (pe_dget hu (pv 0) pe_str (fun _ _ => rfl)) (pa_cons (pe_ix ix_tup (pv 1) pe_int (fun _ _ => rfl)) pa_nil)) (by rfl))
      (pss_one (ps_dput hu (pv 2) pe_str (pe_op op_cat (pe_op op_cat (pe_slice sl_list (pv 5) po_none (po_some (pe_op op_sub (pv 6) pe_int))) (pe_lst (pa_cons (pe_ix ix_tup (pv 1) pe_int (fun _ _ => rfl)) pa_nil))) (pe_slice sl_list (pv 5) (po_some (pv 6)) po_none)) rfl))) (pss_one (ps_dput hu (pv 2) (pv 3) (pe_ix ix_tup (pv 1) pe_int (fun _ _ => rfl)) rfl)))))
      (pss_one (ps_ret (pv 2))))), ?_⟩
  obtain ⟨t, rfl, ht⟩ := off_vs (De.dp ho)
  refine ⟨_, rfl, D0, kvs, rfl, .inl hD, fun p np => ?_⟩
  have s1 := same_fresh (o := .dK kvs) np
  refine ⟨_, rfl, t, _, _, _, rfl, rfl, sqT_same ht s1, off_at0 o, _, _, rfl, ?_⟩
  have ht1 := sqT_same ht s1
  have G0 : ∀ {H2 : Hp}, Same (upd H p (.dK kvs)) H2 → H2 p = some (.dK kvs) := fun s => s _ _ upd_same
  have len : kvs.length < sizeLine := by
    have : ∀ {kvs : List (Key × V)} {ds : List (Str × PyData)}, KvD K H kvs ds → kvs.length = ds.length := fun h => by
      induction h with
      | nil => rfl
      | cons _ _ ih => exact congrArg (· + 1) ih
    rw [this hkv]
    show 10 < sizeLine
    decide
  have np2 : ∀ {G2 : Hp}, (∀ b, H b = none → upd H p (.dK kvs) b ≠ none → G2 b = none) → G2 p = none := fun n => n p np (by rw [upd_same]; exact fun z => nomatch z)
  -- the end: a value put at a key
  have fin : ∀ (z : Str) (d : PyData) (v : V) (G2 H2 : Hp) (pl2 : Plan), Same H G2 → Same G2 H2 → G2 p = none → De K G2 v d → ((planL pl).any fun q => decide (q.1 = z)) = true → putDs (planL pl) z d = planL pl2 → pl.off o = pl2 → Same H (upd H2 p (.dK (putK kvs (Sum.inr z) v))) ∧ (RDic K (planL (pl.off o))).p (.ref p) (upd H2 p (.dK (putK kvs (Sum.inr z) v))) := fun z d v G2 H2 pl2 sa sb n hv ha hp ho => by
    have s2 : Same G2 (upd H2 p (.dK (putK kvs (Sum.inr z) v))) := fun b u e => by
      rw [upd_ne (ne_of_none e n)]
      exact sb _ _ e
    refine ⟨sa.trans s2, p, _, rfl, upd_same, ?_⟩
    rw [ho, ← hp]
    exact ((hkv.up sa).putG hv ha).up s2
  have ev : Env K ([RDic K (planL pl), D K o.d].map Ce.is ++ List.replicate (8 - 2) .no) (start N__law_offered [.ref D0, .ref t]) [] H := Env.start (Rs := [RDic K (planL pl), D K o.d]) (vs := [.ref D0, .ref t]) N__law_offered ⟨_, _, rfl, ⟨D0, kvs, rfl, hD, hkv⟩, _, _, rfl, ho, rfl⟩ (by show 2 ≤ 8; decide)
  have ev2 := (ev.set (i := 2) (v := .ref p) (R := RIs (.ref p)) (by show 2 < 8; decide) rfl).set (i := 3) (v := .str o.wd) (R := D K (.str o.wd)) (by show 3 < 8; decide) (.str _)
  refine ⟨_, rfl, by show 2 ≤ sizeLine; decide, fun p2 np2' => ?_⟩
  have s2 := s1.trans (same_fresh (o := .tup [.str "scan", .str "eye"]) np2')
  have hp1 : upd (upd H p (.dK kvs)) p2 (.tup [.str "scan", .str "eye"]) p = some (.dK kvs) := by
    rw [upd_ne (fun z => by rw [← z, upd_same] at np2'; exact nomatch np2'), upd_same]
  refine ⟨p2, _, rfl, .inr (SqT.of upd_same), rfl, rfl, _, rfl, ?_⟩
  generalize upd (upd H p (.dK kvs)) p2 (.tup [.str "scan", .str "eye"]) = H1 at s2 hp1
  have nn : H1 p ≠ none := by rw [hp1]; exact fun z => nomatch z
  refine ite2 (fun c => ?_) (fun c => ?_)
  · obtain ⟨q, hq⟩ := w_se (o := o) (by simpa using c)
    have hq2 : atI o.ds 1 = some (.int q) ∧ 1 ≤ q ∧ q < (pl.belts.length : Int) := by
      rcases hq with rfl | rfl <;> exact ⟨rfl, ok.1, ok.2⟩
    have sl : pl.scans.length ≤ 2 := g.ok.sl
    have so : (outI q pl.scans).length ≤ 2 := Nat.le_trans (outI_sub q pl.scans).length_le sl
    refine tset_at (K := K) (R := D K (.list ((outI q pl.scans).map PyData.int))) (j_lcIf (K := K) pl.scans PyData.int (fun x => !decide (x = q)) PyData.int (by show 7 < 8; decide) (ji_listM (j_dget (j_v rfl) rfl)) (by exact Nat.lt_of_le_of_lt sl (by decide)) (fun x hx => jt_test (j_neI (j_v rfl) (j_ixT (j_v rfl) (j_int 1) hq2.1))) (fun x hx _ => j_v rfl)) ev2 s2 fun v1 G2 H2 a1 a2 a3 a4 r1 => ?_
    have ev3 := (ev2.up a1).set (i := 4) (v := v1) (R := D K (.list ((outI q pl.scans).map PyData.int))) (by show 4 < 8; decide) r1
    have gp := a4 p np nn
    have hp2 := a3 _ _ hp1
    have nn2 : H2 p ≠ none := by rw [hp2]; exact fun z => nomatch z
    refine tput_at (K := K) (R := D K (.list ((pl.off o).scans.map PyData.int))) (j_ite (jt_test (j_eqS (j_v rfl) (j_str "scan"))) (fun e => ?_) (fun e => ?_)) ev3 a2 fun v2 G3 H3 b1 b2 b3 b4 r2 => ?_
    · rcases hq with rfl | rfl
      · exact j_sorted (ns := outI q pl.scans ++ [q]) (ms := sortI (outI q pl.scans ++ [q])) ((j_catL (j_v rfl) (j_lst (jl_cons (j_ixT (j_v rfl) (j_int 1) hq2.1) jl_nil) (by show 1 ≤ sizeLine; decide)) (by rw [List.length_map]; exact Nat.le_trans (by show _ + 1 ≤ 3; omega) (by decide))).eq (by rw [List.map_append]; rfl)) (sortI_perm _) (sortI_sorted _)
      · exact absurd (of_decide_eq_true e) (by show ¬ (("eye" : Str) = "scan"); decide +kernel)
    · rcases hq with rfl | rfl
      · exact absurd rfl (of_decide_eq_false e)
      · exact j_v rfl
    · obtain ⟨x1, x2⟩ := fin "scans" _ v2 G3 H3 { pl with scans := (pl.off o).scans } (a1.trans b1) b2 (b4 p gp nn2) r2 (has_scans pl) (put_scans pl _) (by rcases hq with rfl | rfl <;> rfl)
      exact ⟨_, rfl, p, _, rfl, .inl ⟨kvs, Sum.inr "scans", b3 _ _ hp2, rfl, len, rfl⟩, _, rfl, k _ _ x1 x2⟩
  refine ⟨_, rfl, rfl, _, rfl, ?_⟩
  refine ite2 (fun c2 => ?_) (fun c2 => ?_)
  · obtain ⟨i, q, rfl⟩ : ∃ i q, o = .room i q := by
      have h := V.str.inj (of_decide_eq_true c2)
      cases o with
      | room i q => exact ⟨i, q, rfl⟩
      | _ => dsimp only [Off.wd] at h; exfalso; revert h; decide +kernel
    obtain ⟨h1, h2, h3, h4⟩ := ok
    have rl : pl.rooms.length = pl.belts.length := g.rl
    have n3 : pl.belts.length ≤ 3 := g.ok.n3
    refine je_at (K := K) (te := tDGet (tVar 0) (tC (.str "rooms"))) (R := D K (.list (pl.rooms.map PyData.int))) (j_dget (j_v rfl) rfl) ev2 s2 fun v1 G2 H2 a1 a2 a3 a4 r1 => ?_
    have hp2 := a3 _ _ hp1
    have nn2 : H2 p ≠ none := by rw [hp2]; exact fun z => nomatch z
    refine ⟨_, rfl, t, _, _, _, rfl, rfl, sqT_same (sqT_same ht s2) a3, rfl, _, _, rfl, ?_⟩
    have ev3 := ((ev2.up a1).set (i := 5) (v := v1) (R := D K (.list (pl.rooms.map PyData.int))) (by show 5 < 8; decide) r1).set (i := 6) (v := .int i) (R := D K (.int i)) (by show 6 < 8; decide) (.int _)
    refine tput_at (K := K) (R := D K (.list ((pl.off (.room i q)).rooms.map PyData.int))) ((j_catL (j_catL (j_slL (j_v rfl) jp_none (jp_some (j_sub (j_v rfl) (j_int 1)))) (j_lst (jl_cons (j_ixT (d := .int q) (j_v rfl) (j_int 2) rfl) jl_nil) (by show 1 ≤ sizeLine; decide)) ?_) (j_slL (j_v rfl) (jp_some (j_v rfl)) jp_none) ?_).eq ?_) ev3 a2 fun v2 G3 H3 b1 b2 b3 b4 r2 => ?_
    rotate_left 3
    · obtain ⟨x1, x2⟩ := fin "rooms" _ v2 G3 H3 { pl with rooms := (pl.off (.room i q)).rooms } (a1.trans b1) b2 (b4 p (a4 p np nn) nn2) r2 (has_rooms pl) (put_rooms pl _) rfl
      exact ⟨_, rfl, p, _, rfl, .inl ⟨kvs, Sum.inr "rooms", b3 _ _ hp2, rfl, len, rfl⟩, _, rfl, k _ _ x1 x2⟩
    all_goals obtain ⟨m, rfl⟩ : ∃ m : Nat, i = ((m + 1 : Nat) : Int) := ⟨(i - 1).toNat, by omega⟩
    all_goals have em : ((m + 1 : Nat) : Int) - 1 = (m : Nat) := by omega
    all_goals rw [em]
    · rw [ct_take _ _ (by rw [List.length_map]; omega), List.length_take, List.length_map]
      exact Nat.le_trans (show _ ≤ 4 by show min m pl.rooms.length + 1 ≤ 4; omega) (by decide)
    · rw [ct_take _ _ (by rw [List.length_map]; omega), ct_drop _ _ (by rw [List.length_map]; omega), List.length_append, List.length_take, List.length_drop, List.length_map]
      exact Nat.le_trans (show _ ≤ 10 by show min m pl.rooms.length + 1 + (pl.rooms.length - (m + 1)) ≤ 10; omega) (by decide)
    · show PyData.list _ = .list ((pl.rooms.set (((m + 1 : Nat) : Int) - 1).toNat q).map PyData.int)
      rw [em, Int.toNat_natCast, ct_take _ _ (by rw [List.length_map]; omega), ct_drop _ _ (by rw [List.length_map]; omega), List.map_set, List.set_eq_take_append_cons_drop, if_pos (by rw [List.length_map]; omega), List.append_assoc]
      rfl
  · have key : ∀ (z : Str) (v : V) (d : PyData) (pl2 : Plan), o.wd = z → atI o.vs 1 = some v → De K H v d → ((planL pl).any fun q => decide (q.1 = z)) = true → putDs (planL pl) z d = planL pl2 → pl.off o = pl2 →
        sDPut (tVar 2) (tVar 3) (tOp (rIxT K) (tVar 1) (tC (.int 1))) { nx := tRet (tVar 2) { nx := fun x H' => Q V.non H', rt := Q }, rt := Q } (((start N__law_offered [.ref D0, .ref t]).set 2 (some (.ref p))).set 3 (some (.str o.wd))) H1 := fun z v d pl2 ez e1 hv ha hp ho2 => by
      obtain ⟨x1, x2⟩ := fin z d v H H1 pl2 (Same.refl _) s2 np hv ha hp ho2
      refine ⟨_, rfl, t, _, _, _, rfl, rfl, sqT_same ht s2, e1, _, rfl, _, rfl, p, _, rfl, .inl ⟨kvs, Sum.inr o.wd, hp1, rfl, len, rfl⟩, _, rfl, ?_⟩
      rw [ez]
      exact k _ _ x1 x2
    cases o with
    | seek n => exact key "seek" (.int n) (.int n) _ rfl rfl (.int _) (has_seek pl) (put_seek pl n) rfl
    | empty n => exact key "empty" (.str n) (.str n) _ rfl rfl (.str _) (has_empty pl) (put_empty pl n) rfl
    | strange n => exact key "strange" (.str n) (.str n) _ rfl rfl (.str _) (has_strange pl) (put_strange pl n) rfl
    | pause n => exact key "pause" (.str n) (.str n) _ rfl rfl (.str _) (has_pause pl) (put_pause pl n) rfl
    | stretch n => exact key "stretch" (optV n) (optDD n) _ rfl rfl (by cases n with | none => exact .non | some m => exact .int m) (has_stretch pl) (put_stretch pl n) rfl
    | room i q => exact absurd (decide_eq_true rfl) c2
    | _ => dsimp only [Off.wd] at c; exfalso; revert c; decide +kernel
end
end Own

set_option linter.unusedVariables false
namespace Own
open PySem L2 PySem.Spec PyProof.Rows
/-! ### list(range(a, b)) -/
theorem size_up (a b : Int) : Builtin.Range.rangeSize a b 1 = ((b - a).toNat : Int) := by
  unfold Builtin.Range.rangeSize
  rw [if_pos (by decide)]
  split
  · rw [Int.ediv_one]; omega
  · omega
theorem small_up {a b : Int} (ha : -(2 ^ 62) ≤ a) (ha' : a < 2 ^ 62) (hb : -(2 ^ 62) ≤ b) (hb' : b < 2 ^ 62) : Builtin.Range.small a b 1 = true := by
  unfold Builtin.Range.small
  rw [size_up]
  simp only [Builtin.Range.rangeFitsLong, Bool.and_eq_true, Bool.or_eq_true, decide_eq_true_eq, beq_iff_eq, show ((1 : Int) > 0) by decide, if_true]
  refine ⟨⟨⟨⟨?_, ?_⟩, ?_⟩, ?_⟩, .inr ⟨?_, ?_⟩⟩ <;> omega
def upV (a b : Int) : List V := (List.range (b - a).toNat).map fun i => V.int (a + (i : Nat))
theorem vals_up {a b : Int} {acc : Array Value} (h : ItemsOf (fun i v => ∃ t, v = .int (a + i * 1) t) acc (b - a).toNat) : Vals (upV a b) acc.toList := by
  have e : acc.toList.length = (b - a).toNat := by rw [Array.length_toList]; exact h.1
  unfold upV
  rw [← e]
  refine vals_of_get acc.toList _ fun j u hj => ?_
  obtain ⟨t, rfl⟩ := h.2 j u (by rw [← hj, Array.getElem?_toList])
  exact ⟨t, by congr 1; omega⟩
def UpOk (a b : Int) : Prop := -(2 ^ 62) ≤ a ∧ a < 2 ^ 62 ∧ -(2 ^ 62) ≤ b ∧ b < 2 ^ 62 ∧ (b - a).toNat ≤ 2 ^ 24
def rListRng : List V → Hp → VK → Prop := fun xs H Q => ∃ r i j, xs = [.ref r] ∧ H r = some (.rng i j) ∧ UpOk i j ∧ ∀ l, H l = none → Q (.ref l) (upd H l (.lst (upV i j)))
section
variable {X : Cx}
theorem call_listRng (hc : X.calm = true) : CallR X (.type "list") rListRng := by
  intro pins s σ H xs us Q I r h
  obtain ⟨a, i, j, rfl, ha, ⟨b1, b2, b3, b4, b5⟩, q⟩ := h
  obtain ⟨u, rfl, rx⟩ := vals1 r
  cases rx
  obtain ⟨t1, t2, t3, ho⟩ := (show ObjOk X.prog X.w H s.heap a (.rng i j) from I.hok a _ ha)
  refine call_list_range (n := (j - i).toNat) (I.ok.hd hc) ho (small_up b1 b2 b3 b4) (size_up i j) b5 fun h' tk acc c' hk ho' hi => ?_
  refine ⟨.ref s.heap.objs.size, _, I.laid (t' := tk) hk (Nat.le_refl _) (show ObjOk X.prog X.w _ h' _ (.lst (upV i j)) from ⟨?_, acc.toList, c', vals_up hi, ?_⟩), rfl, q _ (I.hok.fresh (Nat.le_refl _))⟩
  · unfold upV; rw [List.length_map, List.length_range, sizeLine_eq]; omega
  · rw [Array.toArray_toList]; exact ho'
end
section
variable {M : Am} {K : PySem.W.Frag} {te : TE} {Γ : Ctx}
theorem ups_all (G : Hp) (i : Int) (l : List Nat) : DeAll K G (l.map fun k => V.int (i + (k : Nat))) (l.map fun k => PyData.int (i + (k : Nat))) := by
  induction l with
  | nil => exact .nil
  | cons x r ih => exact .cons (.int _) ih
theorem j_listRng {i j : Int} (h : JE M K Γ te (RRng i j)) (ok : UpOk i j) : JE M K Γ (tCB rListRng (tCons te tNil)) (D K (.list ((List.range (j - i).toNat).map fun k => PyData.int (i + (k : Nat))))) := fun σ O G ev G1 H1 s1 s2 o Q k =>
  h σ O G ev G1 H1 s1 s2 o _ fun v G2 H2 g ⟨a, e, ha⟩ => ⟨a, i, j, by rw [e], g.s _ _ ha, ok, fun l nl => k _ _ _ (g.trans (Gr.new g.s nl)) (.lst upd_same (ups_all _ _ _))⟩
end
end Own

set_option linter.all false
set_option linter.unusedVariables false
namespace Own
open PySem L2 PySem.Spec PyProof.Rows
section
variable {M : Am} {O : Bu} {K : PySem.W.Frag} {σ : L2.St} {G : Hp} {R Ra Rb : Rp} {te ta tb tc tk tv : TE} {tA tB' tt : TT} {t tr : TA} {Γ : Ctx} {P : Ctx → Prop} {ts u w' : TS}
/-! a list in work comes to rest -/
theorem Env.frz {i : Nat} {p : Addr} {xs : List V} {ds : List PyData} {O1 O2 : Bu} (e : Env K Γ σ (O1 ++ (p, .lst xs) :: O2) G) (h : Γ[i]? = some (.bl ds)) (hv : σ[i]? = some (some (.ref p))) (gp : G p = none) (r : DeAll K G xs ds) : Env K (Γ.set i (.is (D K (.list ds)))) σ (O1 ++ O2) (upd G p (.lst xs)) := by
  have hi : i < Γ.length := (List.getElem?_eq_some_iff.mp h).1
  have sf : Same G (upd G p (.lst xs)) := same_fresh gp
  have old : ∀ {j : Nat} {ds' : List PyData}, (Γ.set i (.is (D K (.list ds))))[j]? = some (.bl ds') → i ≠ j ∧ Γ[j]? = some (.bl ds') := fun {j ds'} h' => by
    have q : i ≠ j := fun z => by subst z; rw [List.getElem?_set_self hi] at h'; cases h'
    rw [List.getElem?_set_ne q] at h'
    exact ⟨q, h'⟩
  refine ⟨by rw [List.length_set]; exact e.len, fun j R' h' => ?_, fun j fs h' => ?_, fun j k fs gs a b n h1 h2 h3 h4 => e.ne j k _ _ a b n (old h1).2 (old h2).2 h3 h4, ?_⟩
  · by_cases q : i = j
    · subst q
      rw [List.getElem?_set_self hi] at h'
      cases h'
      exact ⟨.ref p, hv, .lst upd_same (r.up sf)⟩
    · rw [List.getElem?_set_ne q] at h'
      obtain ⟨v, h1, h2⟩ := e.is j R' h'
      exact ⟨v, h1, R'.up sf h2⟩
  · obtain ⟨q, h'⟩ := old h'
    obtain ⟨a, zs, g1, g2, g3⟩ := e.bl j fs h'
    have na : p ≠ a := e.ne i j ds fs p a q h h' hv g1
    refine ⟨a, zs, g1, ?_, g3.up sf⟩
    rcases List.mem_append.mp g2 with g2 | g2
    · exact List.mem_append_left _ g2
    · rcases List.mem_cons.mp g2 with g2 | g2
      · exact absurd (congrArg Prod.fst g2).symm na
      · exact List.mem_append_right _ g2
  · refine List.Sublist.nodup ?_ e.nd
    rw [List.map_append, List.map_append, List.map_cons]
    exact (List.Sublist.refl _).append (List.sublist_cons_self _ _)
theorem Stt.frz {G0 H0 G H : Hp} {O1 O2 : Bu} {p : Addr} {o : HO} (s : Stt M G0 H0 (O1 ++ (p, o) :: O2) G H) (hn : ∀ q ∈ O1 ++ O2, q.1 ≠ p) : Stt M G0 H0 (O1 ++ O2) (upd G p o) H := by
  have hp : (p, o) ∈ O1 ++ (p, o) :: O2 := List.mem_append_right _ List.mem_cons_self
  have h1 := s.ow.o _ hp
  have n0 := s.fr _ hp
  have mem : ∀ {q}, q ∈ O1 ++ O2 → q ∈ O1 ++ (p, o) :: O2 := fun {q} h => by
    rcases List.mem_append.mp h with h | h
    · exact List.mem_append_left _ h
    · exact List.mem_append_right _ (List.mem_cons_of_mem _ h)
  refine ⟨⟨s.gr.g.trans (same_fresh h1.2.1), s.gr.h, fun b u e => ?_, fun a e1 e2 => ?_, s.gr.i, s.gr.k⟩, ⟨fun q hq => ?_, fun a z => ?_, s.ow.i, M.fu (fun b u e => same_fresh h1.2.1 b u e) s.ow.f⟩, fun q hq => s.fr q (mem hq)⟩
  · by_cases hb : b = p
    · subst hb; rw [upd_same] at e; rw [h1.1]; exact e
    · rw [upd_ne hb] at e; exact s.gr.s _ _ e
  · rw [upd_ne (fun z => e2 (by rw [z]; exact n0))]
    exact s.gr.n a e1 e2
  · have q1 := s.ow.o q (mem hq)
    exact ⟨q1.1, by rw [upd_ne (hn q hq)]; exact q1.2.1, q1.2.2⟩
  · rw [upd_ne (fun z' => h1.2.2.1 (by rw [← z']; exact z))]
    exact s.ow.a a z
/-- a list in work comes to rest: from here on it is known, and none may change it -/
theorem js_frz {i : Nat} {ds : List PyData} (h : Γ[i]? = some (.bl ds)) (k : JS M K (Γ.set i (.is (D K (.list ds)))) ts R P) : JS M K Γ ts R P := fun G0 H0 σ O G ev G1 H1 D0 st s1 kr n => by
  obtain ⟨p, xs, O1, O2, h1, rfl, h3, h4⟩ := ev.split h
  have hp : (p, HO.lst xs) ∈ O1 ++ (p, .lst xs) :: O2 := List.mem_append_right _ List.mem_cons_self
  have np : G1 p = none := (st.ow.o _ hp).2.1
  exact k G0 H0 σ (O1 ++ O2) _ ((ev.up s1).frz h h1 np (h3.up s1)) _ H1 D0 (st.frz h4) (Same.refl _) kr fun σ' O' G2 H2 st' s2 q => n σ' O' G2 H2 st' ((same_fresh np).trans s2) q
/-! a call that gives a new list, which the caller may go on building -/
def spNew {α : Type} (A : α → List Rp) (K : PySem.W.Frag) (d : α → List PyData) (ok : α → Prop) : Sp := fun vs H Q _ => ∃ (x : α) (G : Hp), Same G H ∧ RAll (A x) vs G ∧ ok x ∧ ∀ p xs G' H', Gr Am.no G H G' H' → G' p = none → H p = none → H' p = some (.lst xs) → DeAll K G' xs (d x) → Q (.ref p) H'
theorem js_newC {α : Type} {A : α → List Rp} {d : α → List PyData} {ok : α → Prop} {E : XK} {i : Nat} (x : α) (h : JA M K Γ t (A x)) (hx : ok x) (hi : i < Γ.length) (k : JS M K (Γ.set i (.bl (d x))) u R P) : JS M K Γ (tSeq (tAsg (tCall (spNew A K d ok) [] E t) (gName i)) u) R P := fun G0 H0 σ O G ev G1 H1 D0 st s1 kr n =>
  h σ O G ev G1 H1 s1 st.gr.s st.ow _ fun vs G2 H2 g r => ⟨x, G2, g.s, by rw [List.append_nil]; exact r, hx, fun p xs G3 H3 g' np nH hp dd => by
    have gg := g.trans g'.of_no
    have st2 := st.to gg
    have nH1 : H1 p = none := by
      cases e : H1 p with
      | none => rfl
      | some o => exact absurd nH (fun z => by have := g.k _ z; rw [this] at e; cases e)
    have nO : ∀ q ∈ O, q.1 ≠ p := fun q hq z => by
      have := (st.to g).ow.o q hq
      rw [z, nH] at this
      cases this.1
    have st3 : Stt M G0 H0 ((p, .lst xs) :: O) G3 H3 := ⟨st2.gr, ⟨fun q hq => by
      rcases List.mem_cons.mp hq with rfl | hq
      · exact ⟨hp, np, Am.fresh (st.to g).ow.i nH, rfl⟩
      · exact st2.ow.o q hq, st2.ow.a, st2.ow.i, st2.ow.f⟩, fun q hq => by
      rcases List.mem_cons.mp hq with rfl | hq
      · exact st.gr.k _ nH1
      · exact st2.fr q hq⟩
    exact k G0 H0 _ _ _ ((ev.up (s1.trans gg.g)).new hi nO dd) G3 H3 D0 st3 (Same.refl _) kr fun σ'' O'' G4 H4 st'' s3 p' => n σ'' O'' G4 H4 st'' (gg.g.trans s3) p'⟩
/-! tests of tuples and lists by themselves -/
theorem jt_truT {ds : List PyData} (h : JE M K Γ ta (D K (.tuple ds))) : JT M K Γ (fun σ H Q => ta σ H fun x H' => ∃ k, TruV K x H' k ∧ Q k H') (!ds.isEmpty) := fun σ O G ev G1 H1 s1 s2 o Q k =>
  h σ O G ev G1 H1 s1 s2 o _ fun v G2 H2 g r => by
    obtain ⟨a, xs, rfl, q1, q2⟩ := D.tup r
    have e : xs.isEmpty = ds.isEmpty := by
      have := q2.length
      cases xs <;> cases ds <;> first | rfl | (simp at this)
    exact ⟨!ds.isEmpty, .inr (.inl ⟨xs, sqT_up g.s q1, by rw [e]⟩), k _ _ g⟩
theorem jt_truL {ds : List PyData} (h : JE M K Γ ta (D K (.list ds))) : JT M K Γ (fun σ H Q => ta σ H fun x H' => ∃ k, TruV K x H' k ∧ Q k H') (!ds.isEmpty) := fun σ O G ev G1 H1 s1 s2 o Q k =>
  h σ O G ev G1 H1 s1 s2 o _ fun v G2 H2 g r => by
    obtain ⟨a, xs, rfl, q1, q2⟩ := D.lst r
    have e : xs.isEmpty = ds.isEmpty := by
      have := q2.length
      cases xs <;> cases ds <;> first | rfl | (simp at this)
    exact ⟨!ds.isEmpty, .inl ⟨xs, .inl (.inl (g.s _ _ q1)), by rw [e]⟩, k _ _ g⟩
end
end Own

set_option linter.unusedVariables false
namespace Own
open PySem L2 ClX PySem.HandSPX PySem.Spec PyProof.Rows
abbrev s__law_new_offer : Stmt := topT 73
abbrev N__law_new_offer : List Str := ["_law_bag_here", "_law_plan", "_law_many", "_law_some", "_law_points"]
section
variable {M : Am} {O : Bu} {K : PySem.W.Frag} {σ : L2.St} {G : Hp} {R Ra Rb : Rp} {te ta tb tc td : TE} {t tr : TA} {Γ : Ctx}
def JAX (M : Am) (K : PySem.W.Frag) (Γ : Ctx) (t : TA) (S : List PyData → Prop) : Prop := ∀ (σ : L2.St) (O : Bu) (G : Hp), Env K Γ σ O G → ∀ G1 H1 : Hp, Same G G1 → Same G1 H1 → Owns M O G1 H1 → ∀ Q : List V → Hp → Prop, (∀ vs G2 H2, Gr M G1 H1 G2 H2 → (∃ ds, S ds ∧ DeAll K G2 vs ds) → Q vs H2) → t σ H1 Q
theorem jax_nil : JAX M K Γ tNil (fun ds => ds = []) := fun σ O G ev G1 H1 s1 s2 o Q k => k [] _ _ (Gr.refl s2) ⟨[], rfl, .nil⟩
theorem jax_cons {S1 : PyData → Prop} {S2 : List PyData → Prop} (h : JE M K Γ ta (REx S1 fun d => D K d)) (q : JAX M K Γ tr S2) : JAX M K Γ (tCons ta tr) (fun ds => ∃ d r, ds = d :: r ∧ S1 d ∧ S2 r) := fun σ O G ev G1 H1 s1 s2 o Q k =>
  h σ O G ev G1 H1 s1 s2 o _ fun v G2 H2 g ⟨d, hd, rd⟩ => q σ O G ev G2 H2 (s1.trans g.g) g.s (o.gr g) _ fun vs G3 H3 g3 ⟨ds, hs, rs⟩ => k _ _ _ (g.trans g3) ⟨d :: ds, ⟨d, ds, rfl, hd, hs⟩, .cons (De.up g3.g rd) rs⟩
theorem JAX.mono {S S' : List PyData → Prop} (h : JAX M K Γ t S) (q : ∀ ds, S ds → S' ds) : JAX M K Γ t S' := fun σ O G ev G1 H1 s1 s2 o Q k => h σ O G ev G1 H1 s1 s2 o _ fun vs G2 H2 g ⟨ds, hs, rs⟩ => k vs G2 H2 g ⟨ds, q ds hs, rs⟩
theorem j_toX {d : PyData} (h : JE M K Γ te (D K d)) : JE M K Γ te (REx (fun e => e = d) fun d => D K d) := j_imp h fun v G r => ⟨d, rfl, r⟩
theorem j_lstX {S : List PyData → Prop} (h : JAX M K Γ t S) (hz : ∀ ds, S ds → ds.length ≤ sizeLine) : JE M K Γ (tLst t) (REx S fun ds => D K (.list ds)) := fun σ O G ev G1 H1 s1 s2 o Q k =>
  h σ O G ev G1 H1 s1 s2 o _ fun vs G2 H2 g ⟨ds, hs, rs⟩ => ⟨by rw [rs.length]; exact hz ds hs, fun p np => k _ _ _ (g.trans (Gr.new g.s np)) ⟨ds, hs, .lst upd_same (rs.up (same_fresh (g.s.free np)))⟩⟩
theorem j_pairX {α : Type} {S : α → Prop} {f : α → PyData} {a : PyData} (ha : JE M K Γ ta (D K a)) (h : JE M K Γ tb (REx S fun x => D K (f x))) : JE M K Γ (tTup (tCons ta (tCons tb tNil))) (REx S fun x => D K (.tuple [a, f x])) := fun σ O G ev G1 H1 s1 s2 o Q k =>
  ha σ O G ev G1 H1 s1 s2 o _ fun vA GA HA gA rA => h σ O G ev GA HA (s1.trans gA.g) gA.s (o.gr gA) _ fun vB GB HB gB ⟨x, hx, rB⟩ => by
    refine ⟨by show 2 ≤ sizeLine; decide, fun p np => ?_⟩
    have gT := gA.trans gB
    exact k _ _ _ (gT.trans (Gr.new gT.s np)) ⟨x, hx, .tup (SqT.of upd_same) (.cons (De.up ((gB.g).trans (same_fresh (gB.s.free np))) rA) (.cons (De.up (same_fresh (gB.s.free np)) rB) .nil))⟩
theorem j_tripX {α β : Type} {S : α → Prop} {S2 : β → Prop} {f : α → PyData} {g : β → PyData} {a : PyData} (ha : JE M K Γ ta (D K a)) (h : JE M K Γ tb (REx S fun x => D K (f x))) (h2 : JE M K Γ tc (REx S2 fun x => D K (g x))) : JE M K Γ (tTup (tCons ta (tCons tb (tCons tc tNil)))) (REx (fun q : α × β => S q.1 ∧ S2 q.2) fun q => D K (.tuple [a, f q.1, g q.2])) := fun σ O G ev G1 H1 s1 s2 o Q k =>
  ha σ O G ev G1 H1 s1 s2 o _ fun vA GA HA gA rA => h σ O G ev GA HA (s1.trans gA.g) gA.s (o.gr gA) _ fun vB GB HB gB ⟨x, hx, rB⟩ => h2 σ O G ev GB HB ((s1.trans gA.g).trans gB.g) gB.s ((o.gr gA).gr gB) _ fun vC GC HC gC ⟨y, hy, rC⟩ => by
    refine ⟨by show 3 ≤ sizeLine; decide, fun p np => ?_⟩
    have gT := (gA.trans gB).trans gC
    have sf := same_fresh (o := .tup [vA, vB, vC]) (gC.s.free np)
    exact k _ _ _ (gT.trans (Gr.new gT.s np)) ⟨(x, y), ⟨hx, hy⟩, .tup (SqT.of upd_same) (.cons (De.up ((gB.g.trans gC.g).trans sf) rA) (.cons (De.up (gC.g.trans sf) rB) (.cons (De.up sf rC) .nil)))⟩
theorem j_addX {S : Int → Prop} {a : Int} (ha : JE M K Γ ta (D K (.int a))) (h : JE M K Γ tb (REx S fun r => D K (.int r))) : JE M K Γ (tOp (rI0 fun i j => .int (i + j)) ta tb) (REx S fun r => D K (.int (a + r))) := fun σ O G ev G1 H1 s1 s2 o Q k =>
  ha σ O G ev G1 H1 s1 s2 o _ fun vA GA HA gA rA => h σ O G ev GA HA (s1.trans gA.g) gA.s (o.gr gA) _ fun vB GB HB gB ⟨x, hx, rB⟩ => by
    obtain rfl := D.int rA
    obtain rfl := D.int rB
    exact ⟨a, x, rfl, rfl, k _ _ _ (gA.trans gB) ⟨x, hx, .int _⟩⟩
theorem j_conv {α : Type} {S : α → Prop} {f : α → PyData} {S' : PyData → Prop} (h : JE M K Γ te (REx S fun x => D K (f x))) (q : ∀ x, S x → S' (f x)) : JE M K Γ te (REx S' fun d => D K d) := j_imp h fun v G ⟨x, hx, r⟩ => ⟨f x, q x hx, r⟩
/-- xs + [drawn ..] -/
theorem j_catX {ds : List PyData} {S : List PyData → Prop} (ha : JE M K Γ ta (D K (.list ds))) (h : JE M K Γ tb (REx S fun es => D K (.list es))) (hz : ∀ es, S es → ds.length + es.length ≤ sizeLine) : JE M K Γ (tOp rCat ta tb) (REx S fun es => D K (.list (ds ++ es))) := fun σ O G ev G1 H1 s1 s2 o Q k =>
  ha σ O G ev G1 H1 s1 s2 o _ fun vA GA HA gA rA => h σ O G ev GA HA (s1.trans gA.g) gA.s (o.gr gA) _ fun vB GB HB gB ⟨es, hx, rB⟩ => by
    have E1 : Ev M O (tOp rCat (tC vA) (tC vB)) σ GB (D K (.list (ds ++ es))) := ev_catL (ev_c (De.up gB.g rA)) (ev_c rB) (hz es hx)
    exact E1 GB HB (Same.refl _) gB.s ((o.gr gA).gr gB) _ fun v G' H' g' r' => k v G' H' ((gA.trans gB).trans g') ⟨es, hx, r'⟩
end
/-! ### a def that draws -/
def spBg {α : Type} (K : PySem.W.Frag) (A : α → List Rp) (R : α → Rp) (ok : α → Prop) : Sp := fun vs H Q _ => ∃ (x : α) (bp cc : Addr) (G : Hp) (ws : List V), vs = .ref bp :: ws ∧ RAll (A x) ws G ∧ ok x ∧ Same G H ∧ BagC H bp cc ∧ G bp = none ∧ G cc = none ∧ ∀ v G' H', Gr (lawM bp cc []) G H G' H' → (R x).p v G' → Q v H'
theorem gr_tabs {p c : Addr} {T : List (Addr × Str)} {G H G' H' : Hp} (g : Gr (lawM p c []) G H G' H') : Gr (lawM p c T) G H G' H' where
  g := g.g
  h := fun a o na e => g.h a o (fun z => by
    rcases z with z | z | ⟨q, hq⟩
    · exact na (.inl z)
    · exact na (.inr (.inl z))
    · exact (List.not_mem_nil hq).elim) e
  s := g.s
  n := g.n
  k := g.k
  i := fun i => by
    obtain ⟨cs, i1, d1, m1, h1, h2, _⟩ := id i.1
    have keep : ∀ a o, H a = some o → (∀ xs, o ≠ .lst xs) → H' a = some o := fun a o e n => g.h a o (fun z => by
      rcases z with rfl | rfl | ⟨q, hq⟩
      · rw [h1] at e; cases e; exact n _ rfl
      · rw [h2] at e; cases e; exact n _ rfl
      · exact (List.not_mem_nil hq).elim) e
    refine ⟨(g.i ⟨i.1, fun q hq => (List.not_mem_nil hq).elim⟩).1, fun q hq => ?_⟩
    obtain ⟨ps, a1, a2, a3⟩ := i.2 q hq
    refine ⟨ps, keep _ _ a1 (fun _ z => nomatch z), a2, fun pos cv hc => ?_⟩
    obtain ⟨c0, e1, e2⟩ := a3 pos cv hc
    exact ⟨c0, e1, keep _ _ e2 (fun _ z => nomatch z)⟩
section
variable {K : PySem.W.Frag} {p c : Addr} {T : List (Addr × Str)} {Γ : Ctx} {tb : TE} {t : TA} {ts : TS}
theorem jb_call {α : Type} {A : α → List Rp} {R : α → Rp} {ok : α → Prop} {E : XK} (x : α) (h : JA (lawM p c T) K Γ t (RIs (.ref p) :: A x)) (hx : ok x) : JE (lawM p c T) K Γ (tCall (spBg K A R ok) [] E t) (R x) := fun σ O G ev G1 H1 s1 s2 o Q k =>
  h σ O G ev G1 H1 s1 s2 o _ fun vs G2 H2 g r => by
    obtain ⟨_, ws, rfl, rfl, r⟩ := r
    have o2 := o.gr g
    rw [List.append_nil]
    exact ⟨x, p, c, G2, ws, rfl, r, hx, g.s, o2.i.1, o2.a p (.inl rfl), o2.a c (.inr (.inl rfl)), fun v G' H' g' rv => k _ _ _ (g.trans (gr_tabs g')) rv⟩
theorem js_defB {α : Type} {A : α → List Rp} {R : α → Rp} {ok : α → Prop} {N : List Str} {vs : List V} {H : Hp} {Q : VK} {E : XK} (h : spBg K A R ok vs H Q E) (hN : ∀ x, (A x).length + 1 ≤ N.length) (k : ∀ x bp cc, ok x → JS (lawM bp cc []) K ((RIs (.ref bp) :: A x).map Ce.is ++ List.replicate (N.length - (RIs (.ref bp) :: A x).length) .no) ts (R x) fun _ => False) : ts { nx := fun _ H' => Q .non H', rt := Q } (start N vs) H := by
  obtain ⟨x, bp, cc, G, ws, rfl, ra, hx, s, bg, g1, g2, kk⟩ := h
  exact EvS.start (M := lawM bp cc []) ((k x bp cc hx G H _ _ _ (Env.start (Rs := RIs (.ref bp) :: A x) N ⟨_, _, rfl, rfl, ra⟩ (hN x))).mono fun _ _ _ _ ⟨_, f, _⟩ => f) s (fun a z => by
    rcases z with rfl | rfl | ⟨q, hq⟩
    · exact g1
    · exact g2
    · exact (List.not_mem_nil hq).elim) ⟨bg, fun q hq => (List.not_mem_nil hq).elim⟩ trivial kk
theorem spBg_len {α : Type} {A : α → List Rp} {R : α → Rp} {ok : α → Prop} {vs : List V} {H : Hp} {Q : VK} {E : XK} {n : Nat} (h : spBg K A R ok vs H Q E) (hn : ∀ x, (A x).length + 1 = n) : vs.length = n := by
  obtain ⟨x, bp, cc, G, ws, rfl, ra, _⟩ := h
  have key : ∀ {Rs : List Rp} {vs : List V}, RAll Rs vs G → Rs.length = vs.length := by
    intro Rs
    induction Rs with
    | nil => intro vs h; cases h; rfl
    | cons R Rs ih => rintro vs ⟨v, r, rfl, h, t⟩; exact congrArg (· + 1) (ih t)
  rw [List.length_cons, ← key ra, hn]
end
def OffS (n : Nat) (d : PyData) : Prop := ∃ o : Off, o.ok n ∧ d = o.d
abbrev spNo (K : PySem.W.Frag) : Sp := spBg K (fun pl : Plan => [RDic K (planL pl)]) (fun pl => REx (OffS pl.belts.length) fun d => D K d) (fun pl => 1 ≤ pl.belts.length ∧ pl.belts.length ≤ 3)
section
variable {P : Program} {w : World} {K : PySem.W.Frag} {mg : Str → Option Value} {base : Heap}
theorem sc__law_new_offer : FnScope N__law_new_offer ["_law_bag_here", "_law_plan"] (defScope s__law_new_offer) := ⟨rfl, rfl, rfl, by decide +kernel, rfl, by decide +kernel, by decide +kernel⟩
theorem ok__law_new_offer {f fD fO : Addr} {fd gD gO : FuncData} (F : Fun K "_law_new_offer" "_law_new_offer" s__law_new_offer f fd) (z_len : mg "len" = none) (z_range : mg "range" = none) (z_list : mg "list" = none)
    (Dr : DefF P w K mg base "_law_draw" 1 ["_law_bag_here", "_law_many"] spDraw fD gD) (Of : DefF P w K mg base "_law_of" 2 ["_law_bag_here", "_law_some"] (spOf K) fO gO) : FnOk P w K mg base CX0 3 f fd ["_law_bag_here", "_law_plan"] (spNo K) := by
  refine F.ok sc__law_new_offer (fun vs H Q E h => spBg_len h fun _ => rfl) (fun cdv A outer s H vs Q E hr h => ?_)
  have nd := sc__law_new_offer.nd
  have hr1 := hr.mono (j := 1) (by decide)
  have hr2 := hr.mono (j := 2) (by decide)
  have hu : (A.deeper (PyProof.Rows.envOfC "_law_new_offer" (defScope s__law_new_offer) s.heap.objs.size f cdv)).units + 1 < cLine := by have := hr.units; omega
  refine ⟨_, PSs.nox (pss_cons (ps_set (i := 2) nd rfl (Or.inl rfl) (pe_callB call_len_seq (by rfl) z_len PySem.boot_len (pa_cons (pe_dget hu (pv 1) pe_str (fun _ _ => rfl)) pa_nil)))
      (pss_cons (ps_set (i := 3) nd rfl (Or.inl rfl) (pe_lst (pa_cons (pe_tup (pa_cons pe_str (pa_cons (pe_call Dr.G hr1 rfl Dr.m Dr.kp Dr.b .nil pass0 (pa_cons (pv 0) (pa_cons pe_int pa_nil))) pa_nil))) (pa_cons (pe_tup (pa_cons pe_str (pa_cons (pe_call Of.G hr2 rfl Of.m Of.kp Of.b .nil pass0 (pa_cons (pv 0) (pa_cons (pe_lst (pa_cons pe_str (pa_cons pe_str pa_nil))) pa_nil))) pa_nil))) (pa_cons (pe_tup (pa_cons pe_str (pa_cons (pe_call Of.G hr2 rfl Of.m Of.kp Of.b .nil pass0 (pa_cons (pv 0) (pa_cons (pe_lst (pa_cons pe_str (pa_cons pe_str pa_nil))) pa_nil))) pa_nil))) (pa_cons (pe_tup (pa_cons pe_str (pa_cons (pe_call Of.G hr2 rfl Of.m Of.kp Of.b .nil pass0 (pa_cons (pv 0) (pa_cons (pe_lst (pa_cons pe_str (pa_cons pe_str pa_nil))) pa_nil))) pa_nil))) (pa_cons (pe_tup (pa_cons pe_str (pa_cons (pe_op op_add pe_int (pe_call Dr.G hr1 rfl Dr.m Dr.kp Dr.b .nil pass0 (pa_cons (pv 0) (pa_cons (pv 2) pa_nil)))) (pa_cons (pe_op op_add pe_int (pe_call Dr.G hr1 rfl Dr.m Dr.kp Dr.b .nil pass0 (pa_cons (pv 0) (pa_cons pe_int pa_nil)))) pa_nil)))) (pa_cons (pe_tup (pa_cons pe_str (pa_cons (pe_call Of.G hr2 rfl Of.m Of.kp Of.b .nil pass0 (pa_cons (pv 0) (pa_cons (pe_lst (pa_cons pe_non (pa_cons pe_int (pa_cons pe_int (pa_cons pe_int pa_nil))))) pa_nil))) pa_nil))) pa_nil))))))))
      (pss_cons (ps_set (i := 4) nd rfl (Or.inl rfl) (pe_callTy (call_listRng rfl) (by rfl) z_list (by decide +kernel) (pa_cons (pe_callTy cr_range2 (by rfl) z_range (by decide +kernel) (pa_cons pe_int (pa_cons (pv 2) pa_nil))) pa_nil)))
      (pss_cons (ps_if (pt_cmpR (op_neD hr.units) (pv 4) (pe_lst pa_nil) (nomark _)) (pss_one (ps_set (i := 3) nd rfl (Or.inl rfl) (pe_op op_cat (pv 3) (pe_lst (pa_cons (pe_tup (pa_cons pe_str (pa_cons (pe_call Of.G hr2 rfl Of.m Of.kp Of.b .nil pass0 (pa_cons (pv 0) (pa_cons (pv 4) pa_nil))) pa_nil))) (pa_cons (pe_tup (pa_cons pe_str (pa_cons (pe_call Of.G hr2 rfl Of.m Of.kp Of.b .nil pass0 (pa_cons (pv 0) (pa_cons (pv 4) pa_nil))) pa_nil))) pa_nil)))))) pss_nil)
      (pss_one (ps_ret (pe_call Of.G hr2 rfl Of.m Of.kp Of.b .nil pass0 (pa_cons (pv 0) (pa_cons (pv 3) pa_nil))))))))), js_defB (K := K) (N := N__law_new_offer) h (fun x => by show 2 ≤ 5; decide) fun pl bp cc ⟨n1, n3⟩ => ?_⟩
  refine js_set (Ra := D K (.int (pl.belts.length : Nat))) ((j_lenL (j_dget (j_v rfl) rfl)).eq (by rw [List.length_map])) (Nat.le_of_ble_eq_true rfl) ?_
  have dn : (0 : Int) < (pl.belts.length : Nat) := by omega
  have dz : ((pl.belts.length : Nat) : Int).natAbs < 2 ^ 200 := Nat.lt_of_le_of_lt (by omega : _ ≤ 3) (by decide)
  have c2 : ∀ {Γ : Ctx} {a b : Str} {E : XK}, Γ[0]? = some (.is (RIs (.ref bp))) → JE (lawM bp cc []) K Γ (tCall (spOf K) [] E (tCons (tVar 0) (tCons (tLst (tCons (tC (.str a)) (tCons (tC (.str b)) tNil))) tNil))) (REx (· ∈ [PyData.str a, .str b]) fun d => D K d) := fun h => jb_of (ja_cons (j_v h) (ja_cons (j_lst (jl_cons (j_str _) (jl_cons (j_str _) jl_nil)) (by show 2 ≤ sizeLine; decide)) ja_nil)) (by simp) (by show 2 ≤ 1000; decide)
  refine js_setX (j_lstX (S := fun ds => ds.length = 6 ∧ ∀ d ∈ ds, OffS pl.belts.length d) ((jax_cons (S1 := OffS pl.belts.length) (j_conv (j_pairX (j_str _) (jb_draw (n := 4) (ja_cons (j_v rfl) (ja_cons (j_int 4) ja_nil)) (by decide) (by decide))) fun r hr => ⟨.seek r, ⟨hr.1, by omega⟩, rfl⟩)
    (jax_cons (S1 := OffS pl.belts.length) (j_conv (j_pairX (j_str _) (c2 rfl)) fun d hd => ?_) (jax_cons (S1 := OffS pl.belts.length) (j_conv (j_pairX (j_str _) (c2 rfl)) fun d hd => ?_) (jax_cons (S1 := OffS pl.belts.length) (j_conv (j_pairX (j_str _) (c2 rfl)) fun d hd => ?_)
    (jax_cons (S1 := OffS pl.belts.length) (j_conv (j_tripX (j_str _) (j_addX (j_int 1) (jb_draw (ja_cons (j_v rfl) (ja_cons (j_v rfl) ja_nil)) dn dz)) (j_addX (j_int 1) (jb_draw (n := 4) (ja_cons (j_v rfl) (ja_cons (j_int 4) ja_nil)) (by decide) (by decide)))) fun q hq => ⟨.room (1 + q.1) (1 + q.2), ⟨by have := hq.1.1; omega, by have := hq.1.2; omega, by have := hq.2.1; omega, by have := hq.2.2; omega⟩, rfl⟩)
    (jax_cons (S1 := OffS pl.belts.length) (j_conv (j_pairX (j_str _) (jb_of (ds := [.none, .int 1, .int 2, .int 12]) (ja_cons (j_v rfl) (ja_cons (j_lst (jl_cons j_non (jl_cons (j_int _) (jl_cons (j_int _) (jl_cons (j_int _) jl_nil)))) (by show 4 ≤ sizeLine; decide)) ja_nil)) (by simp) (by show 4 ≤ 1000; decide))) fun d hd => ?_) jax_nil)))))).mono fun ds h => ?_) fun ds h => by rw [h.1]; decide) (Nat.le_of_ble_eq_true rfl) fun ds hds => ?_
  · simp only [List.mem_cons, List.not_mem_nil, or_false] at hd
    rcases hd with rfl | rfl
    · exact ⟨.empty "blank", .inl rfl, rfl⟩
    · exact ⟨.empty "none", .inr rfl, rfl⟩
  · simp only [List.mem_cons, List.not_mem_nil, or_false] at hd
    rcases hd with rfl | rfl
    · exact ⟨.strange "first", .inl rfl, rfl⟩
    · exact ⟨.strange "none", .inr rfl, rfl⟩
  · simp only [List.mem_cons, List.not_mem_nil, or_false] at hd
    rcases hd with rfl | rfl
    · exact ⟨.pause "clear", .inl rfl, rfl⟩
    · exact ⟨.pause "keep", .inr rfl, rfl⟩
  · simp only [List.mem_cons, List.not_mem_nil, or_false] at hd
    rcases hd with rfl | rfl | rfl | rfl
    · exact ⟨.stretch none, .inl rfl, rfl⟩
    · exact ⟨.stretch (some 1), .inr ⟨1, rfl, by decide, by decide⟩, rfl⟩
    · exact ⟨.stretch (some 2), .inr ⟨2, rfl, by decide, by decide⟩, rfl⟩
    · exact ⟨.stretch (some 12), .inr ⟨12, rfl, by decide, by decide⟩, rfl⟩
  · obtain ⟨d0, r0, rfl, h0, d1, r1, rfl, h1, d2, r2, rfl, h2, d3, r3, rfl, h3, d4, r4, rfl, h4, d5, r5, rfl, h5, rfl⟩ := h
    refine ⟨rfl, fun d hd => ?_⟩
    simp only [List.mem_cons, List.not_mem_nil, or_false] at hd
    rcases hd with rfl | rfl | rfl | rfl | rfl | rfl <;> assumption
  have k1 : (((pl.belts.length : Nat) : Int) - 1).toNat = pl.belts.length - 1 := by omega
  have dsne : ds ≠ [] := fun z => by rw [z] at hds; exact absurd hds.1 (by decide)
  refine js_set (Ra := D K (.list ((List.range (pl.belts.length - 1)).map fun k => PyData.int (1 + (k : Nat))))) ((j_listRng (j_range2 (jl_cons (j_int 1) (jl_cons (j_v rfl) jl_nil))) ⟨by decide, by decide, Int.le_trans (by decide) (Int.le_of_lt dn), by omega, by rw [k1]; exact Nat.le_trans (by omega : _ ≤ 3) (by decide)⟩).eq (by rw [k1])) (Nat.le_of_ble_eq_true rfl) ?_
  have sh : SeqAt.shaped (.list ((List.range (pl.belts.length - 1)).map fun k => PyData.int (1 + (k : Nat)))) = true := by
    have h : pl.belts.length - 1 = 0 ∨ pl.belts.length - 1 = 1 ∨ pl.belts.length - 1 = 2 := by omega
    rcases h with h | h | h <;> rw [h] <;> decide +kernel
  refine js_if (jt_test (j_neD (j_v rfl) (j_lst jl_nil (by show 0 ≤ sizeLine; decide)) sh (by decide +kernel))) (fun e => ?_) (fun e => JS.skip ?_)
  · have ne : ((List.range (pl.belts.length - 1)).map fun k => PyData.int (1 + (k : Nat))) ≠ [] := fun z => by
      rw [z] at e
      revert e
      decide +kernel
    have pt : ∀ {Γ : Ctx} {E : XK}, Γ[0]? = some (.is (RIs (.ref bp))) → Γ[4]? = some (.is (D K (.list ((List.range (pl.belts.length - 1)).map fun k => PyData.int (1 + (k : Nat)))))) → JE (lawM bp cc []) K Γ (tCall (spOf K) [] E (tCons (tVar 0) (tCons (tVar 4) tNil))) (REx (fun d => ∃ q : Int, (1 ≤ q ∧ q < (pl.belts.length : Nat)) ∧ d = .int q) fun d => D K d) := fun h1 h2 => j_conv (jb_of (ja_cons (j_v h1) (ja_cons (j_v h2) ja_nil)) ne (by rw [List.length_map, List.length_range]; omega)) fun d hd => by
      obtain ⟨k, hk, rfl⟩ := List.mem_map.mp hd
      have := List.mem_range.mp hk
      exact ⟨1 + (k : Nat), ⟨by omega, by omega⟩, rfl⟩
    refine js_setX (j_catX (S := fun es => es.length = 2 ∧ ∀ d ∈ es, OffS pl.belts.length d) (j_v rfl) (j_lstX ((jax_cons (S1 := OffS pl.belts.length) (j_conv (j_pairX (j_str _) (pt rfl rfl)) fun d ⟨q, hq, e⟩ => ⟨.scan q, hq, by rw [e]; rfl⟩) (jax_cons (S1 := OffS pl.belts.length) (j_conv (j_pairX (j_str _) (pt rfl rfl)) fun d ⟨q, hq, e⟩ => ⟨.eye q, hq, by rw [e]; rfl⟩) jax_nil)).mono fun es h => ?_) fun es h => by rw [h.1]; decide) fun es h => by rw [hds.1, h.1]; decide) (Nat.le_of_ble_eq_true rfl) fun es hes => ?_
    · obtain ⟨d0, r0, rfl, h0, d1, r1, rfl, h1, rfl⟩ := h
      refine ⟨rfl, fun d hd => ?_⟩
      simp only [List.mem_cons, List.not_mem_nil, or_false] at hd
      rcases hd with rfl | rfl <;> assumption
    refine js_ret (j_conv (jb_of (ja_cons (j_v rfl) (ja_cons (j_v rfl) ja_nil)) (fun z => dsne (List.append_eq_nil_iff.mp z).1) (by rw [List.length_append, hds.1, hes.1]; decide)) fun d hd => ?_)
    rcases List.mem_append.mp hd with hd | hd
    · exact hds.2 d hd
    · exact hes.2 d hd
  · exact js_ret (j_conv (jb_of (ja_cons (j_v rfl) (ja_cons (j_v rfl) ja_nil)) dsne (by rw [hds.1]; decide)) fun d hd => hds.2 d hd)
end
end Own

namespace Own
open PySem L2 ClX PySem.HandSPX
abbrev s_wr : Stmt := topT 72
abbrev N_wr : List Str := ["_law_plan", "_law_words_z", "_law_room", "_law_point", "_law_part"]
/-- what the law asks of a plan -/
structure PlanG (pl : Plan) : Prop where
  ok : LnOk (pl.line pl.scans)
  tk : pl.TrOk
  sc : pl.scans.Pairwise (· ≤ ·)
def spWr (K : PySem.W.Frag) : Sp := spF (fun pl : Plan => [RDic K (planL pl)]) (fun pl => D K (.str (plText (pl.line pl.scans) pl))) PlanG
theorem cstr {K : PySem.W.Frag} {M : Am} {Γ : Ctx} {te : TE} {ds : List PyData} {ws : List Str} (h : JE M K Γ te (D K (.list ds))) (e : ds = ws.map PyData.str) : JE M K Γ te (D K (.list (ws.map PyData.str))) := h.eq (congrArg PyData.list e)
theorem sz30 {n : Nat} (h : n ≤ 60) : n ≤ sizeLine := Nat.le_trans h (by decide)
theorem sz30' {n : Nat} (h : n ≤ 60) : n < sizeLine := Nat.lt_of_le_of_lt h (by decide)
theorem shIn {ns : List Int} (h : ns.length ≤ 1000) : SeqAt.shaped (.list (ns.map PyData.int)) = true := shal_shaped (n := 1) (.lst (fun d hd => by obtain ⟨n, _, rfl⟩ := List.mem_map.mp hd; exact .int n) (by rw [List.length_map]; exact h)) (by decide) (by simp only [PyData.canLay0]; exact canI ns)
theorem ne_nil_eqv (ns : List Int) : PyData.eqv (.list (ns.map PyData.int)) (.list []) = decide (ns = []) := by
  cases ns with
  | nil => rfl
  | cons n ns => rfl
section
variable {P : Program} {w : World} {K : PySem.W.Frag} {mg : Str → Option Value} {base : Heap}
theorem sc_wr : FnScope N_wr ["_law_plan"] (defScope s_wr) := ⟨rfl, rfl, rfl, by decide +kernel, rfl, by decide +kernel, by decide +kernel⟩
theorem ok_wr {f : Addr} {fd : FuncData} (F : Fun K "_law_written" "_law_written" s_wr f fd) (zS : mg "str" = none) (zO : mg "sorted" = none) : FnOk P w K mg base CX0 1 f fd ["_law_plan"] (spWr K) := by
  refine F.ok sc_wr (fun vs H Q E h => spF_len h fun _ => rfl) (fun cdv A outer s H vs Q E hr h => ?_)
  have nd := sc_wr.nd
  have hu := hu_of hr
  refine ⟨_, PSs.nox (pss_cons (ps_set (i := 1) nd rfl (Or.inl rfl) (pe_op op_cat (pe_lst (pa_cons pe_str pa_nil)) (pe_lc (own := [("_law_room", 2)]) (g := (gName 2)) (tt := tYes) rfl nd (pi_list (pe_dget hu (pv 0) pe_str (fun _ _ => rfl))) (blkOk_by (N := N_wr) (sc := defScope s_wr) (by decide +kernel)) (fun _ _ _ _ _ => pg_name (i := 2) nd rfl (Or.inl rfl)) (fun _ _ _ _ _ => pts_nil) (fun _ _ _ _ _ => pe_callTy call_str_int (by rfl) zS (by decide +kernel) (pa_cons (pv 2) pa_nil)))))
      (pss_cons (ps_if (pt_cmpR (op_neD hr.units) (pe_dget hu (pv 0) pe_str (fun _ _ => rfl)) (pe_lst pa_nil) (nomark _)) (pss_one (ps_set (i := 1) nd rfl (Or.inl rfl) (pe_op op_cat (pe_op op_cat (pv 1) (pe_lst (pa_cons pe_str pa_nil))) (pe_lc (own := [("_law_point", 3)]) (g := (gName 3)) (tt := tYes) rfl nd (pi_list (pe_callB cr_sortedI (by rfl) zO PyProof.Rows.boot_sorted (pa_cons (pe_dget hu (pv 0) pe_str (fun _ _ => rfl)) pa_nil))) (blkOk_by (N := N_wr) (sc := defScope s_wr) (by decide +kernel)) (fun _ _ _ _ _ => pg_name (i := 3) nd rfl (Or.inl rfl)) (fun _ _ _ _ _ => pts_nil) (fun _ _ _ _ _ => pe_callTy call_str_int (by rfl) zS (by decide +kernel) (pa_cons (pv 3) pa_nil)))))) pss_nil)
      (pss_cons (ps_set (i := 1) nd rfl (Or.inl rfl) (pe_op op_cat (pe_op op_cat (pe_op op_cat (pv 1) (pe_lst (pa_cons pe_str pa_nil))) (pe_lc (own := [("_law_part", 4)]) (g := (gName 4)) (tt := tYes) rfl nd (pi_tup (pe_dget hu (pv 0) pe_str (fun _ _ => rfl))) (blkOk_by (N := N_wr) (sc := defScope s_wr) (by decide +kernel)) (fun _ _ _ _ _ => pg_name (i := 4) nd rfl (Or.inl rfl)) (fun _ _ _ _ _ => pts_nil) (fun _ _ _ _ _ => pe_callTy call_str_int (by rfl) zS (by decide +kernel) (pa_cons (pv 4) pa_nil)))) (pe_dget hu (pv 0) pe_str (fun _ _ => rfl))))
      (pss_cons (ps_if (pt_cmp (pc_notN (pe_dget hu (pv 0) pe_str (fun _ _ => rfl)))) (pss_one (ps_set (i := 1) nd rfl (Or.inl rfl) (pe_op op_cat (pv 1) (pe_lst (pa_cons pe_str (pa_cons (pe_callTy call_str_int (by rfl) zS (by decide +kernel) (pa_cons (pe_dget hu (pv 0) pe_str (fun _ _ => rfl)) pa_nil)) pa_nil)))))) pss_nil)
      (pss_cons (ps_set (i := 1) nd rfl (Or.inl rfl) (pe_op op_cat (pe_op op_cat (pe_op op_cat (pv 1) (pe_lst (pa_cons pe_str pa_nil))) (pe_lc (own := [("_law_room", 2)]) (g := (gName 2)) (tt := tYes) rfl nd (pi_list (pe_dget hu (pv 0) pe_str (fun _ _ => rfl))) (blkOk_by (N := N_wr) (sc := defScope s_wr) (by decide +kernel)) (fun _ _ _ _ _ => pg_name (i := 2) nd rfl (Or.inl rfl)) (fun _ _ _ _ _ => pts_nil) (fun _ _ _ _ _ => pe_callTy call_str_int (by rfl) zS (by decide +kernel) (pa_cons (pv 2) pa_nil)))) (pe_lst (pa_cons pe_str (pa_cons (pe_callTy call_str_int (by rfl) zS (by decide +kernel) (pa_cons (pe_dget hu (pv 0) pe_str (fun _ _ => rfl)) pa_nil)) pa_nil)))))
      (pss_one (ps_ret (pe_join pe_str (pe_op op_cat (pv 1) (pe_lst (pa_cons (pe_dget hu (pv 0) pe_str (fun _ _ => rfl)) (pa_cons (pe_dget hu (pv 0) pe_str (fun _ _ => rfl)) (pa_cons (pe_dget hu (pv 0) pe_str (fun _ _ => rfl)) pa_nil))))))))))))), js_def (K := K) (N := N_wr) h (fun x => by show 1 ≤ 5; decide) fun pl hp => ?_⟩
  have ok := hp.ok
  have tk := hp.tk
  have b3 : pl.belts.length ≤ 3 := ok.n3
  have r3 := tk.n3
  have s3 : pl.scans.length ≤ 2 := ok.sl
  have w3 : pl.words.length ≤ 3 := ok.ws.length_le
  have smb : Sml pl.belts := sml_belts ok
  have sms : Sml pl.scans := sml_scans ok
  have sml : Sml [pl.most, pl.among] := sml_slips ok
  have smr : Sml pl.rooms := fun n hn => by have := tk.rr n hn; omega
  have hk : 0 ≤ pl.seek ∧ pl.seek ≤ 12 := ⟨tk.s0, Int.le_trans tk.s3 (by decide)⟩
  have zb : pl.belts.length < sizeLine := sz30' (by omega)
  have zs : pl.scans.length < sizeLine := sz30' (by omega)
  have zl : [pl.most, pl.among].length < sizeLine := sz30' (by show 2 ≤ 60; decide)
  have zr : pl.rooms.length < sizeLine := sz30' (by omega)
  have h12 : ∀ {n : Int}, 0 ≤ n ∧ n ≤ 12 → n.natAbs.log2 < 1920 := fun h => log_small h
  have L0 : (("belts" : Str) :: pl.belts.map istr).length ≤ 4 := by rw [List.length_cons, List.length_map]; omega
  have e0 : ([PyData.str "belts"] ++ pl.belts.map (fun n => PyData.str (istr n))) = (("belts" : Str) :: pl.belts.map istr).map PyData.str := by rw [List.map_cons, List.map_map]; rfl
  have hW : lineWs (pl.line pl.scans) = (((("belts" : Str) :: pl.belts.map istr) ++ scansW pl.scans) ++ (("slips" : Str) :: ([pl.most, pl.among].map istr ++ pl.words))) ++ stretchW pl.stretch := rfl
  have s8 := sum_len (ws := lineWs (pl.line pl.scans) ++ trWs pl) fun z hz => (List.mem_append.mp hz).elim (lineWs_8 ok z) (trWs_8 tk z)
  have wl := ws_len (l := pl.line pl.scans) (pl := pl) ok tk
  have hT : plText (pl.line pl.scans) pl = Txt.join " " (lineWs (pl.line pl.scans) ++ trWs pl) := rfl
  refine js_set ((j_catL (j_lst (jl_cons (j_str _) jl_nil) (by show 1 ≤ sizeLine; decide)) (j_lc pl.belts PyData.int (fun n => .str (istr n)) (Nat.le_of_ble_eq_true rfl) (ji_listM (j_dget (j_v rfl) rfl)) zb (fun x hx => j_strI (j_v rfl) (h12 (smb x hx)))) (sz30 (by rw [List.length_map]; show 1 + _ ≤ 60; omega))).eq (congrArg PyData.list e0)) (Nat.le_of_ble_eq_true rfl) ?_
  generalize (("belts" : Str) :: pl.belts.map istr) = A0 at L0 hW
  have L1 : (A0 ++ scansW pl.scans).length ≤ 7 := by
    have := scansW_len ok
    rw [List.length_append]
    exact Nat.le_trans (Nat.add_le_add L0 this) (by decide)
  refine js_ifJ [.is (RDic K (planL pl)), .is (D K (.list ((A0 ++ scansW pl.scans).map PyData.str))), .no, .no, .no] (jt_test ((j_neD (j_dget (j_v rfl) rfl) (j_lst jl_nil (by show 0 ≤ sizeLine; decide)) (shIn (by omega)) (by decide +kernel)).eq (congrArg (fun b => PyData.bool (!b)) (ne_nil_eqv _)))) (fun hc => ?_) (fun hc => ?_) ?_
  · have hc : pl.scans ≠ [] := fun z => by rw [decide_eq_true z] at hc; cases hc
    refine JS.one (js_set ((j_catL (j_catL (j_v rfl) (j_lst (jl_cons (j_str _) jl_nil) (by show 1 ≤ sizeLine; decide)) (sz30 ?_)) (j_lc pl.scans PyData.int (fun n => .str (istr n)) (Nat.le_of_ble_eq_true rfl) (ji_listM (j_sorted (ms := pl.scans) (j_dget (j_v rfl) rfl) (List.Perm.refl _) hp.sc)) zs (fun x hx => j_strI (j_v rfl) (h12 (sms x hx)))) (sz30 ?_)).eq (congrArg PyData.list ?_)) (Nat.le_of_ble_eq_true rfl) (js_end ⟨.inr rfl, .inr rfl, .inl rfl, .inl rfl, .inl rfl, trivial⟩))
    · rw [List.length_map]; show A0.length + 1 ≤ 60; omega
    · simp only [List.length_append, List.length_map, List.length_cons, List.length_nil]; omega
    · unfold scansW
      rw [if_neg hc, List.map_append, List.map_cons, List.map_map, List.append_assoc]; rfl
  · have hc : pl.scans = [] := by
      by_cases z : pl.scans = []
      · exact z
      · rw [decide_eq_false z] at hc; cases hc
    refine js_end ⟨.inr rfl, .inr ?_, .inl rfl, .inl rfl, .inl rfl, trivial⟩
    rw [hc]
    show _ = Ce.is (D K (.list ((A0 ++ []).map PyData.str)))
    rw [List.append_nil]
  generalize (A0 ++ scansW pl.scans) = A1 at L1 hW
  refine js_set ((j_catL (j_catL (j_catL (j_v rfl) (j_lst (jl_cons (j_str _) jl_nil) (by show 1 ≤ sizeLine; decide)) (sz30 ?_)) (j_lc ([pl.most, pl.among]) PyData.int (fun n => .str (istr n)) (Nat.le_of_ble_eq_true rfl) (ji_tupM (j_dget (j_v rfl) rfl)) zl (fun x hx => j_strI (j_v rfl) (h12 (sml x hx)))) (sz30 ?_)) (j_dget (j_v rfl) rfl) (sz30 ?_)).eq (congrArg PyData.list (a₂ := (A1 ++ (("slips" : Str) :: ([pl.most, pl.among].map istr ++ pl.words))).map PyData.str) ?_)) (Nat.le_of_ble_eq_true rfl) ?_
  · rw [List.length_map]; show A1.length + 1 ≤ 60; omega
  · simp only [List.length_append, List.length_map, List.length_cons, List.length_nil]; omega
  · simp only [List.length_append, List.length_map, List.length_cons, List.length_nil]; omega
  · simp only [List.map_append, List.map_cons, List.map_nil, List.append_assoc, List.cons_append, List.nil_append]
  have L2 : (A1 ++ (("slips" : Str) :: ([pl.most, pl.among].map istr ++ pl.words))).length ≤ 13 := by
    simp only [List.length_append, List.length_map, List.length_cons, List.length_nil]; omega
  generalize (A1 ++ (("slips" : Str) :: ([pl.most, pl.among].map istr ++ pl.words))) = A2 at L2 hW
  have L3 : (A2 ++ stretchW pl.stretch).length ≤ 15 := by
    have s2 : (stretchW pl.stretch).length ≤ 2 := by cases pl.stretch <;> exact Nat.le_of_ble_eq_true rfl
    rw [List.length_append]; omega
  refine js_ifJ [.is (RDic K (planL pl)), .is (D K (.list ((A2 ++ stretchW pl.stretch).map PyData.str))), .no, .no, .no] (jt_val (j_notN (j_dget (j_v rfl) rfl))) (fun hc => ?_) (fun hc => ?_) ?_
  · obtain ⟨n, en, hn⟩ : ∃ n, pl.stretch = some n ∧ 0 ≤ n ∧ n ≤ 12 := by
      rcases ok.st with z | ⟨m, z, z1, z2⟩
      · rw [show pl.stretch = none from z] at hc; cases hc
      · exact ⟨m, z, by omega, z2⟩
    refine JS.one (js_set ((j_catL (j_v rfl) (j_lst (jl_cons (j_str _) (jl_cons (j_strI (n := n) ((j_dget (j_v rfl) rfl).eq (by rw [en]; rfl)) (h12 hn)) jl_nil)) (by show 2 ≤ sizeLine; decide)) (sz30 ?_)).eq (congrArg PyData.list ?_)) (Nat.le_of_ble_eq_true rfl) (js_end ⟨.inr rfl, .inr rfl, .inl rfl, .inl rfl, .inl rfl, trivial⟩))
    · rw [List.length_map]; show A2.length + 2 ≤ 60; omega
    · rw [List.map_append, en]; rfl
  · have en : pl.stretch = none := by
      cases e : pl.stretch with
      | none => rfl
      | some n => rw [e] at hc; cases hc
    refine js_end ⟨.inr rfl, .inr ?_, .inl rfl, .inl rfl, .inl rfl, trivial⟩
    rw [en]
    show _ = Ce.is (D K (.list ((A2 ++ []).map PyData.str)))
    rw [List.append_nil]
  rw [← hW] at L3 ⊢
  generalize lineWs (pl.line pl.scans) = A3 at L3 hT s8 wl
  refine js_set ((j_catL (j_catL (j_catL (j_v rfl) (j_lst (jl_cons (j_str _) jl_nil) (by show 1 ≤ sizeLine; decide)) (sz30 ?_)) (j_lc pl.rooms PyData.int (fun n => .str (istr n)) (Nat.le_of_ble_eq_true rfl) (ji_listM (j_dget (j_v rfl) rfl)) zr (fun x hx => j_strI (j_v rfl) (h12 (smr x hx)))) (sz30 ?_)) (j_lst (jl_cons (j_str _) (jl_cons (j_strI (j_dget (j_v rfl) rfl) (h12 hk)) jl_nil)) (by show 2 ≤ sizeLine; decide)) (sz30 ?_)).eq (congrArg PyData.list (a₂ := (A3 ++ ((("rooms" : Str) :: pl.rooms.map istr) ++ [("seek" : Str), istr pl.seek])).map PyData.str) ?_)) (Nat.le_of_ble_eq_true rfl) ?_
  · rw [List.length_map]; show A3.length + 1 ≤ 60; omega
  · simp only [List.length_append, List.length_map, List.length_cons, List.length_nil]; omega
  · simp only [List.length_append, List.length_map, List.length_cons, List.length_nil]; omega
  · rw [List.map_append, List.map_append, List.map_cons, List.map_map, List.append_assoc, List.append_assoc]; rfl
  have hTr : ((("rooms" : Str) :: pl.rooms.map istr) ++ [("seek" : Str), istr pl.seek]) ++ [pl.empty, pl.strange, pl.pause] = trWs pl := by
    unfold trWs
    rw [List.append_assoc]; rfl
  refine js_ret (JE.eq (d := .str (Txt.join " " (A3 ++ trWs pl))) (j_join (j_str _) ((j_catL (j_v rfl) (j_lst (jl_cons (j_dget (j_v rfl) rfl) (jl_cons (j_dget (j_v rfl) rfl) (jl_cons (j_dget (j_v rfl) rfl) jl_nil))) (by show 3 ≤ sizeLine; decide)) (sz30 ?_)).eq (congrArg PyData.list ?_)) ?_) (congrArg PyData.str hT.symm))
  · simp only [List.length_append, List.length_map, List.length_cons, List.length_nil]; omega
  · rw [← hTr]; simp only [List.map_append, List.map_cons, List.map_nil, List.append_assoc, List.cons_append, List.nil_append]
  · rw [show (" " : Str).length = 1 by decide +kernel]
    omega
end
end Own

set_option linter.all false
set_option linter.unusedVariables false
namespace Own
open PySem L2 PySem.Spec PyProof.Rows
theorem flat_intsV (ns : List Int) : (ns.map V.int).all flatV = true := by
  rw [List.all_map]
  exact List.all_eq_true.mpr fun _ _ => rfl
def rTupIdx (K : PySem.W.Frag) : V → List V → Hp → VK → Prop := fun x xs H Q => ∃ p, ∃ ns : List Int, ∃ z j, x = .ref p ∧ xs = [.int z] ∧ SqT K H p (ns.map V.int) ∧ ns[j]? = some z ∧ (∀ m, m < j → ns[m]? ≠ some z) ∧ Q (.int (j : Nat)) H
/-- t.index(n) of a tuple of ints -/
theorem mt_tupIdx {X : Cx} : MtR X "tuple.index" (rTupIdx X.K) := by
  intro pins s σ H x xs v us Q I rx rs h
  obtain ⟨p, ns, z, j, rfl, rfl, hq, hy, hno, q⟩ := h
  cases rx
  obtain ⟨u, rfl, t, rfl⟩ := vals1 rs
  obtain ⟨its, r, ⟨⟨c0, d0, dt0, s0⟩, ho, hc, n0, hd⟩, hz⟩ := I.tuple hq
  simp only at hc hd
  subst hc hd
  have zs : its.toArray.size = ns.length := by rw [List.size_toArray, ← r.length, List.length_map]
  have jj : j < its.toArray.size := by rw [zs]; exact (List.getElem?_eq_some_iff.mp hy).1
  have items : ∀ (m : Nat) (hm : m < its.toArray.size), ∃ y t', ns[m]? = some y ∧ its.toArray[m] = Value.int y t' := fun m hm => by
    have hm' : m < ns.length := by rw [← zs]; exact hm
    obtain ⟨w, hw, t', hw'⟩ := r.get (i := m) (x := .int ns[m]) (by simp [hm'])
    have e := (List.getElem?_eq_some_iff.mp hw).2
    exact ⟨ns[m], t', List.getElem?_eq_getElem hm', by rw [← hw', ← e]; simp⟩
  refine call_meets PySem.F.slot_tuple_index ⟨_, ho, rfl⟩ PySem.F.entry_tuple_index (PySem.F.args_tuple_index_2 _ _) (TI.tuple_indexAt p its.toArray n0 d0 s0 (.int z t) (eqU (.int z)) j jj ?_ ?_) ⟨ho, fun w hw => mem_eqAt (x := .int z) ⟨t, rfl⟩ rfl r (flat_intsV ns) w (by simpa using hw), ⟨.int (j : Nat), H, I.tok _, ⟨_, rfl⟩, q⟩⟩
  · obtain ⟨y, t', h1, h2⟩ := items j jj
    rw [hy] at h1
    cases h1
    rw [h2]
    show (z == z) = true
    exact beq_self_eq_true z
  · intro m hm hmj
    obtain ⟨y, t', h1, h2⟩ := items m hm
    rw [h2]
    show (y == z) = false
    exact beq_eq_false_iff_ne.mpr fun e => hno m hmj (by rw [h1, e])
section
variable {M : Am} {O : Bu} {K : PySem.W.Frag} {σ : L2.St} {G : Hp} {te ta tb : TE} {t : TA} {Γ : Ctx}
theorem j_min2 {a b : Int} (h : JL M K Γ t [.int a, .int b]) : JE M K Γ (tCB (fun xs H Q => ∃ i j, xs = [.int i, .int j] ∧ Q (.int (if j < i then j else i)) H) t) (D K (.int (if b < a then b else a))) := fun σ O G ev G1 H1 s1 s2 o Q k =>
  h σ O G ev G1 H1 s1 s2 o _ fun vs G2 H2 g r => by
    obtain ⟨v, u, rfl, q, q'⟩ := r.two
    exact ⟨a, b, by rw [D.int q, D.int q'], k _ _ _ g (.int _)⟩
end
end Own

set_option linter.unusedVariables false
namespace Own
open PySem L2 ClX PySem.HandSPX PySem.Spec PyProof.Rows LamX NdefX
/-! ### f(k = v, ..): every value by its name -/
def tCallN0 (m : Nat) (sp : Sp) (gV : List V → List V → List V) (E : XK) (tk : TA) : TE := fun σ H Q => tk σ H fun zs H2 => zs.length = m ∧ sp (gV [] zs) H2 Q E
section
variable {X : Cx} {CX : CXT} {k : Nat} {f : Addr} {fd : FuncData} {ps ks : List Str} {sp : Sp} {E : XK} {x : Str} {p pos : Pos} {kws : List Keyword} {tk : TA} {g : List Value → List Value → List Value} {gV : List V → List V → List V}
theorem pe_callN0 (F : FnOk X.prog X.w X.K X.mg X.base CX k f fd ps sp) (hr : Room k X.A) (hg : Gl X x) (hm : X.mg x = some (.ref f)) (hk : PySem.W.keepIn X.K (.ref f) = true) (hb : KBn X.K fd ps 0 ks g gV) (hx : Passes CX X E) (hkw : PK X kws tk)
    (hall : (backToKw pos (keywordEach kws X.env)).all (·.1.isSome) = true := by rfl) (hks : (backToKw pos (keywordEach kws X.env)).filterMap (·.1) = ks := by rfl) (hdb : (x == ("__debug__" : Str)) = false := by decide)
    (hpl : ((backTo pos (starEach [] X.env)).any (·.1) || (backToKw pos (keywordEach kws X.env)).any (·.1.isNone)) = false := by rfl) :
    PE X (.Call (.Name x p) [] kws pos) (tCallN0 ks.length sp gV E tk) := ⟨fun pins s σ H Q I h => by
  refine wpAny_Call_Name_kw (ld_glob I hg hm ?_ hdb)
  refine PySem.W.callWith_KW0 (h₀ := X.base) I.ok.mod.kin hk hall (thn (hkw.run pos pins s σ H _ I h) fun ws s2 ⟨zs, H2, I2, rz, l2, q2⟩ => ⟨I2.kIn, ?_⟩) hpl
  rw [hks]
  exact run_fnN F hr hb hx I2 .nil rz rfl l2 q2⟩
end
def gId {α : Type} : List α → List α → List α := fun _ ws => ws
def gSwap {α : Type} : List α → List α → List α
  | _, [a, b] => [b, a]
  | _, ws => ws
theorem gSwap_rel : ∀ {vs zs : List V} {us ws : List Value}, Vals vs us → Vals zs ws → Vals (gSwap vs zs) (gSwap us ws)
  | _, _, _, _, _, .nil => .nil
  | _, _, _, _, _, .cons a .nil => .cons a .nil
  | _, _, _, _, _, .cons a (.cons b .nil) => .cons b (.cons a .nil)
  | _, _, _, _, _, .cons a (.cons b (.cons c d)) => .cons a (.cons b (.cons c d))
section
variable {M : Am} {O : Bu} {K : PySem.W.Frag} {σ : L2.St} {G : Hp} {R Ra Rb : Rp} {t : TA} {Γ : Ctx} {P : Ctx → Prop} {u : TS} {ta te : TE}
theorem j_callN0 {α : Type} {A : α → List Rp} {R : α → Rp} {ok : α → Prop} {E : XK} {m : Nat} {gV : List V → List V → List V} {Rs : List Rp} (x : α) (h : JA M K Γ t Rs) (hg : ∀ zs G, RAll Rs zs G → zs.length = m ∧ RAll (A x) (gV [] zs) G) (hx : ok x) : JE M K Γ (tCallN0 m (spF A R ok) gV E t) (R x) := fun σ O G ev G1 H1 s1 s2 o Q k =>
  h σ O G ev G1 H1 s1 s2 o _ fun vs G2 H2 g r => ⟨(hg vs G2 r).1, x, G2, g.s, (hg vs G2 r).2, hx, fun v G3 H3 g' q => k v _ _ (g.trans g'.of_no) q⟩
theorem js_tup2 {i j : Nat} (h : JA M K Γ t [Ra, Rb]) (hi : i < Γ.length) (hj : j < Γ.length) (k : JS M K ((Γ.set i (.is Ra)).set j (.is Rb)) u R P) : JS M K Γ (tSeq (tAsg (tTup t) (gTup K 2 (gCons (gName i) (gCons (gName j) gNil)))) u) R P := fun G0 H0 σ O G ev G1 H1 D st s1 kr n =>
  h σ O G ev G1 H1 s1 st.gr.s st.ow _ fun vs G2 H2 g r => by
    obtain ⟨v, w, rfl, rv, rw'⟩ := rall2 r
    refine ⟨by show 2 ≤ sizeLine; decide, fun p np => ⟨p, [v, w], rfl, .inl (.inl upd_same), rfl, v, _, rfl, w, _, rfl, rfl, ?_⟩⟩
    have gn := Gr.new (M := M) (o := .tup [v, w]) g.s np
    exact k G0 H0 _ O _ ((((ev.up s1).up g.g).up gn.g |>.set (R := Ra) hi (Ra.up gn.g rv)).set (R := Rb) (by rw [List.length_set]; exact hj) (Rb.up gn.g rw')) _ _ D ((st.to g).to gn) (Same.refl _) kr fun σ'' O'' G3 H3 st'' s3 p' => n σ'' O'' G3 H3 st'' ((g.g.trans gn.g).trans s3) p'
/-- [e for x in range(a drawn number)], the items drawn -/
theorem j_lcXr {i : Nat} {R0 : Int → Prop} (S : PyData → Prop) (hl : i < Γ.length) (hR : ∀ r, R0 r → 0 ≤ r ∧ r ≤ 60) (h : JE M K Γ ta (REx R0 fun r => D K (.int r))) (hs : ∀ k : Int, JE M K (Γ.set i (.is (D K (.int k)))) te (REx S (D K))) :
    JE M K Γ (tLc (iRng1 (tCons ta tNil)) (gName i) tYes te [i]) (REx (fun es : List PyData => es.length ≤ 60 ∧ ∀ e ∈ es, S e) fun es => D K (.list es)) := fun σ O G ev G1 H1 s1 s2 o Q k =>
  h σ O G ev G1 H1 s1 s2 o _ fun v G2 H2 g ⟨r, hr, dr⟩ => by
    obtain rfl := D.int dr
    have b := hR r hr
    have zr : (List.range r.toNat).length < sizeLine := by rw [List.length_range]; exact Nat.lt_of_le_of_lt (by omega : r.toNat ≤ 60) (by decide)
    exact (j_lcX (M := M) (K := K) (Γ := Γ) (te := te) (wi := iRng1 (tCons (tC (.int r)) tNil)) (List.range r.toNat) (fun k => .int (0 + (k : Nat))) S hl (ji_rng1 (jl_cons (j_int r) jl_nil) (by omega) (by omega)) zr fun x _ => hs _) σ O G ev G2 H2 (s1.trans g.g) g.s (o.gr g) Q
      fun v G3 H3 g3 ⟨es, ⟨h1, h2⟩, re⟩ => k v G3 H3 (g.trans g3) ⟨es, ⟨by rw [h1, List.length_range]; omega, h2⟩, re⟩
end
theorem rob2 {A B : Rp} (a : Rob A) (b : Rob B) : ∀ R ∈ [A, B], Rob R := fun R h => by
  rcases List.mem_cons.mp h with rfl | h
  · exact a
  · rw [List.mem_singleton.mp h]; exact b
def okB (d : PyData) : Bool := SeqAt.shaped d && (match d with | .tuple ds => ds.all SeqAt.shaped | _ => true)
theorem okB_D {d : PyData} (h : okB d = true) : okD d := by
  unfold okB at h
  rw [Bool.and_eq_true] at h
  refine ⟨h.1, fun ds e x hx => ?_⟩
  subst e
  exact List.all_eq_true.mp h.2 x hx
section
variable {P : Program} {w : World} {K : PySem.W.Frag} {mg : Str → Option Value} {base : Heap}
theorem due_new {H : Hp} {cB cM cZ C dd : Addr} {H2 : Hp} {cname attr : Str} {dt : PyData} {Q : VK} (eo : ErrOut K H H2 dd cname attr dt) (et : ErrTell K cB cM cZ C cname attr) (k : ∀ (H' : Hp) (T : Addr), Same H H' → Dp K H' (.ref T) (dueD (cname, dt)) → Q (.ref T) H') : Caught K cB cM cZ (Told Q) (.ref C) (some dd) H2 := by
  obtain ⟨s2, nd, fs', y, hx, l1, l2, hy⟩ := eo
  refine ⟨C, dd, fs', _, attr, y, rfl, rfl, et, hx, l1, l2, fun H3 T T1 s3 nT nT1 hT hT1 => ?_⟩
  have s23 : Same H H3 := fun b o e => s3 b o (ne_of_none e nd) (s2 _ _ e)
  have sq : Seqs (newr H H2) H3 := fun b o n e => by
    unfold newr at e
    split at e
    · refine s3 b o (fun z => ?_) e
      rw [z, hx] at e
      cases e
      obtain ⟨xs, h | h | ⟨ob, h⟩ | ⟨ob, h⟩⟩ := n <;> cases h
    · cases e
  exact k H3 T s23 (.tup (SqT.of hT) (.cons (.str _) (.cons (.tup (SqT.of hT1) (.cons (dp_seqs sq _ _ hy) .nil)) .nil)))
theorem why_raise {cB cM cZ f : Addr} {H : Hp} {cname : Str} {dt : PyData} {Q : VK} {E : XK} (wr : WillRaise P w K mg base cB cM cZ H f cname dt) (k : ∀ (H' : Hp) (T : Addr), Same H H' → Dp K H' (.ref T) (dueD (cname, dt)) → Q (.ref T) H') : spWhy P w K mg base cB cM cZ [.ref f] H Q E := by
  obtain ⟨sp0, ask, wr⟩ := wr
  exact ⟨f, sp0, rfl, ask, fun Q' E' h1 h2 => wr H (Same.refl _) Q' E' fun C dd attr H2 eo et => h2 _ _ _ (due_new eo et k)⟩
end
theorem gr_same {M : Am} {G H H' : Hp} (s : Same G H) (e : Same H H') : Gr M G H G H' := ⟨Same.refl _, fun a o _ q => e a o q, s.trans e, fun _ q _ => q, fun i => M.st i fun a o q _ => e a o q, fun a q => e.free q⟩
theorem gr_lam {p c P : Addr} {q : Str} {G H H' : Hp} (s : Same G H) (gP : G P = none) (e : ExtP P H H') (n : ∀ b, H' b = none → H b = none) (t : Tabs [(P, q)] H') : Gr (lawM p c [(P, q)]) G H G H' where
  g := Same.refl _
  h := fun a o na ea => e a o (fun z => na (.inr (.inr ⟨q, by rw [z]; exact List.mem_singleton.mpr rfl⟩))) ea
  s := fun a o ea => e a o (fun z => by rw [z, gP] at ea; cases ea) (s _ _ ea)
  n := fun _ z _ => z
  i := fun i => by
    obtain ⟨ps, hP, _⟩ := i.2 (P, q) (List.mem_singleton.mpr rfl)
    have hP : H P = some (.tbl ps) := hP
    refine ⟨i.1.keep (fun o ea => e _ _ (fun z => ?_) ea) (fun o ea => e _ _ (fun z => ?_) ea), t⟩
    · obtain ⟨cs, a, b, d, h1, _⟩ := i.1
      rw [z, hP] at h1; cases h1
    · obtain ⟨cs, a, b, d, _, h1, _⟩ := i.1
      rw [z, hP] at h1; cases h1
  k := n
theorem law_start {K : PySem.W.Frag} {a : V} {bp cc : Addr} {T : List (Addr × Str)} {H1 : Hp} {N : List Str} {E : Ends} {ts : TS} {σ : L2.St} (hσ : σ = L2.start N [a, .ref bp]) (hN : 2 ≤ N.length) (hb0 : BagC H1 bp cc) (tb0 : Tabs T H1) (k : ∀ H', E.rt (.bl true) H') (J : JS (lawM bp cc T) K ([RIs a, RIs (.ref bp)].map Ce.is ++ List.replicate (N.length - 2) .no) ts (D K (.bool true)) fun _ => False) : ts E σ H1 := by
  classical
  subst hσ
  refine EvS.start (M := lawM bp cc T) (R := D K (.bool true)) (G := fun b => if (lawM bp cc T).ad b then none else H1 b) ((J _ _ _ _ _ (Env.start (Rs := [RIs a, RIs (.ref bp)]) (vs := [a, .ref bp]) N ⟨_, _, rfl, rfl, _, _, rfl, rfl, rfl⟩ hN)).mono fun _ _ _ _ ⟨_, f, _⟩ => f) (fun b o e => ?_) (fun b z => ?_) ⟨hb0, tb0⟩ trivial fun v G' H' _ rv => ?_
  · have e : (if (lawM bp cc T).ad b then none else H1 b) = some o := e
    split at e
    · cases e
    · exact e
  · show (if (lawM bp cc T).ad b then none else H1 b) = none
    rw [if_pos z]
  · rw [D.bool rv]
    exact k H'
abbrev s_law : Stmt := topT 76
abbrev sLaw : Stmt := s_law
abbrev N_law : List Str := ["_law_script", "_law_bag_here", "_law_turn", "_law_plan", "_law_made", "_law_some", "_law_late", "_law_offer", "_law_many", "_law_bad", "_law_at", "_law_row", "_law_k"]
def qLam (f : Addr) (cdv : Value) : Str := (PyProof.Rows.envOfC "law" (defScope s_law) 0 f cdv).qual ++ "<lambda>"
def spLaw (K : PySem.W.Frag) (tP : Addr) : Sp := fun vs H Q _ => ∃ (a : Addr) (ns : List Int), vs = [.ref a] ∧ SqL K H a (ns.map V.int) ∧ ns.length ≤ 63 ∧ H tP = some (.tbl #[]) ∧ ∀ H', Q (.bl true) H'
def badD (n : Nat) : List PyData := [.none, (.tuple []), (.str "scan"), (.list [(.str "seek"), (.int 1)]), (.tuple [(.str "scan"), (.int 0)]), (.tuple [(.str "eye"), (.int (n : Nat))]), (.tuple [(.str "scan")]), (.tuple [(.str "seek"), (.int 4)]), (.tuple [(.str "seek"), (.bool true)]), (.tuple [(.str "empty"), (.str "first")]), (.tuple [(.str "strange"), (.str "blank")]), (.tuple [(.str "pause"), (.str "Keep")]), (.tuple [(.str "room"), (.int ((n : Int) + 1)), (.int 1)]), (.tuple [(.str "room"), (.int 1), (.int 5)]), (.tuple [(.str "room"), (.int 1)]), (.tuple [(.str "room"), (.bool true), (.int 1)]), (.tuple [(.str "stretch"), (.int 0)]), (.tuple [(.str "stretch"), (.int 13)]), (.tuple [(.str "stretch"), (.str "none")]), (.tuple [(.str "rooms"), (.int 1)]), (.tuple [(.int 1), (.int 2)]), (.tuple [(.str "seek"), (.int 1), (.int 1)]), (.tuple [(.list [(.str "seek")]), (.int 1)]), (.tuple [(.str "empty"), (.list [(.str "none")])]), (.tuple [(.str "room"), (.list [(.int 1)]), (.int 1)])]
theorem bad_ok : ∀ n, n ≤ 3 → (badD n).all okB = true := by decide +kernel
theorem bad_no : ∀ n, n ≤ 3 → ((badD n).map (fitsD (n : Nat))).any id = false := by decide +kernel
theorem hCXf {P : Program} {w : World} : ∀ (outer : List PySem.Env) (H : Hp) (s : Shared) (e : Value) (s' : Shared), L2.CX P w outer H s (fun _ _ _ => False) e s' → False := fun _ _ _ _ _ h => by
  obtain ⟨_, _, _, _, _, _, _, _, _, _, _, _, z⟩ := h
  exact z
theorem offs_of {n : Nat} : ∀ {ds : List PyData}, (∀ d ∈ ds, OffS n d) → ∃ os : List Off, ds = os.map Off.d ∧ ∀ o ∈ os, o.ok n
  | [], _ => ⟨[], rfl, fun _ h => (List.not_mem_nil h).elim⟩
  | d :: ds, h => by
    obtain ⟨o, ho, rfl⟩ := h d (.head _)
    obtain ⟨os, rfl, hos⟩ := offs_of (ds := ds) fun d' h' => h d' (.tail _ h')
    exact ⟨o :: os, rfl, fun o' h' => (List.mem_cons.mp h').elim (fun e => e ▸ ho) (hos o')⟩
theorem gives_ofd {K : PySem.W.Frag} {pl : Plan} {o : Off} (g : GoodP pl) (ok : o.ok pl.belts.length) : Gives (spOfd K) [RDic K (planL pl), D K o.d] (RDic K (planL (pl.off o))) := fun vs G Q r k => by
  obtain ⟨v, u, rfl, r1, r2⟩ := rall2 r
  exact ⟨v, u, pl, o, rfl, r1, r2, g, ok, fun v H' s r => k v H' s r⟩
theorem gives_ao {K : PySem.W.Frag} {CP CL CT cO : Addr} {pl : Plan} {os : List Off} (g : GoodP pl) (ok : ∀ o ∈ os, o.ok pl.belts.length) (h4 : os.length ≤ 4) : Gives (spAO K CP CL CT cO) [RPlant K CP CL CT (pl.line pl.scans) pl, D K (.list (os.map Off.d))] (RPlant K CP CL CT ((pl.offs os).line (pl.offs os).scans) (pl.offs os)) := fun vs G Q r k => by
  obtain ⟨v, u, rfl, ⟨a, rfl, pa⟩, r2⟩ := rall2 r
  obtain ⟨b, xs, rfl, q1, q2⟩ := D.lst r2
  exact ⟨a, b, pl, xs, _, rfl, pa, g, SqL.of q1, q2, fun d hd => by obtain ⟨o, ho, rfl⟩ := List.mem_map.mp hd; exact ok_off (ok o ho), by rw [q2.length, List.length_map]; exact h4, .inl ⟨os, rfl, ok, fun x H' s p => k _ _ s ⟨x, rfl, p⟩⟩⟩
/-- [e for x in range(a drawn number)], at most b -/
theorem j_lcXb {M : Am} {K : PySem.W.Frag} {ta te : TE} {Γ : Ctx} {i : Nat} {R0 : Int → Prop} (b : Nat) (hb : b ≤ 60) (S : PyData → Prop) (hl : i < Γ.length) (hR : ∀ r, R0 r → 0 ≤ r ∧ r ≤ b) (h : JE M K Γ ta (REx R0 fun r => D K (.int r))) (hs : ∀ k : Int, JE M K (Γ.set i (.is (D K (.int k)))) te (REx S (D K))) :
    JE M K Γ (tLc (iRng1 (tCons ta tNil)) (gName i) tYes te [i]) (REx (fun es : List PyData => es.length ≤ b ∧ ∀ e ∈ es, S e) fun es => D K (.list es)) := fun σ O G ev G1 H1 s1 s2 o Q k =>
  h σ O G ev G1 H1 s1 s2 o _ fun v G2 H2 g ⟨r, hr, dr⟩ => by
    obtain rfl := D.int dr
    have bb := hR r hr
    have zr : (List.range r.toNat).length < sizeLine := by rw [List.length_range]; exact Nat.lt_of_le_of_lt (by omega : r.toNat ≤ 60) (by decide)
    exact (j_lcX (M := M) (K := K) (Γ := Γ) (te := te) (wi := iRng1 (tCons (tC (.int r)) tNil)) (List.range r.toNat) (fun k => .int (0 + (k : Nat))) S hl (ji_rng1 (jl_cons (j_int r) jl_nil) (by omega) (by omega)) zr fun x _ => hs _) σ O G ev G2 H2 (s1.trans g.g) g.s (o.gr g) Q
      fun v G3 H3 g3 ⟨es, ⟨h1, h2⟩, re⟩ => k v G3 H3 (g.trans g3) ⟨es, ⟨by rw [h1, List.length_range]; omega, h2⟩, re⟩
theorem j_notBl {M : Am} {K : PySem.W.Frag} {Γ : Ctx} {ta tb : TE} {a b : Bool} (ha : JE M K Γ ta (D K (.bool a))) (hb : JE M K Γ tb (D K (.bool b))) : JE M K Γ (tOp rNotB ta tb) (D K (.bool (!decide (a = b)))) := fun σ O G ev =>
  ev2 (ha σ O G ev) (hb σ O G ev) fun x y G1 H1 Q _ s _ rx ry k => by
    obtain rfl := D.bool rx
    obtain rfl := D.bool ry
    exact ⟨a, b, rfl, rfl, k _ _ _ (Gr.refl s) (.bl _)⟩
structure LawF (P : Program) (w : World) (K : PySem.W.Frag) (mg : Str → Option Value) (base : Heap) (CP CL CT cB cM cZ cO c tP : Addr) : Prop where
  z_len : mg "len" = none
  z_range : mg "range" = none
  z_all : mg "all" = none
  z_min : mg "min" = none
  bag : ∃ f fd, DefF P w K mg base "_law_bag" 1 ["_law_script"] (spBag K) f fd
  draw : ∃ f fd, DefF P w K mg base "_law_draw" 1 ["_law_bag_here", "_law_many"] spDraw f fd
  of : ∃ f fd, DefF P w K mg base "_law_of" 2 ["_law_bag_here", "_law_some"] (spOf K) f fd
  plan : ∃ f fd, DefF P w K mg base "_law_planned" 3 ["_law_bag_here", "_law_most", "_law_wide"] spPlan f fd
  madeP : ∃ f fd, DefF P w K mg base "_law_made_plant" 11 ["_law_plan"] (spMadeP K CP CL CT) f fd
  wr : ∃ f fd, DefF P w K mg base "_law_written" 1 ["_law_plan"] (spWr K) f fd
  same : ∃ f fd, DefF P w K mg base "_law_same" 5 ["_law_found", "_law_due"] (spSame K 5) f fd
  no : ∃ f fd, DefF P w K mg base "_law_new_offer" 3 ["_law_bag_here", "_law_plan"] (spNo K) f fd
  od : ∃ f fd, DefF P w K mg base "_law_offered" 1 ["_law_plan", "_law_offer"] (spOfd K) f fd
  ao : ∃ f fd, FnOk P w K mg base (L2.CX P w) 13 f fd N__law_all_offers (spAO K CP CL CT cO) ∧ mg "_law_all_offers" = some (.ref f) ∧ PySem.W.keepIn K (.ref f) = true ∧ Binds K fd N__law_all_offers []
  io : ∃ f fd, DefF P w K mg base "is_offer" 4 N_is_offer (spIsO K CP CL CT) f fd ∧ KBn K fd N_is_offer 0 ["value", "plant"] (fun us ws => gSwap us ws) (fun us ws => gSwap us ws)
  why : ∃ f fd, DefF P w K mg base "_law_why" 16 ["_law_ask"] (spWhy P w K mg base cB cM cZ) f fd
  T : PlF K mg CP
  p3 : ∃ p g fd, PropF P w K mg base CP "text" p g (spGet CP "_text") fd
  tell : ErrTell K cB cM cZ cO "InvalidOffer" "at"
  TB : TabB base mg c tP
section
variable {P : Program} {w : World} {K : PySem.W.Frag} {mg : Str → Option Value} {base : Heap}
theorem sc_law : FnScope N_law ["_law_script"] (defScope s_law) := ⟨rfl, rfl, rfl, by decide +kernel, rfl, by decide +kernel, by decide +kernel⟩
theorem ok_law {f CP CL CT cB cM cZ cO c tP : Addr} {oc kV doc pm ct : Value} {od an : Option Addr} {osl : Array (Option Value)} (lk : K.lookup f = some ⟨oc, od, .func (PySem.W.fnOf "law" "law" (defArgs s_law) (defBody s_law) (defScope s_law) .none kV doc pm an (.ref c) ct), osl⟩) (hcd : PySem.W.codeIn K (.ref c) "law" = true)
    (L : LawF P w K mg base CP CL CT cB cM cZ cO c tP) : FnOk P w K mg base CX0 21 f (PySem.W.fnOf "law" "law" (defArgs s_law) (defBody s_law) (defScope s_law) .none kV doc pm an (.ref c) ct) ["_law_script"] (spLaw K tP) := by
  obtain ⟨fBa, gBa, Ba⟩ := L.bag
  obtain ⟨fDr, gDr, Dr⟩ := L.draw
  obtain ⟨fOf, gOf, Of⟩ := L.of
  obtain ⟨fPl, gPl, Pl⟩ := L.plan
  obtain ⟨fMp, gMp, Mp⟩ := L.madeP
  obtain ⟨fWr, gWr, Wr⟩ := L.wr
  obtain ⟨fSa, gSa, Sa⟩ := L.same
  obtain ⟨fNo, gNo, No⟩ := L.no
  obtain ⟨fOd, gOd, Od⟩ := L.od
  obtain ⟨fAo, gAo, Ao⟩ := L.ao
  obtain ⟨fIo, gIo, Io, Iok⟩ := L.io
  obtain ⟨fWy, gWy, Wy⟩ := L.why
  obtain ⟨q3, g3, d3, Px⟩ := L.p3
  have T := L.T
  have TB := L.TB
  have AoF := fn_frX (hCXf (P := P) (w := w)) Ao.1
  refine fn_of lk hcd sc_law (fun vs H Q E h => ?_) (fun A outer s H vs Q E hr h => ?_)
  · obtain ⟨a, ns, rfl, _⟩ := h
    rfl
  · obtain ⟨a, ns, rfl, hS, hlen, ht, k⟩ := h
    have nd := sc_law.nd
    have hu : (A.deeper (PyProof.Rows.envOfC "law" (defScope s_law) s.heap.objs.size f (.ref c))).units + 1 < cLine := by have := hr.units; omega
    have hr16 := hr.mono (j := 16) (by decide)
    have hr13 := hr.mono (j := 13) (by decide)
    have hr11 := hr.mono (j := 11) (by decide)
    have hr5 := hr.mono (j := 5) (by decide)
    have hr4 := hr.mono (j := 4) (by decide)
    have hr3 := hr.mono (j := 3) (by decide)
    have hr2 := hr.mono (j := 2) (by decide)
    have hr1 := hr.mono (j := 1) (by decide)
    have hm : (tP, qLam f (.ref c)) ∈ [(tP, qLam f (.ref c))] := List.mem_singleton.mpr rfl
    have hu0 : ∀ p ∈ [(tP, qLam f (.ref c))], p.1 = tP → p.2 = qLam f (.ref c) := fun p hp _ => by rw [List.mem_singleton.mp hp]
    refine ⟨_, PSs.nox (pss_cons (ps_set (i := 1) nd rfl (Or.inr rfl) (pe_call Ba.G hr1 rfl Ba.m Ba.kp Ba.b .nil pass0 (pa_cons (pv 0) pa_nil)))
      (pss_cons (ps_for PassesOwn.never rfl (pi_range1 (by rfl) L.z_range (pa_cons pe_int pa_nil)) (pg_name (i := 2) nd rfl (Or.inl rfl)) (pss_cons (ps_set (i := 3) nd rfl (Or.inr rfl) (pe_call Pl.G hr3 rfl Pl.m Pl.kp Pl.b .nil pass0 (pa_cons (pv 1) (pa_cons pe_int (pa_cons pe_int pa_nil)))))
      (pss_cons (ps_asg (pe_tup (pa_cons (pe_call (fn_fr Mp.G) hr11 rfl Mp.m Mp.kp Mp.b .nil pass0 (pa_cons (pv 3) pa_nil)) (pa_cons (pe_lc (own := [("_law_k", 12)]) (g := (gName 12)) (tt := tYes) rfl nd (pi_range1 (by rfl) L.z_range (pa_cons (pe_call Dr.G hr1 rfl Dr.m Dr.kp Dr.b .nil pass0 (pa_cons (pv 1) (pa_cons pe_int pa_nil))) pa_nil)) (blkOk_by (N := N_law) (sc := defScope s_law) (by decide +kernel)) (fun _ _ _ _ _ => pg_name (i := 12) nd rfl (Or.inl rfl)) (fun _ _ _ _ _ => pts_nil) (fun _ _ _ _ _ => pe_call No.G hr3 rfl No.m No.kp No.b .nil pass0 (pa_cons (pv 1) (pa_cons (pv 3) pa_nil)))) pa_nil))) (pg_tup rfl (pgs_cons (pg_name (i := 4) nd rfl (Or.inr rfl)) (pgs_cons (pg_name (i := 5) nd rfl (Or.inl rfl)) pgs_nil))))
      (pss_cons (ps_set (i := 6) nd rfl (Or.inl rfl) (pv 3))
      (pss_cons (ps_for PassesOwn.never rfl (pi_list (pv 5)) (pg_name (i := 7) nd rfl (Or.inl rfl)) (pss_one (ps_set (i := 6) nd rfl (Or.inl rfl) (pe_call (fn_fr Od.G) hr1 rfl Od.m Od.kp Od.b .nil pass0 (pa_cons (pv 6) (pa_cons (pv 7) pa_nil))))))
      (pss_cons (ps_if (PW.pt (pw_or (pt_not (pt_val (pe_call (fn_fr Sa.G) hr5 rfl Sa.m Sa.kp Sa.b .nil pass0 (pa_cons (pe_prop (pe_call AoF hr13 rfl Ao.2.1 Ao.2.2.1 Ao.2.2.2 .nil passF (pa_cons (pv 4) (pa_cons (pv 5) pa_nil))) T.cl Px.hp (fn_fr Px.G) hr2 Px.b .nil pass0 rfl) (pa_cons (pe_call Wr.G hr1 rfl Wr.m Wr.kp Wr.b .nil pass0 (pa_cons (pv 6) pa_nil)) pa_nil))))) (pw_or1 (pt_cmpR op_ne (pe_prop (pv 4) T.cl Px.hp (fn_fr Px.G) hr2 Px.b .nil pass0 rfl) (pe_call Wr.G hr1 rfl Wr.m Wr.kp Wr.b .nil pass0 (pa_cons (pv 3) pa_nil)) (nomark _))))) (pss_one (ps_ret pe_bl)) pss_nil)
      (pss_cons (ps_if (pt_not (pt_val (pe_callB (cr_all rfl) (by rfl) L.z_all (by decide +kernel) (pa_cons (pe_lc (own := [("_law_offer", 7)]) (g := (gName 7)) (tt := tYes) rfl nd (pi_list (pv 5)) (blkOk_by (N := N_law) (sc := defScope s_law) (by decide +kernel)) (fun _ _ _ _ _ => pg_name (i := 7) nd rfl (Or.inl rfl)) (fun _ _ _ _ _ => pts_nil) (fun _ _ _ _ _ => pe_call Io.G hr4 rfl Io.m Io.kp Io.b .nil pass0 (pa_cons (pv 4) (pa_cons (pv 7) pa_nil)))) pa_nil)))) (pss_one (ps_ret pe_bl)) pss_nil)
      (pss_cons (ps_set (i := 8) nd rfl (Or.inl rfl) (pe_callB call_len_seq (by rfl) L.z_len PySem.boot_len (pa_cons (pe_dget hu (pv 3) pe_str (fun _ _ => rfl)) pa_nil)))
      (pss_cons (ps_set (i := 9) nd rfl (Or.inl rfl) (pe_call Of.G hr2 rfl Of.m Of.kp Of.b .nil pass0 (pa_cons (pv 1) (pa_cons (pe_lst (pa_cons pe_non (pa_cons (pe_tup pa_nil) (pa_cons pe_str (pa_cons (pe_lst (pa_cons pe_str (pa_cons pe_int pa_nil))) (pa_cons (pe_tup (pa_cons pe_str (pa_cons pe_int pa_nil))) (pa_cons (pe_tup (pa_cons pe_str (pa_cons (pv 8) pa_nil))) (pa_cons (pe_tup (pa_cons pe_str pa_nil)) (pa_cons (pe_tup (pa_cons pe_str (pa_cons pe_int pa_nil))) (pa_cons (pe_tup (pa_cons pe_str (pa_cons pe_bl pa_nil))) (pa_cons (pe_tup (pa_cons pe_str (pa_cons pe_str pa_nil))) (pa_cons (pe_tup (pa_cons pe_str (pa_cons pe_str pa_nil))) (pa_cons (pe_tup (pa_cons pe_str (pa_cons pe_str pa_nil))) (pa_cons (pe_tup (pa_cons pe_str (pa_cons (pe_op op_add (pv 8) pe_int) (pa_cons pe_int pa_nil)))) (pa_cons (pe_tup (pa_cons pe_str (pa_cons pe_int (pa_cons pe_int pa_nil)))) (pa_cons (pe_tup (pa_cons pe_str (pa_cons pe_int pa_nil))) (pa_cons (pe_tup (pa_cons pe_str (pa_cons pe_bl (pa_cons pe_int pa_nil)))) (pa_cons (pe_tup (pa_cons pe_str (pa_cons pe_int pa_nil))) (pa_cons (pe_tup (pa_cons pe_str (pa_cons pe_int pa_nil))) (pa_cons (pe_tup (pa_cons pe_str (pa_cons pe_str pa_nil))) (pa_cons (pe_tup (pa_cons pe_str (pa_cons pe_int pa_nil))) (pa_cons (pe_tup (pa_cons pe_int (pa_cons pe_int pa_nil))) (pa_cons (pe_tup (pa_cons pe_str (pa_cons pe_int (pa_cons pe_int pa_nil)))) (pa_cons (pe_tup (pa_cons (pe_lst (pa_cons pe_str pa_nil)) (pa_cons pe_int pa_nil))) (pa_cons (pe_tup (pa_cons pe_str (pa_cons (pe_lst (pa_cons pe_str pa_nil)) pa_nil))) (pa_cons (pe_tup (pa_cons pe_str (pa_cons (pe_lst (pa_cons pe_int pa_nil)) (pa_cons pe_int pa_nil)))) pa_nil)))))))))))))))))))))))))) pa_nil))))
      (pss_cons (ps_set (i := 10) nd rfl (Or.inl rfl) (pe_call Dr.G hr1 rfl Dr.m Dr.kp Dr.b .nil pass0 (pa_cons (pv 1) (pa_cons (pe_op op_add (pe_callB (call_min2 rfl) (by rfl) L.z_min (by decide +kernel) (pa_cons pe_int (pa_cons (pe_callB call_len_seq (by rfl) L.z_len PySem.boot_len (pa_cons (pv 5) pa_nil)) pa_nil))) pe_int) pa_nil))))
      (pss_cons (ps_set (i := 11) nd rfl (Or.inr rfl) (pe_slice sl_list (pe_op op_cat (pe_op op_cat (pe_slice sl_list (pv 5) po_none (po_some (pv 10))) (pe_lst (pa_cons (pv 9) pa_nil))) (pe_slice sl_list (pv 5) (po_some (pv 10)) po_none)) po_none (po_some pe_int)))
      (pss_cons (ps_if (pt_cmpR op_notBl (pe_callN0 Io.G hr4 (by rfl) Io.m Io.kp Iok pass0 (pk_cons (pv 9) (pk_cons (pv 4) pk_nil))) pe_bl (nomark _)) (pss_one (ps_ret pe_bl)) pss_nil)
      (pss_one (ps_if (pt_not (pt_val (pe_call Sa.G hr5 rfl Sa.m Sa.kp Sa.b .nil pass0 (pa_cons (pe_callT Wy.G hr16 (fun _ => rfl) rfl rfl (by rfl) Wy.m Wy.kp Wy.b (pa_cons (pe_lamP TB rfl hm hu0 rfl (lamS_by (show lamSB (defScope s_law) _ = true from by decide +kernel))) pa_nil)) (pa_cons (pe_tup (pa_cons pe_str (pa_cons (pe_tup (pa_cons (pv 10) pa_nil)) pa_nil))) pa_nil))))) (pss_one (ps_ret pe_bl)) pss_nil))))))))))))))
      (pss_one (ps_ret pe_bl)))), ?_⟩
    refine ⟨_, rfl, a, ns, rfl, hS, hlen, fun H1 bp sm0 hbp ⟨cc, hb0⟩ => ?_⟩
    have tb0 : Tabs [(tP, qLam f (.ref c))] H1 := fun q hq => by
      rw [List.mem_singleton.mp hq]
      exact ⟨#[], sm0 _ _ ht, trivial, fun pos cv h => nomatch h⟩
    dsimp only [gName]
    refine law_start (ts := tSeq (tFor _ _ _) _) (K := K) (N := N_law) (a := .ref a) (bp := bp) rfl (by show 2 ≤ 13; decide) hb0 tb0 (by exact k) ?_
    refine js_for (ι := Nat) (i := 2) (List.range 6) (fun i => PyData.int (0 + (i : Nat))) (fun _ => [RIs (.ref a), RIs (.ref bp)].map Ce.is ++ List.replicate 11 .no) (ji_rng1 (j := 6) (jl_cons (j_int 6) jl_nil) (by decide) (by decide)) Wk.refl (fun _ => (Nat.le_of_ble_eq_true rfl)) (fun _ x _ => ?_) (js_ret (j_bl true))
    refine js_setX (jb_plan (m := 3) (w := 3) (ja_cons (j_v rfl) (ja_cons (j_int _) (ja_cons (j_int _) ja_nil))) (by decide) (by decide) (by decide) (by decide)) (Nat.le_of_ble_eq_true rfl) fun pl ok => ?_
    have g : GoodP pl := ⟨ok.line, ok.tr, ok.sort, ok.rl⟩
    have n1 : 1 ≤ pl.belts.length := ok.n1
    have n3 : pl.belts.length ≤ 3 := ok.n2
    refine js_tup2 (ja_cons (j_fr (gives_madeP g.ok g.tr g.rl g.so) (ja_cons (j_v rfl) ja_nil) (rob1 rob_plan) rob_plant) (ja_cons (j_lcXb (R0 := fun r : Int => 0 ≤ r ∧ r < 5) 4 (by decide) (OffS pl.belts.length) (Nat.le_of_ble_eq_true rfl) (fun r h => ⟨h.1, by have := h.2; omega⟩) (jb_draw (ja_cons (j_v rfl) (ja_cons (j_int 5) ja_nil)) (by decide) (by decide)) fun k => jb_call pl (ja_cons (j_v rfl) (ja_cons (j_imp (j_v rfl) fun _ _ => plan_dic) ja_nil)) ⟨n1, n3⟩) ja_nil)) (Nat.le_of_ble_eq_true rfl) (Nat.le_of_ble_eq_true rfl) ?_
    refine js_open (i := 5) rfl fun ds ⟨l4, hds⟩ => ?_
    obtain ⟨os, rfl, hos⟩ := offs_of hds
    rw [List.length_map] at l4
    refine js_set (Ra := RDic K (planL pl)) (j_imp (j_v rfl) fun _ _ => plan_dic) (Nat.le_of_ble_eq_true rfl) ?_
    refine js_for (ι := Off) (i := 7) os Off.d (fun k => [.is (RIs (.ref a)), .is (RIs (.ref bp)), .no, .is (RPlan pl), .is (RPlant K CP CL CT (pl.line pl.scans) pl), .is (D K (.list (os.map Off.d))), .is (RDic K (planL (pl.offs (os.take k)))), .no, .no, .no, .no, .no, .no]) (ji_listM (j_v rfl)) ⟨.inr rfl, .inr rfl, .inl rfl, .inr rfl, .inr rfl, .inr rfl, .inr rfl, .inl rfl, .inl rfl, .inl rfl, .inl rfl, .inl rfl, .inl rfl, trivial⟩ (fun _ => (Nat.le_of_ble_eq_true rfl)) (fun k o hk => ?_) ?_
    · have hmo : ∀ o' ∈ os.take k, o'.ok pl.belts.length := fun o' h' => hos o' (List.mem_of_mem_take h')
      obtain ⟨gk, bk⟩ := offs_good g hmo
      refine JS.one (js_set (Ra := RDic K (planL (pl.offs (os.take (k + 1))))) (by rw [offs_take hk]; exact j_fr (gives_ofd gk (by rw [bk]; exact hos o (List.mem_of_getElem? hk))) (ja_cons (j_v rfl) (ja_cons (j_v rfl) ja_nil)) (rob2 rob_Dic rob_D) rob_Dic) (Nat.le_of_ble_eq_true rfl) (js_end ⟨.inr rfl, .inr rfl, .inl rfl, .inr rfl, .inr rfl, .inr rfl, .inr rfl, .inl rfl, .inl rfl, .inl rfl, .inl rfl, .inl rfl, .inl rfl, trivial⟩))
    rw [List.take_length]
    obtain ⟨gl, bl⟩ := offs_good g hos
    refine js_if (jt_or (jt_not (jt_val (j_fr (gives_same (Shal.str _)) (ja_cons (j_frP gives_text (j_fr (gives_ao g hos l4) (ja_cons (j_v rfl) (ja_cons (j_v rfl) ja_nil)) (rob2 rob_plant rob_D) rob_plant) rob_plant rob_D fun _ _ => plant_ins) (ja_cons (j_call (pl.offs os) (ja_cons (j_v rfl) ja_nil) ⟨gl.ok, gl.tr, gl.so⟩) ja_nil)) (rob2 rob_D rob_D) rob_D))) fun _ => jt_test (j_neS (j_frP gives_text (j_v rfl) rob_plant rob_D fun _ _ => plant_ins) (j_call pl (ja_cons (j_imp (j_v rfl) fun _ _ => plan_dic) ja_nil) ⟨g.ok, g.tr, g.so⟩))) (fun e => ?_) (fun _ => JS.skip ?_)
    · rw [decide_eq_true rfl] at e
      exact absurd e (by decide)
    refine js_if (jt_not (jt_val (j_all ((j_lc os Off.d (fun o => .bool (fitsD (pl.belts.length : Nat) o.d)) (Nat.le_of_ble_eq_true rfl) (ji_listM (j_v rfl)) (Nat.lt_of_le_of_lt l4 (by decide)) fun o ho => j_call (pl.line pl.scans, pl, o.d) (ja_cons (j_v rfl) (ja_cons (j_v rfl) ja_nil)) (ok_off (hos o ho))).eq (e := .list ((os.map fun o => fitsD (pl.belts.length : Nat) o.d).map PyData.bool)) (by rw [List.map_map]; rfl))))) (fun e => ?_) (fun _ => JS.skip ?_)
    · exfalso
      have h : (os.map fun o => fitsD (pl.belts.length : Nat) o.d).all id = true := List.all_eq_true.mpr fun b hb => by
        obtain ⟨o, ho, rfl⟩ := List.mem_map.mp hb
        exact fits_ok (hos o ho)
      rw [h] at e
      exact absurd e (by decide)
    refine js_set (Ra := D K (.int (pl.belts.length : Nat))) ((j_lenL (j_dget (d := .list (pl.belts.map .int)) (j_imp (j_v rfl) fun _ _ => plan_dic) rfl)).eq (by rw [List.length_map])) (Nat.le_of_ble_eq_true rfl) ?_
    refine js_setX (jb_of (ds := badD pl.belts.length) (ja_cons (j_v rfl) (ja_cons (j_lst (jl_cons j_non (jl_cons (j_tup jl_nil (by show 0 ≤ sizeLine; decide)) (jl_cons (j_str _) (jl_cons (j_lst (jl_cons (j_str _) (jl_cons (j_int _) jl_nil)) (by show 2 ≤ sizeLine; decide)) (jl_cons (j_tup (jl_cons (j_str _) (jl_cons (j_int _) jl_nil)) (by show 2 ≤ sizeLine; decide)) (jl_cons (j_tup (jl_cons (j_str _) (jl_cons (j_v rfl) jl_nil)) (by show 2 ≤ sizeLine; decide)) (jl_cons (j_tup (jl_cons (j_str _) jl_nil) (by show 1 ≤ sizeLine; decide)) (jl_cons (j_tup (jl_cons (j_str _) (jl_cons (j_int _) jl_nil)) (by show 2 ≤ sizeLine; decide)) (jl_cons (j_tup (jl_cons (j_str _) (jl_cons (j_bl _) jl_nil)) (by show 2 ≤ sizeLine; decide)) (jl_cons (j_tup (jl_cons (j_str _) (jl_cons (j_str _) jl_nil)) (by show 2 ≤ sizeLine; decide)) (jl_cons (j_tup (jl_cons (j_str _) (jl_cons (j_str _) jl_nil)) (by show 2 ≤ sizeLine; decide)) (jl_cons (j_tup (jl_cons (j_str _) (jl_cons (j_str _) jl_nil)) (by show 2 ≤ sizeLine; decide)) (jl_cons (j_tup (jl_cons (j_str _) (jl_cons (j_add (j_v rfl) (j_int _)) (jl_cons (j_int _) jl_nil))) (by show 3 ≤ sizeLine; decide)) (jl_cons (j_tup (jl_cons (j_str _) (jl_cons (j_int _) (jl_cons (j_int _) jl_nil))) (by show 3 ≤ sizeLine; decide)) (jl_cons (j_tup (jl_cons (j_str _) (jl_cons (j_int _) jl_nil)) (by show 2 ≤ sizeLine; decide)) (jl_cons (j_tup (jl_cons (j_str _) (jl_cons (j_bl _) (jl_cons (j_int _) jl_nil))) (by show 3 ≤ sizeLine; decide)) (jl_cons (j_tup (jl_cons (j_str _) (jl_cons (j_int _) jl_nil)) (by show 2 ≤ sizeLine; decide)) (jl_cons (j_tup (jl_cons (j_str _) (jl_cons (j_int _) jl_nil)) (by show 2 ≤ sizeLine; decide)) (jl_cons (j_tup (jl_cons (j_str _) (jl_cons (j_str _) jl_nil)) (by show 2 ≤ sizeLine; decide)) (jl_cons (j_tup (jl_cons (j_str _) (jl_cons (j_int _) jl_nil)) (by show 2 ≤ sizeLine; decide)) (jl_cons (j_tup (jl_cons (j_int _) (jl_cons (j_int _) jl_nil)) (by show 2 ≤ sizeLine; decide)) (jl_cons (j_tup (jl_cons (j_str _) (jl_cons (j_int _) (jl_cons (j_int _) jl_nil))) (by show 3 ≤ sizeLine; decide)) (jl_cons (j_tup (jl_cons (j_lst (jl_cons (j_str _) jl_nil) (by show 1 ≤ sizeLine; decide)) (jl_cons (j_int _) jl_nil)) (by show 2 ≤ sizeLine; decide)) (jl_cons (j_tup (jl_cons (j_str _) (jl_cons (j_lst (jl_cons (j_str _) jl_nil) (by show 1 ≤ sizeLine; decide)) jl_nil)) (by show 2 ≤ sizeLine; decide)) (jl_cons (j_tup (jl_cons (j_str _) (jl_cons (j_lst (jl_cons (j_int _) jl_nil) (by show 1 ≤ sizeLine; decide)) (jl_cons (j_int _) jl_nil))) (by show 3 ≤ sizeLine; decide)) jl_nil))))))))))))))))))))))))) (by show 25 ≤ sizeLine; decide)) ja_nil)) (by unfold badD; simp) (by show 25 ≤ 1000; decide)) (Nat.le_of_ble_eq_true rfl) fun bad hbad => ?_
    have okbad : okD bad := okB_D (List.all_eq_true.mp (bad_ok _ n3) bad hbad)
    have nobad : fitsD (pl.belts.length : Nat) bad = false := by
      cases hb : fitsD (pl.belts.length : Nat) bad with
      | false => rfl
      | true =>
        have h : ((badD pl.belts.length).map (fitsD (pl.belts.length : Nat))).any id = true := List.any_eq_true.mpr ⟨true, List.mem_map.mpr ⟨bad, hbad, hb⟩, rfl⟩
        rw [bad_no _ n3] at h
        cases h
    have mz : 0 < (if ((os.length : Nat) : Int) < 3 then ((os.length : Nat) : Int) else 3) + 1 ∧ (if ((os.length : Nat) : Int) < 3 then ((os.length : Nat) : Int) else 3) + 1 ≤ 4 ∧ (if ((os.length : Nat) : Int) < 3 then ((os.length : Nat) : Int) else 3) + 1 ≤ (os.length : Nat) + 1 := by
      split <;> omega
    have mzn : ((if ((os.length : Nat) : Int) < 3 then ((os.length : Nat) : Int) else 3) + 1).natAbs < 2 ^ 200 := by
      have h1 := mz.1
      have h2 := mz.2.1
      generalize (if ((os.length : Nat) : Int) < 3 then ((os.length : Nat) : Int) else 3) + 1 = m at h1 h2 ⊢
      exact Nat.lt_of_le_of_lt (by omega : m.natAbs ≤ 4) (by decide)
    refine js_setX (jb_draw (n := (if ((os.length : Nat) : Int) < 3 then ((os.length : Nat) : Int) else 3) + 1) (ja_cons (j_v rfl) (ja_cons (j_add (j_min2 (jl_cons (j_int 3) (jl_cons ((j_lenL (j_v rfl)).eq (by rw [List.length_map])) jl_nil))) (j_int 1)) ja_nil)) mz.1 mzn) (Nat.le_of_ble_eq_true rfl) fun r hr' => ?_
    obtain ⟨at', rfl⟩ : ∃ k : Nat, r = (k : Int) := ⟨r.toNat, by have := hr'.1; omega⟩
    have a3 : at' ≤ 3 := by have := hr'.2; omega
    have al : at' ≤ os.length := by have := hr'.2; omega
    have lm : (os.map Off.d).length = os.length := List.length_map _
    refine js_set (Ra := D K (.list ((((os.map Off.d).take at' ++ [bad]) ++ (os.map Off.d).drop at').take 4))) ((j_slL (j_catL (j_catL (j_slL (j_v rfl) jp_none (jp_some (j_v rfl))) (j_lst (jl_cons (j_v rfl) jl_nil) (by show 1 ≤ sizeLine; decide)) ?_) (j_slL (j_v rfl) (jp_some (j_v rfl)) jp_none) ?_) jp_none (jp_some (j_int 4))).eq ?_) (Nat.le_of_ble_eq_true rfl) ?_
    · rw [ct_take _ _ (by omega), List.length_take]
      exact Nat.le_trans (show _ ≤ 10 by show min at' _ + 1 ≤ 10; omega) (by decide)
    · rw [ct_take _ _ (by omega), ct_drop _ _ (by omega), List.length_append, List.length_take, List.length_drop]
      exact Nat.le_trans (show _ ≤ 20 by show min at' _ + 1 + (_ - at') ≤ 20; omega) (by decide)
    · rw [ct_take _ _ (by omega), ct_drop _ _ (by omega)]
      unfold cutD
      rw [HT.sIx_none, List.drop_zero, Nat.sub_zero, show ((4 : Int)) = ((4 : Nat) : Int) from rfl, HT.sIx_nat, ← List.take_eq_take_min]
    have okR : ∀ d ∈ (((os.map Off.d).take at' ++ [bad]) ++ (os.map Off.d).drop at').take 4, okD d := fun d hd => by
      have hd := List.mem_of_mem_take hd
      rcases List.mem_append.mp hd with hd | hd
      · rcases List.mem_append.mp hd with hd | hd
        · obtain ⟨o, ho, rfl⟩ := List.mem_map.mp (List.mem_of_mem_take hd)
          exact ok_off (hos o ho)
        · rw [List.mem_singleton.mp hd]
          exact okbad
      · obtain ⟨o, ho, rfl⟩ := List.mem_map.mp (List.mem_of_mem_drop hd)
        exact ok_off (hos o ho)
    have lt' : ((os.map Off.d).take at').length = at' := by rw [List.length_take, lm, Nat.min_eq_left al]
    have atR : ((((os.map Off.d).take at' ++ [bad]) ++ (os.map Off.d).drop at').take 4)[at']? = some bad := by
      rw [List.getElem?_take_of_lt (by omega), List.append_assoc, List.getElem?_append_right (by omega), lt', Nat.sub_self]
      rfl
    have beR : ∀ (j : Nat) (d' : PyData), j < at' → ((((os.map Off.d).take at' ++ [bad]) ++ (os.map Off.d).drop at').take 4)[j]? = some d' → fitsD (pl.belts.length : Nat) d' = true := fun j d' hj e => by
      rw [List.getElem?_take_of_lt (by omega), List.append_assoc, List.getElem?_append_left (by omega)] at e
      obtain ⟨o, ho, rfl⟩ := List.mem_map.mp (List.mem_of_mem_take (List.mem_of_getElem? e))
      exact fits_ok (hos o ho)
    have lR : ((((os.map Off.d).take at' ++ [bad]) ++ (os.map Off.d).drop at').take 4).length ≤ 4 := by rw [List.length_take]; omega
    generalize (((os.map Off.d).take at' ++ [bad]) ++ (os.map Off.d).drop at').take 4 = row at okR atR beR lR ⊢
    refine js_if (jt_test (j_notBl (j_callN0 (pl.line pl.scans, pl, bad) (ja_cons (j_v rfl) (ja_cons (j_v rfl) ja_nil)) (fun zs G r => by obtain ⟨v, u, rfl, q, q'⟩ := rall2 r; exact ⟨rfl, _, _, rfl, q', _, _, rfl, q, rfl⟩) okbad) (j_bl false))) (fun e => ?_) (fun _ => JS.skip ?_)
    · have e : (!decide (fitsD (pl.belts.length : Nat) bad = false)) = true := e
      rw [nobad] at e
      exact absurd e (by decide)
    refine js_raw fun G0 H0 σ O G ev G1 HH Dd st s1 kr nxt => ?_
    obtain ⟨v4, e4, r4⟩ := ev.is 4 _ rfl
    obtain ⟨v10, e10, r10⟩ := ev.is 10 _ rfl
    obtain ⟨v11, e11, r11⟩ := ev.is 11 _ rfl
    obtain rfl := D.int r10
    obtain ⟨s0, s1', s2, s3, s4, s5, s6, s7, s8, s9, s10, s11, s12, rfl⟩ : ∃ s0 s1 s2 s3 s4 s5 s6 s7 s8 s9 s10 s11 s12 : Option V, σ = [s0, s1, s2, s3, s4, s5, s6, s7, s8, s9, s10, s11, s12] := by
      have hl : (13 : Nat) = σ.length := ev.len
      match σ, hl with
      | [s0, s1, s2, s3, s4, s5, s6, s7, s8, s9, s10, s11, s12], _ => exact ⟨_, _, _, _, _, _, _, _, _, _, _, _, _, rfl⟩
    obtain rfl : s4 = some v4 := Option.some.inj e4
    obtain rfl : s10 = some (.int (at' : Nat)) := Option.some.inj e10
    obtain rfl : s11 = some v11 := Option.some.inj e11
    have gtP : G1 tP = none := st.ow.a tP (.inr (.inr ⟨_, List.mem_singleton.mpr rfl⟩))
    refine ⟨st.ow.i.2, fun f1 k1 H2 eP n2 t2 nf hl1 hc1 => ?_⟩
    have g12 := gr_lam (p := bp) (c := cc) st.gr.s gtP eP n2 t2
    have px : ∀ {N : List Str} {F : NF} {g : Addr} {A : Around} {outer : List PySem.Env} {s : Shared} {H : Hp} {E : XK}, Passes (L2.CX P w) (ncx (L2.CX P w) P w K mg base N F g A outer s H E) E := passes_call (takes_of rfl rfl rfl rfl) (fun _ _ _ _ h => h)
    intro S hS cs
    have sG2 := s1.trans g12.s
    have WR : WillRaise P w K mg base cB cM cZ (trk S H2) f1 "InvalidOffer" (.int (at' : Nat)) := will_of (fr := ["_law_made", "_law_row"]) (js := [4, 11]) hS cs hl1 hc1 (lamS_by (show lamSB (defScope s_law) _ = true from by decide +kernel)).free (by decide +kernel) rfl (nscope_by (by decide +kernel)) (fun _ _ _ _ _ => rfl)
      (fun A outer s H E hr => pe_call Ao.1 hr rfl Ao.2.1 Ao.2.2.1 Ao.2.2.2 .nil px (pa_cons (pv 0) (pa_cons (pv 1) pa_nil)))
      (fun H0' sm E Q k => by
        obtain ⟨aM, rfl, pM⟩ := r4
        obtain ⟨bR, xs, rfl, q1, q2⟩ := D.lst r11
        have sT := sG2.trans sm
        exact ⟨_, rfl, _, rfl, aM, bR, pl, xs, row, rfl, pM.same sT, g, SqL.of (sT _ _ q1), q2.up sT, okR, by rw [q2.length]; exact lR, .inr ⟨at', bad, atR, nobad, beR, fun dd H' eo => k cO dd _ H' eo L.tell⟩⟩)
    refine why_raise WR fun H3 T1 sm hD => ⟨trk_tracked.same sm, ?_⟩
    have smU := utrk_same hS sm
    have hDU := dp_seqs (utrk_seqs (trk_tracked.same sm)) _ _ hD
    generalize utrk S H3 = H4 at smU hDU
    refine ⟨_, rfl, by show 1 ≤ sizeLine; decide, fun t5 n5 => ⟨by show 2 ≤ sizeLine; decide, fun t6 n6 => ?_⟩⟩
    have s5' := same_fresh (o := .tup [.int (at' : Nat)]) n5
    have s6' := same_fresh (o := .tup [.str "InvalidOffer", .ref t5]) n6
    refine ⟨.ref T1, .ref t6, dueD ("InvalidOffer", .int (at' : Nat)), 4, rfl, dp_same (s5'.trans s6') _ _ hDU, .tup (SqT.of upd_same) (.cons (.str _) (.cons (.tup (SqT.of (s6' _ _ upd_same)) (.cons (.int _) .nil)) .nil)), rfl, ?_, fun H6 s7' => ⟨_, rfl, iteF ?_⟩⟩
    · refine .tup (fun d hd => ?_) (by show 2 ≤ 1000; decide)
      simp only [List.mem_cons, List.not_mem_nil, or_false] at hd
      rcases hd with rfl | rfl
      · exact .str _
      · exact .tup (fun d hd => by rw [List.mem_singleton.mp hd]; exact .int _) (by show 1 ≤ 1000; decide)
    have g16 := g12.trans (gr_same g12.s ((smU.trans (s5'.trans s6')).trans s7'))
    exact nxt _ O G1 H6 ⟨st.gr.trans g16, st.ow.gr g16, st.fr⟩ (Same.refl _) ⟨_, rfl, (ev.up s1).wk ⟨.inr rfl, .inr rfl, .inl rfl, .inl rfl, .inl rfl, .inl rfl, .inl rfl, .inl rfl, .inl rfl, .inl rfl, .inl rfl, .inl rfl, .inl rfl, trivial⟩⟩
end
end Own

namespace Own
open PySem L2 ClX PySem.HandSPX
section
variable {P : Program} {w : World} {K : PySem.W.Frag} {mg : Str → Option Value} {base : Heap}
abbrev sIF : Stmt := inClass (topT 11) 0
theorem scIF : FnScope ["self", "name"] ["self", "name"] (defScope sIF) := ⟨rfl, rfl, rfl, by decide +kernel, rfl, by decide +kernel, by decide +kernel⟩
theorem ok_iF {f fC C : Addr} {fd fdC : FuncData} (F : Fun K "__init__" "InvalidField.__init__" sIF f fd) (G : FnOk P w K mg base CX0 3 fC fdC ["value"] (spCopied K 3)) (mC : mg "copied" = some (.ref fC)) (kC : PySem.W.keepIn K (.ref fC) = true) (bC : Binds K fdC ["value"] []) (T : ExK K C) (n1 : PySem.W.findIn K (.ref C) "code" = some none) (n2 : PySem.W.findIn K (.ref C) "name" = some none) :
    FnOk P w K mg base CX0 4 f fd ["self", "name"] (spInit1 K C "InvalidField" "name") :=
  F.ok scIF (fun vs H Q E ⟨a, H1, x, d, e, _⟩ => by rw [e]; rfl) (fun cdv A outer s H vs Q E hr h => ⟨_, pss_cons (ps_stx (pv 0) pe_str) (pss_one (ps_stx (pv 0) (pe_call G hr rfl mC kC bC .nil pass0 (pa_cons (pv 1) pa_nil)))), init_read1 T n1 n2 h rfl⟩)
abbrev sIO : Stmt := inClass (topT 13) 0
theorem scIO : FnScope ["self", "at"] ["self", "at"] (defScope sIO) := ⟨rfl, rfl, rfl, by decide +kernel, rfl, by decide +kernel, by decide +kernel⟩
theorem ok_iO {f fC C : Addr} {fd fdC : FuncData} (F : Fun K "__init__" "InvalidOffer.__init__" sIO f fd) (G : FnOk P w K mg base CX0 3 fC fdC ["value"] (spCopied K 3)) (mC : mg "copied" = some (.ref fC)) (kC : PySem.W.keepIn K (.ref fC) = true) (bC : Binds K fdC ["value"] []) (T : ExK K C) (n1 : PySem.W.findIn K (.ref C) "code" = some none) (n2 : PySem.W.findIn K (.ref C) "at" = some none) :
    FnOk P w K mg base CX0 4 f fd ["self", "at"] (spInit1 K C "InvalidOffer" "at") :=
  F.ok scIO (fun vs H Q E ⟨a, H1, x, d, e, _⟩ => by rw [e]; rfl) (fun cdv A outer s H vs Q E hr h => ⟨_, pss_cons (ps_stx (pv 0) pe_str) (pss_one (ps_stx (pv 0) (pe_call G hr rfl mC kC bC .nil pass0 (pa_cons (pv 1) pa_nil)))), init_read1 T n1 n2 h rfl⟩)
theorem scPg3 : FnScope ["self"] ["self"] (defScope (inClass (topT 48) 3)) := ⟨rfl, rfl, rfl, by decide +kernel, rfl, by decide +kernel, by decide +kernel⟩
theorem ok_pg3 {f C : Addr} {fd : FuncData} (F : Fun K "text" "Plant.text" (inClass (topT 48) 3) f fd) (T : PlF K mg C) : FnOk P w K mg base CX0 1 f fd ["self"] (spGet C "_text") := by
  refine F.ok scPg3 (fun vs H Q E ⟨a, dx, fs, v, e, _⟩ => by rw [e]; rfl) (fun cdv A outer s H vs Q E hr ⟨a, dx, fs, v, e, ea, l, q⟩ => ?_)
  subst e
  exact ⟨_, pss_one (ps_ret (pe_fld (pv 0) rfl)), _, rfl, a, C, dx, fs, v, rfl, ea, T.cl, T.n3, l, q⟩
end
section
variable {K : PySem.W.Frag}
theorem lnCh_mk {f : Addr} {oc : Value} {od an : Option Addr} {kV doc pm cdv ct : Value} {osl : Array (Option Value)} (h : K.lookup f = some ⟨oc, od, .func (PySem.W.fnOf "changed" "Line.changed" (defArgs sLC) (defBody sLC) (defScope sLC) .none kV doc pm an cdv ct), osl⟩) (hc : PySem.W.codeIn K cdv "Line.changed" = true) (k : PySem.W.keepIn K (.ref f) = true) : LnCh K f :=
  ⟨⟨oc, od, kV, doc, pm, an, cdv, ct, osl, h, hc⟩, k⟩
theorem trCh_mk {f : Addr} {oc : Value} {od an : Option Addr} {kV doc pm cdv ct : Value} {osl : Array (Option Value)} (h : K.lookup f = some ⟨oc, od, .func (PySem.W.fnOf "changed" "Tracker.changed" (defArgs sTC) (defBody sTC) (defScope sTC) .none kV doc pm an cdv ct), osl⟩) (hc : PySem.W.codeIn K cdv "Tracker.changed" = true) (k : PySem.W.keepIn K (.ref f) = true) : TrCh K f :=
  ⟨⟨oc, od, kV, doc, pm, an, cdv, ct, osl, h, hc⟩, k⟩
theorem woE_mk {f : Addr} {oc : Value} {od an : Option Addr} {kV doc pm cdv ct : Value} {osl : Array (Option Value)} (h : K.lookup f = some ⟨oc, od, .func (PySem.W.fnOf "with_offers" "Plant.with_offers" (defArgs s_wo) (defBody s_wo) (defScope s_wo) .none kV doc pm an cdv ct), osl⟩) (hc : PySem.W.codeIn K cdv "Plant.with_offers" = true) : WoE K f :=
  ⟨⟨oc, od, kV, doc, pm, an, cdv, ct, osl, h, hc⟩⟩
theorem bmeth_mk {C g : Addr} {m : Str} (h1 : Meth K C m g) (h2 : PySem.W.specialIn K (.ref g) "__get__" = some (some (.builtin "function.__get__"))) (h3 : PySem.W.takesIn K (.ref g) = some false) (h4 : PySem.W.copiedNames.contains m = false) (h5 : PySem.W.fnIn K g = true) : BMeth K C m g := ⟨h1, h2, h3, h4, h5⟩
theorem kt5 {t : Addr} {od : Option Addr} {n : Nat} {osl : Array (Option Value)} {a b c d e : Str} {ta tb tc td te : Tok} (h : K.lookup t = some ⟨.type "tuple", od, .seq #[.str a ta, .str b tb, .str c tc, .str d td, .str e te] n, osl⟩) : KT K t [.str a, .str b, .str c, .str d, .str e] :=
  ⟨_, _, n, h, rfl, rfl, by show 5 ≤ sizeLine; decide, .cons ⟨ta, rfl⟩ (.cons ⟨tb, rfl⟩ (.cons ⟨tc, rfl⟩ (.cons ⟨td, rfl⟩ (.cons ⟨te, rfl⟩ .nil))))⟩
theorem kt4 {t : Addr} {od : Option Addr} {n : Nat} {osl : Array (Option Value)} {a b c d : Str} {ta tb tc td : Tok} (h : K.lookup t = some ⟨.type "tuple", od, .seq #[.str a ta, .str b tb, .str c tc, .str d td] n, osl⟩) : KT K t [.str a, .str b, .str c, .str d] :=
  ⟨_, _, n, h, rfl, rfl, by show 4 ≤ sizeLine; decide, .cons ⟨ta, rfl⟩ (.cons ⟨tb, rfl⟩ (.cons ⟨tc, rfl⟩ (.cons ⟨td, rfl⟩ .nil)))⟩
end
end Own

namespace Own
open PySem L2 ClX PySem.HandSPX LamX NdefX

/-- a class as the top has made it: its chain, its __init__ -/
structure ClsF (K : PySem.W.Frag) (C f : Addr) (newId : String) (bmB : List Value) (attr : Str) : Prop where
  ei : PySem.W.excInitIn K C bmB newId = true
  ov : PySem.W.excOver K C bmB = true
  sa : PySem.W.findIn K (.ref C) "__setattr__" = some (some (.builtin "object.__setattr__"))
  ga : PySem.W.findIn K (.ref C) "__getattribute__" = some (some (.builtin "BaseException.__getattribute__"))
  gg : PySem.W.findIn K (.ref C) "__getattr__" = some none
  exC : PySem.W.subIn K (.ref C) (.type "BaseException") = some true
  tyC : PySem.W.typeIn K (.ref C) = some (.type "type")
  kC : PySem.W.keepIn K (.ref C) = true
  hd : PySem.W.hasDictIn K C = true
  cc : PySem.W.findIn K (.ref C) "__class__" = some (some (.builtin "object.__class__"))
  gn : PySem.W.specialIn K (.builtin "object.__class__") "__get__" = some (some (.builtin "getset_descriptor.__get__"))
  tk : PySem.W.takesIn K (.builtin "object.__class__") = some true
  mo : PySem.W.mroIn K C (.type "object") = some true
  n1 : PySem.W.findIn K (.ref C) "code" = some none
  n2 : PySem.W.findIn K (.ref C) attr = some none
  ic : PySem.W.findIn K (.ref C) "__init__" = some (some (.ref f))
  ti : PySem.W.typeIn K (.ref f) = some (.type "function")
  se : PySem.W.subIn K (.ref C) (.ref C) = some true
structure BasF (K : PySem.W.Frag) (C : Addr) : Prop where
  tyC : PySem.W.typeIn K (.ref C) = some (.type "type")
  hd : PySem.W.hasDictIn K C = true
  se : PySem.W.subIn K (.ref C) (.ref C) = some true
theorem ClsF.bas {K : PySem.W.Frag} {C f : Addr} {newId : String} {bmB : List Value} {attr : Str} (F : ClsF K C f newId bmB attr) : BasF K C := ⟨F.tyC, F.hd, F.se⟩
theorem ClsF.T {K : PySem.W.Frag} {C f : Addr} {B newId initId : String} {bmB : List Value} {attr : Str} (F : ClsF K C f newId bmB attr) (h1 : ExcBaseFacts B newId initId bmB) (h2 : StoreFacts B bmB "object.__setattr__" "object") : ExK K C := ⟨⟨B, newId, initId, bmB, h1, h2, F.ei, F.ov⟩, F.sa, F.ga, F.gg, F.exC, F.tyC, F.kC, F.hd⟩
theorem ClsF.TI {K : PySem.W.Frag} {C f : Addr} {newId : String} {bmB : List Value} {attr : Str} (F : ClsF K C f newId bmB attr) : ExI K C := ⟨F.cc, F.gn, F.tk, F.mo⟩

theorem kit_own {K : PySem.W.Frag} {C D : Addr} {b : Bool} (B : BasF K D) (hs : PySem.W.subIn K (.ref C) (.ref D) = some b) : PySem.W.kitOne K (.ref C) (.ref D) = some b := by
  unfold PySem.W.kitOne
  by_cases e : (Value.ref C == Value.ref D) = true
  · obtain rfl : C = D := by
      have z := eq_of_beq e
      injection z
    rw [if_pos e, ← hs]
    exact B.se.symm
  · rw [if_neg e]
    obtain ⟨cd, hc, _⟩ := PySem.W.any_some B.hd
    have q : ((PySem.W.clsIn K D).isSome && PySem.W.typeIn K (.ref D) == some (.type "type")) = true := by
      rw [hc, B.tyC]; rfl
    show (if ((PySem.W.clsIn K D).isSome && PySem.W.typeIn K (.ref D) == some (.type "type")) = true then PySem.W.subIn K (.ref C) (.ref D) else none) = some b
    rw [if_pos q]
    exact hs
theorem kit_to {K : PySem.W.Frag} {D : Addr} {t : Value} {b : Bool} (B : BasF K D) (hn : (t == Value.ref D) = false) (hs : PySem.W.subIn K t (.ref D) = some b) : PySem.W.kitOne K t (.ref D) = some b := by
  unfold PySem.W.kitOne
  rw [if_neg (by rw [hn]; exact Bool.false_ne_true)]
  obtain ⟨cd, hc, _⟩ := PySem.W.any_some B.hd
  have q : ((PySem.W.clsIn K D).isSome && PySem.W.typeIn K (.ref D) == some (.type "type")) = true := by
    rw [hc, B.tyC]; rfl
  show (if ((PySem.W.clsIn K D).isSome && PySem.W.typeIn K (.ref D) == some (.type "type")) = true then PySem.W.subIn K t (.ref D) else none) = some b
  rw [if_pos q]
  exact hs
section
variable {K : PySem.W.Frag}
def LnE (K : PySem.W.Frag) (f a0 a1 a2 : Addr) : Prop := ∃ (oc : Value) (od : Option Addr) (D : Addr) (doc pm : Value) (an : Option Addr) (cdv ct : Value) (osl : Array (Option Value)), K.lookup f = some ⟨oc, od, .func (PySem.W.fnOf "__init__" "Line.__init__" (defArgs sLI) (defBody sLI) (defScope sLI) .none (.ref D) doc pm an cdv ct), osl⟩ ∧ PySem.W.codeIn K cdv "Line.__init__" = true ∧
    PySem.W.nsIn K D "scans" = some (some (.ref a0)) ∧ PySem.W.nsIn K D "slips" = some (some (.ref a1)) ∧ PySem.W.nsIn K D "words" = some (some (.ref a2)) ∧ PySem.W.nsIn K D "stretch" = some (some .none)
theorem lnE_mk {f D a0 a1 a2 : Addr} {oc : Value} {od an : Option Addr} {doc pm cdv ct : Value} {osl : Array (Option Value)} (h : K.lookup f = some ⟨oc, od, .func (PySem.W.fnOf "__init__" "Line.__init__" (defArgs sLI) (defBody sLI) (defScope sLI) .none (.ref D) doc pm an cdv ct), osl⟩) (hc : PySem.W.codeIn K cdv "Line.__init__" = true)
    (d1 : PySem.W.nsIn K D "scans" = some (some (.ref a0))) (d2 : PySem.W.nsIn K D "slips" = some (some (.ref a1))) (d3 : PySem.W.nsIn K D "words" = some (some (.ref a2))) (d4 : PySem.W.nsIn K D "stretch" = some (some .none)) : LnE K f a0 a1 a2 :=
  ⟨oc, od, D, doc, pm, an, cdv, ct, osl, h, hc, d1, d2, d3, d4⟩
theorem kt0 {t : Addr} {od : Option Addr} {n : Nat} {osl : Array (Option Value)} (h : K.lookup t = some ⟨.type "tuple", od, .seq #[] n, osl⟩) : KT K t [] := ⟨_, _, n, h, rfl, rfl, by show 0 ≤ sizeLine; decide, .nil⟩
theorem ktI {t : Addr} {od : Option Addr} {n : Nat} {osl : Array (Option Value)} {a b : Int} {ta tb : Tok} (h : K.lookup t = some ⟨.type "tuple", od, .seq #[.int a ta, .int b tb] n, osl⟩) : KT K t [.int a, .int b] :=
  ⟨_, _, n, h, rfl, rfl, by show 2 ≤ sizeLine; decide, .cons ⟨ta, rfl⟩ (.cons ⟨tb, rfl⟩ .nil)⟩
theorem kt3 {t : Addr} {od : Option Addr} {n : Nat} {osl : Array (Option Value)} {ta tb tc : Tok} (h : K.lookup t = some ⟨.type "tuple", od, .seq #[.str "missed" ta, .str "twice" tb, .str "swapped" tc] n, osl⟩) : KT K t (slipW.map V.str) :=
  ⟨_, _, n, h, rfl, rfl, by show 3 ≤ sizeLine; decide, .cons ⟨ta, rfl⟩ (.cons ⟨tb, rfl⟩ (.cons ⟨tc, rfl⟩ .nil))⟩
theorem kd_mk {t : Addr} {d : Data} {osl : Array (Option Value)} (h : K.lookup t = some ⟨.type "tuple", none, d, osl⟩) : KD K t := ⟨_, h, rfl, rfl⟩
theorem cval_mk {C : Addr} {mc : Value} {tk : Tok} (h : PySem.W.findCls K (.ref C) mc "MOST" = some (.val (.int 3 tk))) : CVal K C mc "MOST" (.int 3) (.int 3 tk) := ⟨h, ⟨tk, rfl⟩⟩
theorem propOf_mk {C p g : Addr} {f : Str} {rest : List Value} (a : PySem.W.findIn K (.ref C) f = some (some (.ref p))) (b : PySem.W.specialIn K (.ref p) "__get__" = some (some (.builtin "property.__get__"))) (c : PySem.W.takesIn K (.ref p) = some true) (d : PySem.W.recIn K p "property" = some (.ref g :: rest)) : PropOf K C f p g := ⟨a, b, c, rest, d⟩
end


theorem exm_of {K : PySem.W.Frag} {D : Addr} {t : Value} {b : Bool} (B : BasF K D) (hb : PySem.W.subIn K (.ref D) (.type "BaseException") = some true) (hs : PySem.W.subIn K t (.ref D) = some b) : PySem.W.exmOne K t (.ref D) = some b := by
  unfold PySem.W.exmOne
  rw [if_pos (by rw [hb]; rfl)]
  obtain ⟨cd, hc, _⟩ := PySem.W.any_some B.hd
  have q : ((PySem.W.clsIn K D).isSome && PySem.W.typeIn K (.ref D) == some (.type "type")) = true := by
    rw [hc, B.tyC]; rfl
  show (if ((PySem.W.clsIn K D).isSome && PySem.W.typeIn K (.ref D) == some (.type "type")) = true then PySem.W.subIn K t (.ref D) else none) = some b
  rw [if_pos q]
  exact hs
theorem exm3 {K : PySem.W.Frag} {t a b c : Value} {x y z : Bool} (h1 : PySem.W.exmOne K t a = some x) (h2 : PySem.W.exmOne K t b = some y) (h3 : PySem.W.exmOne K t c = some z) (hx : x = true) : PySem.W.exmAny K t [a, b, c] = some true := by
  unfold PySem.W.exmAny PySem.W.exmAny PySem.W.exmAny PySem.W.exmAny
  rw [h1, h2, h3, hx]
  rfl
theorem tabIn_of {K : PySem.W.Frag} {x : Str} {f c P : Addr} {oc oc2 : Value} {od od2 : Option Addr} {fd : FuncData} {osl osl2 : Array (Option Value)} {vs : Array Value} (h1 : PySem.W.nsIn K mainGlobals x = some (some (.ref f))) (h2 : K.lookup f = some ⟨oc, od, .func fd, osl⟩) (h3 : fd.code = .ref c) (h4 : K.lookup c = some ⟨oc2, od2, .fields vs, osl2⟩) (h5 : vs[11]? = some (.ref P)) : PySem.W.tabIn K x = some (c, P) := by
  unfold PySem.W.tabIn
  rw [h1]
  dsimp only
  rw [h2]
  dsimp only
  rw [h3]
  dsimp only
  rw [h4]
  dsimp only
  rw [h5]
theorem walkT {l : PySem.W.OpenLaw} {n k : Nat} {q : Program} {loose : List Str} {XP : (Str → Option Value) → Heap → Prop} {YP : World → Heap → Prop} {d d' : DefRec} {K : Params → PySem.W.Frag} {CX : World → CXT} {x x0 : Str}
    (hn : l.most = some n) (hn2 : n ≤ sizeLine) (hdf : d.params.defaults = []) (hr : Room k callerA) (hY : ∀ (w : World) (h : Heap), YP w h → (K w.params).In h) (hrec : (PyProof.Rows.recsOf q).find? (fun e => e.name == x0) = some d')
    (F : ∀ (w : World) (mg : Str → Option Value) (fa : Addr) (h : Heap), (K w.params).In h → h.Ns mainGlobals mg → mg d.name = some (.ref fa) → (∀ c P, PySem.W.tabIn (K w.params) x0 = some (c, P) → PySem.W.CodeHd h c P ∧ h.get? P = some (PySem.W.tabObj #[])) → LawAtS l w (K w.params) (CX w) k n x mg fa h)
    (hCX : ∀ (w : World) (H : Hp) (s : Shared) (e : Value) (s' : Shared), CX w [] H s (fun _ _ _ => False) e s' → False) :
    PySem.W.WalkO q loose XP YP l.row.toRowW d [] (fun f vs => PySem.call f vs) := by
  refine Att.attach_callB hn hdf fun w s₀ s₁ mg mb fa o pm cd doc a vs ns G Y ho hd hcd hmg hobj hints hlen hbits hg => ?_
  have KX := hY w _ Y
  obtain ⟨fd, cs, sp, hT, nT, C, hb, hsp, hF⟩ := F w mg fa _ KX G.T.g hmg (fun c P ht => PySem.W.tab_of G.T KX hrec ht)
  exact law_callTs KX G.T.g G.T.b G.T.builtins G.T.nolimit hg hT nT C G.T.bmain hobj hints (Nat.le_trans hlen hn2) hr hF hb (fun H hH hS => hsp H a ns hlen hbits hH hS) fun H e s' => hCX w H s₁ e s'



section
variable {K : PySem.W.Frag}
theorem trInit_mk {f D : Addr} {oc : Value} {od an : Option Addr} {doc pm cdv ct : Value} {osl : Array (Option Value)} {t1 t2 t3 t4 : Tok} (h : K.lookup f = some ⟨oc, od, .func (PySem.W.fnOf "__init__" "Tracker.__init__" (defArgs sTI) (defBody sTI) (defScope sTI) .none (.ref D) doc pm an cdv ct), osl⟩) (hc : PySem.W.codeIn K cdv "Tracker.__init__" = true)
    (d1 : PySem.W.nsIn K D "seek" = some (some (.int 0 t1))) (d2 : PySem.W.nsIn K D "empty" = some (some (.str "none" t2))) (d3 : PySem.W.nsIn K D "strange" = some (some (.str "first" t3))) (d4 : PySem.W.nsIn K D "pause" = some (some (.str "clear" t4))) : TrInit K f :=
  ⟨⟨oc, od, D, doc, pm, an, cdv, ct, osl, h, hc, ⟨t1, d1⟩, ⟨t2, d2⟩, ⟨t3, d3⟩, ⟨t4, d4⟩⟩⟩
theorem kt2 {t : Addr} {od : Option Addr} {n : Nat} {osl : Array (Option Value)} {a b : Str} {ta tb : Tok} (h : K.lookup t = some ⟨.type "tuple", od, .seq #[.str a ta, .str b tb] n, osl⟩) : KT K t [.str a, .str b] :=
  ⟨_, _, n, h, rfl, rfl, by show 2 ≤ sizeLine; decide, .cons ⟨ta, rfl⟩ (.cons ⟨tb, rfl⟩ .nil)⟩
theorem cval_mk4 {C : Addr} {mc : Value} {tk : Tok} (h : PySem.W.findCls K (.ref C) mc "MOST" = some (.val (.int 4 tk))) : CVal K C mc "MOST" (.int 4) (.int 4 tk) := ⟨h, ⟨tk, rfl⟩⟩
end

theorem all_mk {l : PySem.W.OpenLaw} {w : World} {K : PySem.W.Frag} {h : Heap} {mg : Str → Option Value} {fa cL tL cB cM cZ c0 i0 c1 i1 c2 i2 c3 i3 c4 i4 c5 i5 fNum fCkR fCkN fCkW fCkF fCkS fCkP fCkSW fCkT fCp fBg fD fO fS fFl fGt fWy fSl fPl fWr fMl fMt fMp fLw fTw fNb fFp fFi fOl fOt fIo fNo fOd fAo fBe fSc fWo fPSl fPSt fPLa fLn fTRo fg3 fg4 fg5 fg6 fTLn fPIn fPgL fPgX C CT CP tE tEm tSt tPa tF tTF tRu fI fTI a0 a1 a2 qSl qSt qLa r3 r4 r5 r6 qPl qPx fChL fChT fWO fW : Addr} {gNum gCkR gCkN gCkW gCkF gCkS gCkP gCkSW gCkT gCp gBg gD gO gS gFl gGt gWy gSl gPl gWr gMl gMt gMp gLw gTw gNb gFp gFi gOl gOt gIo gNo gOd gAo hBe hSc hWo hPSl hPSt hPLa hLn hTRo hg3 hg4 hg5 hg6 hTLn hPIn hPgL hPgX j0 j1 j2 j3 j4 j5 : FuncData} {mc oc oc2 kV doc pm ct : Value} {od od2 an : Option Addr} {osl osl2 : Array (Option Value)} {vs2 : Array Value} {k1 k2 k3 k4 k5 k6 k9 : Tok} (X : K.In h) (G : h.Ns mainGlobals mg) (hfa : mg "law" = some (.ref fa)) (hW : ∀ c P, PySem.W.tabIn K "law" = some (c, P) → PySem.W.CodeHd h c P ∧ h.get? P = some (PySem.W.tabObj #[]))
    (aNum : PySem.W.nsIn K mainGlobals "is_number" = some (some (.ref fNum)))
    (aCkR : PySem.W.nsIn K mainGlobals "check_rooms" = some (some (.ref fCkR)))
    (aCkN : PySem.W.nsIn K mainGlobals "check_number" = some (some (.ref fCkN)))
    (aCkW : PySem.W.nsIn K mainGlobals "check_word" = some (some (.ref fCkW)))
    (aCkF : PySem.W.nsIn K mainGlobals "check_fields" = some (some (.ref fCkF)))
    (aCkS : PySem.W.nsIn K mainGlobals "check_scans" = some (some (.ref fCkS)))
    (aCkP : PySem.W.nsIn K mainGlobals "check_slips" = some (some (.ref fCkP)))
    (aCkSW : PySem.W.nsIn K mainGlobals "check_slip_words" = some (some (.ref fCkSW)))
    (aCkT : PySem.W.nsIn K mainGlobals "check_stretch" = some (some (.ref fCkT)))
    (aCp : PySem.W.nsIn K mainGlobals "copied" = some (some (.ref fCp)))
    (aBg : PySem.W.nsIn K mainGlobals "_law_bag" = some (some (.ref fBg)))
    (aD : PySem.W.nsIn K mainGlobals "_law_draw" = some (some (.ref fD)))
    (aO : PySem.W.nsIn K mainGlobals "_law_of" = some (some (.ref fO)))
    (aS : PySem.W.nsIn K mainGlobals "_law_same" = some (some (.ref fS)))
    (aFl : PySem.W.nsIn K mainGlobals "_law_field" = some (some (.ref fFl)))
    (aGt : PySem.W.nsIn K mainGlobals "_law_got" = some (some (.ref fGt)))
    (aWy : PySem.W.nsIn K mainGlobals "_law_why" = some (some (.ref fWy)))
    (aSl : PySem.W.nsIn K mainGlobals "_law_slip_words" = some (some (.ref fSl)))
    (aPl : PySem.W.nsIn K mainGlobals "_law_planned" = some (some (.ref fPl)))
    (aWr : PySem.W.nsIn K mainGlobals "_law_written" = some (some (.ref fWr)))
    (aMl : PySem.W.nsIn K mainGlobals "_law_made_line" = some (some (.ref fMl)))
    (aMt : PySem.W.nsIn K mainGlobals "_law_made_tracker" = some (some (.ref fMt)))
    (aMp : PySem.W.nsIn K mainGlobals "_law_made_plant" = some (some (.ref fMp)))
    (aLw : PySem.W.nsIn K mainGlobals "line_words" = some (some (.ref fLw)))
    (aTw : PySem.W.nsIn K mainGlobals "tracker_words" = some (some (.ref fTw)))
    (aNb : PySem.W.nsIn K mainGlobals "numbered" = some (some (.ref fNb)))
    (aFp : PySem.W.nsIn K mainGlobals "fits_pair" = some (some (.ref fFp)))
    (aFi : PySem.W.nsIn K mainGlobals "fits" = some (some (.ref fFi)))
    (aOl : PySem.W.nsIn K mainGlobals "offered_line" = some (some (.ref fOl)))
    (aOt : PySem.W.nsIn K mainGlobals "offered_tracker" = some (some (.ref fOt)))
    (aIo : PySem.W.nsIn K mainGlobals "is_offer" = some (some (.ref fIo)))
    (aNo : PySem.W.nsIn K mainGlobals "_law_new_offer" = some (some (.ref fNo)))
    (aOd : PySem.W.nsIn K mainGlobals "_law_offered" = some (some (.ref fOd)))
    (aAo : PySem.W.nsIn K mainGlobals "_law_all_offers" = some (some (.ref fAo)))
    (aW : PySem.W.nsIn K mainGlobals "law" = some (some (.ref fW)))
    (e0 : PySem.W.nsIn K mainGlobals "WrongCount" = some (some (.ref c0)))
    (e1 : PySem.W.nsIn K mainGlobals "InvalidNumber" = some (some (.ref c1)))
    (e2 : PySem.W.nsIn K mainGlobals "InvalidWord" = some (some (.ref c2)))
    (e3 : PySem.W.nsIn K mainGlobals "InvalidPoint" = some (some (.ref c3)))
    (e4 : PySem.W.nsIn K mainGlobals "InvalidField" = some (some (.ref c4)))
    (e5 : PySem.W.nsIn K mainGlobals "InvalidOffer" = some (some (.ref c5)))
    (eB : PySem.W.nsIn K mainGlobals "BeltError" = some (some (.ref cB)))
    (eM : PySem.W.nsIn K mainGlobals "Missing" = some (some (.ref cM)))
    (eZ : PySem.W.nsIn K mainGlobals "NothingLeft" = some (some (.ref cZ)))
    (aC : PySem.W.nsIn K mainGlobals "Line" = some (some (.ref C)))
    (aE : PySem.W.nsIn K mainGlobals "SLIP_WORDS" = some (some (.ref tE)))
    (aCT : PySem.W.nsIn K mainGlobals "Tracker" = some (some (.ref CT)))
    (aEm : PySem.W.nsIn K mainGlobals "EMPTY_WORDS" = some (some (.ref tEm)))
    (aSt : PySem.W.nsIn K mainGlobals "STRANGE_WORDS" = some (some (.ref tSt)))
    (aPa : PySem.W.nsIn K mainGlobals "PAUSE_WORDS" = some (some (.ref tPa)))
    (aCP : PySem.W.nsIn K mainGlobals "Plant" = some (some (.ref CP)))
    (aF : PySem.W.nsIn K mainGlobals "LINE_FIELDS" = some (some (.ref tF)))
    (aTF : PySem.W.nsIn K mainGlobals "TRACKER_FIELDS" = some (some (.ref tTF)))
    (aRu : PySem.W.nsIn K mainGlobals "RULES" = some (some (.ref tRu)))
    (aB : PySem.W.nsIn K mainGlobals "MOST_BELTS" = some (some (.int 3 k2)))
    (aK : PySem.W.nsIn K mainGlobals "MOST_SLIPS" = some (some (.int 3 k1)))
    (aG : PySem.W.nsIn K mainGlobals "MOST_AMONG" = some (some (.int 6 k4)))
    (aH : PySem.W.nsIn K mainGlobals "MOST_STRETCH" = some (some (.int 12 k5)))
    (aSk : PySem.W.nsIn K mainGlobals "MOST_SEEK" = some (some (.int 3 k6)))
    (z_len : PySem.W.nsIn K mainGlobals "len" = some none)
    (z_int : PySem.W.nsIn K mainGlobals "int" = some none)
    (z_isinstance : PySem.W.nsIn K mainGlobals "isinstance" = some none)
    (z_bool : PySem.W.nsIn K mainGlobals "bool" = some none)
    (z_str : PySem.W.nsIn K mainGlobals "str" = some none)
    (z_list : PySem.W.nsIn K mainGlobals "list" = some none)
    (z_tuple : PySem.W.nsIn K mainGlobals "tuple" = some none)
    (z_all : PySem.W.nsIn K mainGlobals "all" = some none)
    (z_zip : PySem.W.nsIn K mainGlobals "zip" = some none)
    (z_range : PySem.W.nsIn K mainGlobals "range" = some none)
    (z_sorted : PySem.W.nsIn K mainGlobals "sorted" = some none)
    (z_dict : PySem.W.nsIn K mainGlobals "dict" = some none)
    (z_min : PySem.W.nsIn K mainGlobals "min" = some none)
    (z_enumerate : PySem.W.nsIn K mainGlobals "enumerate" = some none)
    (kE : KT K tE (slipW.map V.str))
    (kD : KD K tE)
    (cl : Cls K C)
    (n1 : PySem.W.findIn K (.ref C) "_belts" = some none)
    (n2 : PySem.W.findIn K (.ref C) "_scans" = some none)
    (n3 : PySem.W.findIn K (.ref C) "_slips" = some none)
    (n4 : PySem.W.findIn K (.ref C) "_words" = some none)
    (n5 : PySem.W.findIn K (.ref C) "_stretch" = some none)
    (cr : CRead K C mc)
    (cv : CVal K C mc "MOST" (.int 3) (.int 3 k3))
    (mk : Mk K C fI)
    (tI : LnE K fI a0 a1 a2)
    (k0 : KT K a0 [])
    (kk1 : KT K a1 [.int 1, .int 4])
    (kk2 : KT K a2 (slipW.map V.str))
    (kF : KT K tF (fieldsL.map V.str))
    (kTF : KT K tTF (trackL.map V.str))
    (kRu : KT K tRu rulesV)
    (mBe : Meth K C "belts" fBe)
    (mSc : Meth K C "scans" fSc)
    (mWo : Meth K C "words" fWo)
    (mCh : Meth K C "changed" fChL)
    (tCh : LnCh K fChL)
    (pSl : PropOf K C "slips" qSl fPSl)
    (pSt : PropOf K C "stretch" qSt fPSt)
    (pLa : PropOf K C "last" qLa fPLa)
    (sLn : Spec1 K C fLn "__len__")
    (clT : Cls K CT)
    (m1 : PySem.W.findIn K (.ref CT) "_rooms" = some none)
    (m2 : PySem.W.findIn K (.ref CT) "_seek" = some none)
    (m3 : PySem.W.findIn K (.ref CT) "_empty" = some none)
    (m4 : PySem.W.findIn K (.ref CT) "_strange" = some none)
    (m5 : PySem.W.findIn K (.ref CT) "_pause" = some none)
    (crT : CRead K CT mc)
    (cvT : CVal K CT mc "MOST" (.int 4) (.int 4 k9))
    (mkT : Mk K CT fTI)
    (tTI : TrInit K fTI)
    (kEm : KT K tEm emptyW)
    (kSt : KT K tSt strangeW)
    (kPa : KT K tPa pauseW)
    (mTRo : Meth K CT "rooms" fTRo)
    (bCT : BMeth K CT "changed" fChT)
    (tChT : TrCh K fChT)
    (u3 : PropOf K CT "seek" r3 fg3)
    (u4 : PropOf K CT "empty" r4 fg4)
    (u5 : PropOf K CT "strange" r5 fg5)
    (u6 : PropOf K CT "pause" r6 fg6)
    (sTn : Spec1 K CT fTLn "__len__")
    (clP : Cls K CP)
    (l1 : PySem.W.findIn K (.ref CP) "_line" = some none)
    (l2 : PySem.W.findIn K (.ref CP) "_tracker" = some none)
    (l3 : PySem.W.findIn K (.ref CP) "_text" = some none)
    (mkP : Mk K CP fPIn)
    (pPl : PropOf K CP "line" qPl fPgL)
    (pPx : PropOf K CP "text" qPx fPgX)
    (mWO : Meth K CP "with_offers" fWO)
    (tWO : WoE K fWO)
    (E0 : ClsF K c0 i0 "ValueError.__new__" [.type "ValueError", .type "Exception", .type "BaseException", .type "object"] "given")
    (E1 : ClsF K c1 i1 "ValueError.__new__" [.type "ValueError", .type "Exception", .type "BaseException", .type "object"] "given")
    (E2 : ClsF K c2 i2 "ValueError.__new__" [.type "ValueError", .type "Exception", .type "BaseException", .type "object"] "given")
    (E3 : ClsF K c3 i3 "ValueError.__new__" [.type "ValueError", .type "Exception", .type "BaseException", .type "object"] "given")
    (E4 : ClsF K c4 i4 "ValueError.__new__" [.type "ValueError", .type "Exception", .type "BaseException", .type "object"] "name")
    (E5 : ClsF K c5 i5 "ValueError.__new__" [.type "ValueError", .type "Exception", .type "BaseException", .type "object"] "at")
    (bB : BasF K cB)
    (xB : PySem.W.subIn K (.ref cB) (.type "BaseException") = some true)
    (bM : BasF K cM)
    (xM : PySem.W.subIn K (.ref cM) (.type "BaseException") = some true)
    (bZ : BasF K cZ)
    (xZ : PySem.W.subIn K (.ref cZ) (.type "BaseException") = some true)
    (s0B : PySem.W.subIn K (.ref c0) (.ref cB) = some true)
    (s0M : PySem.W.subIn K (.ref c0) (.ref cM) = some false)
    (s0Z : PySem.W.subIn K (.ref c0) (.ref cZ) = some false)
    (s1B : PySem.W.subIn K (.ref c1) (.ref cB) = some true)
    (s1M : PySem.W.subIn K (.ref c1) (.ref cM) = some false)
    (s1Z : PySem.W.subIn K (.ref c1) (.ref cZ) = some false)
    (s2B : PySem.W.subIn K (.ref c2) (.ref cB) = some true)
    (s2M : PySem.W.subIn K (.ref c2) (.ref cM) = some false)
    (s2Z : PySem.W.subIn K (.ref c2) (.ref cZ) = some false)
    (s3B : PySem.W.subIn K (.ref c3) (.ref cB) = some true)
    (s3M : PySem.W.subIn K (.ref c3) (.ref cM) = some false)
    (s3Z : PySem.W.subIn K (.ref c3) (.ref cZ) = some false)
    (s4B : PySem.W.subIn K (.ref c4) (.ref cB) = some true)
    (s4M : PySem.W.subIn K (.ref c4) (.ref cM) = some false)
    (s4Z : PySem.W.subIn K (.ref c4) (.ref cZ) = some false)
    (s5B : PySem.W.subIn K (.ref c5) (.ref cB) = some true)
    (s5M : PySem.W.subIn K (.ref c5) (.ref cM) = some false)
    (s5Z : PySem.W.subIn K (.ref c5) (.ref cZ) = some false)
    (FNum : Fun K "is_number" "is_number" sNum fNum gNum)
    (FCkR : Fun K "check_rooms" "check_rooms" sCkRooms fCkR gCkR)
    (FCkN : Fun K "check_number" "check_number" sCkNum fCkN gCkN)
    (FCkW : Fun K "check_word" "check_word" sCkWord fCkW gCkW)
    (FCkF : Fun K "check_fields" "check_fields" sCkF fCkF gCkF)
    (FCkS : Fun K "check_scans" "check_scans" sScans fCkS gCkS)
    (FCkP : Fun K "check_slips" "check_slips" sSlips fCkP gCkP)
    (FCkSW : Fun K "check_slip_words" "check_slip_words" sSlipW fCkSW gCkSW)
    (FCkT : Fun K "check_stretch" "check_stretch" sStretch fCkT gCkT)
    (FCp : Fun K "copied" "copied" sCopied fCp gCp)
    (FBg : Fun K "_law_bag" "_law_bag" sBag fBg gBg)
    (FD : Fun K "_law_draw" "_law_draw" sDraw fD gD)
    (FO : Fun K "_law_of" "_law_of" sOf fO gO)
    (FS : Fun K "_law_same" "_law_same" sSame fS gS)
    (FFl : Fun K "_law_field" "_law_field" sField fFl gFl)
    (FGt : Fun K "_law_got" "_law_got" sGot fGt gGt)
    (FWy : Fun K "_law_why" "_law_why" sWhy fWy gWy)
    (FSl : Fun K "_law_slip_words" "_law_slip_words" sSlipW2 fSl gSl)
    (FPl : Fun K "_law_planned" "_law_planned" sPlan fPl gPl)
    (FWr : Fun K "_law_written" "_law_written" s_wr fWr gWr)
    (FMl : Fun K "_law_made_line" "_law_made_line" sMadeL fMl gMl)
    (FMt : Fun K "_law_made_tracker" "_law_made_tracker" sMadeT fMt gMt)
    (FMp : Fun K "_law_made_plant" "_law_made_plant" sMadeP fMp gMp)
    (FLw : Fun K "line_words" "line_words" sLw fLw gLw)
    (FTw : Fun K "tracker_words" "tracker_words" sTw fTw gTw)
    (FNb : Fun K "numbered" "numbered" sNb fNb gNb)
    (FFp : Fun K "fits_pair" "fits_pair" s_fits_pair fFp gFp)
    (FFi : Fun K "fits" "fits" s_fits fFi gFi)
    (FOl : Fun K "offered_line" "offered_line" s_offered_line fOl gOl)
    (FOt : Fun K "offered_tracker" "offered_tracker" s_offered_tracker fOt gOt)
    (FIo : Fun K "is_offer" "is_offer" s_is_offer fIo gIo)
    (FNo : Fun K "_law_new_offer" "_law_new_offer" s__law_new_offer fNo gNo)
    (FOd : Fun K "_law_offered" "_law_offered" s__law_offered fOd gOd)
    (FAo : Fun K "_law_all_offers" "_law_all_offers" s__law_all_offers fAo gAo)
    (FBe : Fun K "belts" "Line.belts" (sLG 2) fBe hBe)
    (FSc : Fun K "scans" "Line.scans" (sLG 3) fSc hSc)
    (FWo : Fun K "words" "Line.words" (sLG 4) fWo hWo)
    (FPSl : Fun K "slips" "Line.slips" (sLG 5) fPSl hPSl)
    (FPSt : Fun K "stretch" "Line.stretch" (sLG 6) fPSt hPSt)
    (FPLa : Fun K "last" "Line.last" (sLG 7) fPLa hPLa)
    (FLn : Fun K "__len__" "Line.__len__" (sLG 11) fLn hLn)
    (FTRo : Fun K "rooms" "Tracker.rooms" sTR fTRo hTRo)
    (Fg3 : Fun K "seek" "Tracker.seek" (sTG 3) fg3 hg3)
    (Fg4 : Fun K "empty" "Tracker.empty" (sTG 4) fg4 hg4)
    (Fg5 : Fun K "strange" "Tracker.strange" (sTG 5) fg5 hg5)
    (Fg6 : Fun K "pause" "Tracker.pause" (sTG 6) fg6 hg6)
    (FTLn : Fun K "__len__" "Tracker.__len__" sTLen fTLn hTLn)
    (FPIn : Fun K "__init__" "Plant.__init__" sPi fPIn hPIn)
    (FPgL : Fun K "line" "Plant.line" (inClass (topT 48) 1) fPgL hPgL)
    (FPgX : Fun K "text" "Plant.text" (inClass (topT 48) 3) fPgX hPgX)
    (J0 : Fun K "__init__" "WrongCount.__init__" sI0 i0 j0)
    (J1 : Fun K "__init__" "InvalidNumber.__init__" sI1 i1 j1)
    (J2 : Fun K "__init__" "InvalidWord.__init__" sI2 i2 j2)
    (J3 : Fun K "__init__" "InvalidPoint.__init__" sI4 i3 j3)
    (J4 : Fun K "__init__" "InvalidField.__init__" sIF i4 j4)
    (J5 : Fun K "__init__" "InvalidOffer.__init__" sIO i5 j5)
    (lk : K.lookup fW = some ⟨oc, od, .func (PySem.W.fnOf "law" "law" (defArgs sLaw) (defBody sLaw) (defScope sLaw) .none kV doc pm an (.ref cL) ct), osl⟩)
    (lc : PySem.W.codeIn K (.ref cL) "law" = true)
    (lt : K.lookup cL = some ⟨oc2, od2, .fields vs2, osl2⟩)
    (lv : vs2[11]? = some (.ref tL))
    (ln : K.lookup tL = none)
    : LawAtS l w K CX0 21 63 "_law_script" mg fa h := by
  have e := hfa.symm.trans (PySem.W.mg_of X G aW)
  obtain rfl : fa = fW := by
    have z := Option.some.inj e
    injection z
  have bNum : Binds K gNum ["value", "least", "most"] [] := FNum.binds fun _ _ _ _ _ _ us hl => match us, hl with | [_, _, _], _ => rfl
  have bCkR : Binds K gCkR ["rooms", "most"] [] := FCkR.binds fun _ _ _ _ _ _ us hl => match us, hl with | [_, _], _ => rfl
  have bCkN : Binds K gCkN ["value", "least", "most"] [] := FCkN.binds fun _ _ _ _ _ _ us hl => match us, hl with | [_, _, _], _ => rfl
  have bCkW : Binds K gCkW ["value", "words"] [] := FCkW.binds fun _ _ _ _ _ _ us hl => match us, hl with | [_, _], _ => rfl
  have bCkF : Binds K gCkF ["fields", "names"] [] := FCkF.binds fun _ _ _ _ _ _ us hl => match us, hl with | [_, _], _ => rfl
  have bCkS : Binds K gCkS ["scans", "last"] [] := FCkS.binds fun _ _ _ _ _ _ us hl => match us, hl with | [_, _], _ => rfl
  have bCkP : Binds K gCkP ["slips"] [] := FCkP.binds fun _ _ _ _ _ _ us hl => match us, hl with | [_], _ => rfl
  have bCkSW : Binds K gCkSW ["words"] [] := FCkSW.binds fun _ _ _ _ _ _ us hl => match us, hl with | [_], _ => rfl
  have bCkT : Binds K gCkT ["stretch"] [] := FCkT.binds fun _ _ _ _ _ _ us hl => match us, hl with | [_], _ => rfl
  have bCp : Binds K gCp ["value"] [] := FCp.binds fun _ _ _ _ _ _ us hl => match us, hl with | [_], _ => rfl
  have bBg : Binds K gBg ["_law_script"] [] := FBg.binds fun _ _ _ _ _ _ us hl => match us, hl with | [_], _ => rfl
  have bD : Binds K gD ["_law_bag_here", "_law_many"] [] := FD.binds fun _ _ _ _ _ _ us hl => match us, hl with | [_, _], _ => rfl
  have bO : Binds K gO ["_law_bag_here", "_law_some"] [] := FO.binds fun _ _ _ _ _ _ us hl => match us, hl with | [_, _], _ => rfl
  have bS : Binds K gS ["_law_found", "_law_due"] [] := FS.binds fun _ _ _ _ _ _ us hl => match us, hl with | [_, _], _ => rfl
  have bFl : Binds K gFl ["_law_e"] [] := FFl.binds fun _ _ _ _ _ _ us hl => match us, hl with | [_], _ => rfl
  have bGt : Binds K gGt ["_law_ask"] [] := FGt.binds fun _ _ _ _ _ _ us hl => match us, hl with | [_], _ => rfl
  have bWy : Binds K gWy ["_law_ask"] [] := FWy.binds fun _ _ _ _ _ _ us hl => match us, hl with | [_], _ => rfl
  have bSl : Binds K gSl ["_law_bag_here"] [] := FSl.binds fun _ _ _ _ _ _ us hl => match us, hl with | [_], _ => rfl
  have bPl : Binds K gPl ["_law_bag_here", "_law_most", "_law_wide"] [] := FPl.binds fun _ _ _ _ _ _ us hl => match us, hl with | [_, _, _], _ => rfl
  have bWr : Binds K gWr ["_law_plan"] [] := FWr.binds fun _ _ _ _ _ _ us hl => match us, hl with | [_], _ => rfl
  have bMl : Binds K gMl ["_law_plan"] [] := FMl.binds fun _ _ _ _ _ _ us hl => match us, hl with | [_], _ => rfl
  have bMt : Binds K gMt ["_law_plan"] [] := FMt.binds fun _ _ _ _ _ _ us hl => match us, hl with | [_], _ => rfl
  have bMp : Binds K gMp ["_law_plan"] [] := FMp.binds fun _ _ _ _ _ _ us hl => match us, hl with | [_], _ => rfl
  have bLw : Binds K gLw ["line"] [] := FLw.binds fun _ _ _ _ _ _ us hl => match us, hl with | [_], _ => rfl
  have bTw : Binds K gTw ["tracker"] [] := FTw.binds fun _ _ _ _ _ _ us hl => match us, hl with | [_], _ => rfl
  have bNb : Binds K gNb ["numbers"] [] := FNb.binds fun _ _ _ _ _ _ us hl => match us, hl with | [_], _ => rfl
  have bFp : Binds K gFp ["last", "word", "value"] [] := FFp.binds fun _ _ _ _ _ _ us hl => match us, hl with | [_, _, _], _ => rfl
  have bFi : Binds K gFi ["last", "value"] [] := FFi.binds fun _ _ _ _ _ _ us hl => match us, hl with | [_, _], _ => rfl
  have bOl : Binds K gOl ["line", "offer"] [] := FOl.binds fun _ _ _ _ _ _ us hl => match us, hl with | [_, _], _ => rfl
  have bOt : Binds K gOt ["tracker", "offer"] [] := FOt.binds fun _ _ _ _ _ _ us hl => match us, hl with | [_, _], _ => rfl
  have bIo : Binds K gIo ["plant", "value"] [] := FIo.binds fun _ _ _ _ _ _ us hl => match us, hl with | [_, _], _ => rfl
  have bNo : Binds K gNo ["_law_bag_here", "_law_plan"] [] := FNo.binds fun _ _ _ _ _ _ us hl => match us, hl with | [_, _], _ => rfl
  have bOd : Binds K gOd ["_law_plan", "_law_offer"] [] := FOd.binds fun _ _ _ _ _ _ us hl => match us, hl with | [_, _], _ => rfl
  have bAo : Binds K gAo ["_law_made", "_law_some"] [] := FAo.binds fun _ _ _ _ _ _ us hl => match us, hl with | [_, _], _ => rfl
  have bBe : Binds K hBe ["self"] [] := FBe.binds fun _ _ _ _ _ _ us hl => match us, hl with | [_], _ => rfl
  have bSc : Binds K hSc ["self"] [] := FSc.binds fun _ _ _ _ _ _ us hl => match us, hl with | [_], _ => rfl
  have bWo : Binds K hWo ["self"] [] := FWo.binds fun _ _ _ _ _ _ us hl => match us, hl with | [_], _ => rfl
  have bPSl : Binds K hPSl ["self"] [] := FPSl.binds fun _ _ _ _ _ _ us hl => match us, hl with | [_], _ => rfl
  have bPSt : Binds K hPSt ["self"] [] := FPSt.binds fun _ _ _ _ _ _ us hl => match us, hl with | [_], _ => rfl
  have bPLa : Binds K hPLa ["self"] [] := FPLa.binds fun _ _ _ _ _ _ us hl => match us, hl with | [_], _ => rfl
  have bLn : Binds K hLn ["self"] [] := FLn.binds fun _ _ _ _ _ _ us hl => match us, hl with | [_], _ => rfl
  have bTRo : Binds K hTRo ["self"] [] := FTRo.binds fun _ _ _ _ _ _ us hl => match us, hl with | [_], _ => rfl
  have bg3 : Binds K hg3 ["self"] [] := Fg3.binds fun _ _ _ _ _ _ us hl => match us, hl with | [_], _ => rfl
  have bg4 : Binds K hg4 ["self"] [] := Fg4.binds fun _ _ _ _ _ _ us hl => match us, hl with | [_], _ => rfl
  have bg5 : Binds K hg5 ["self"] [] := Fg5.binds fun _ _ _ _ _ _ us hl => match us, hl with | [_], _ => rfl
  have bg6 : Binds K hg6 ["self"] [] := Fg6.binds fun _ _ _ _ _ _ us hl => match us, hl with | [_], _ => rfl
  have bTLn : Binds K hTLn ["self"] [] := FTLn.binds fun _ _ _ _ _ _ us hl => match us, hl with | [_], _ => rfl
  have bPIn : Binds K hPIn ["self", "line", "tracker"] [] := FPIn.binds fun _ _ _ _ _ _ us hl => match us, hl with | [_, _, _], _ => rfl
  have bPgL : Binds K hPgL ["self"] [] := FPgL.binds fun _ _ _ _ _ _ us hl => match us, hl with | [_], _ => rfl
  have bPgX : Binds K hPgX ["self"] [] := FPgX.binds fun _ _ _ _ _ _ us hl => match us, hl with | [_], _ => rfl
  have d0 : Binds K j0 ["self", "given"] [] := J0.binds fun _ _ _ _ _ _ us hl => match us, hl with | [_, _], _ => rfl
  have d1 : Binds K j1 ["self", "given"] [] := J1.binds fun _ _ _ _ _ _ us hl => match us, hl with | [_, _], _ => rfl
  have d2 : Binds K j2 ["self", "given"] [] := J2.binds fun _ _ _ _ _ _ us hl => match us, hl with | [_, _], _ => rfl
  have d3 : Binds K j3 ["self", "given"] [] := J3.binds fun _ _ _ _ _ _ us hl => match us, hl with | [_, _], _ => rfl
  have d4 : Binds K j4 ["self", "name"] [] := J4.binds fun _ _ _ _ _ _ us hl => match us, hl with | [_, _], _ => rfl
  have d5 : Binds K j5 ["self", "at"] [] := J5.binds fun _ _ _ _ _ _ us hl => match us, hl with | [_, _], _ => rfl
  have M := fun {n : Str} {v : Value} (e : PySem.W.nsIn K mainGlobals n = some (some v)) => PySem.W.mg_of X G e
  have Z := fun {n : Str} (e : PySem.W.nsIn K mainGlobals n = some none) => PySem.W.mg_none_of X G e
  have B : Blt mg := ⟨Z z_len, Z z_int, Z z_isinstance, Z z_bool, Z z_str, Z z_list, Z z_tuple, Z z_all, Z z_zip⟩
  have T : LnF K mg C := ⟨cl, M aC, n1, n2, n3, n4, n5, ⟨mc, k3, cr, cv⟩, Z z_len, Z z_tuple, Z z_sorted⟩
  have I : LnInit K fI a0 a1 a2 := ⟨tI, k0, kk1, kk2⟩
  have TT : TrF K mg CT := ⟨clT, M aCT, m1, m2, m3, m4, m5, ⟨mc, k9, crT, cvT⟩, ⟨k6, M aSk⟩, ⟨tEm, M aEm, kEm⟩, ⟨tSt, M aSt, kSt⟩, ⟨tPa, M aPa, kPa⟩⟩
  have TP : PlF K mg CP := ⟨clP, M aCP, l1, l2, l3⟩
  have tabF := hW cL tL (tabIn_of aW lk rfl lt lv)
  refine ⟨PySem.W.fnOf "law" "law" (defArgs sLaw) (defBody sLaw) (defScope sLaw) .none kV doc pm an (.ref cL) ct, [(cL, tL)], spLaw K tL, fun p hp => by rw [List.mem_singleton.mp hp]; exact tabF.2, fun p hp => by rw [List.mem_singleton.mp hp]; exact ln, fun p hp => by rw [List.mem_singleton.mp hp]; exact tabF.1, fun s v => .of_eq rfl, fun H a ns hl _ hH hS => ⟨a, ns, rfl, hS, hl, hH (cL, tL) (List.mem_singleton.mpr rfl), fun H' => rfl⟩, fun base KB GB hTB => ?_⟩
  have GCp := ok_copied (P := l.prog) (w := w) (base := base) FCp (M aCp) bCp B 3
  have T0 : ExK K c0 := E0.T PySem.F.excBase_ValueError PySem.F.store_ValueError
  have C0 : ErrC l.prog w K mg base "WrongCount" "given" c0 := ⟨T0, M e0, ⟨i0, j0, E0.ic, E0.ti, ok_i0 J0 GCp (M aCp) FCp.kp bCp T0 E0.n1 E0.n2, d0⟩, by decide +kernel⟩
  have L0 : ErrTell K cB cM cZ c0 "WrongCount" "given" := ⟨exm3 (exm_of bB xB s0B) (exm_of bM xM s0M) (exm_of bZ xZ s0Z) rfl, T0, ⟨E0.ga, E0.gg, E0.exC, E0.hd⟩, E0.n1, E0.n2, by decide +kernel⟩
  have T1 : ExK K c1 := E1.T PySem.F.excBase_ValueError PySem.F.store_ValueError
  have C1 : ErrC l.prog w K mg base "InvalidNumber" "given" c1 := ⟨T1, M e1, ⟨i1, j1, E1.ic, E1.ti, ok_i1 J1 GCp (M aCp) FCp.kp bCp T1 E1.n1 E1.n2, d1⟩, by decide +kernel⟩
  have L1 : ErrTell K cB cM cZ c1 "InvalidNumber" "given" := ⟨exm3 (exm_of bB xB s1B) (exm_of bM xM s1M) (exm_of bZ xZ s1Z) rfl, T1, ⟨E1.ga, E1.gg, E1.exC, E1.hd⟩, E1.n1, E1.n2, by decide +kernel⟩
  have T2 : ExK K c2 := E2.T PySem.F.excBase_ValueError PySem.F.store_ValueError
  have C2 : ErrC l.prog w K mg base "InvalidWord" "given" c2 := ⟨T2, M e2, ⟨i2, j2, E2.ic, E2.ti, ok_i2 J2 GCp (M aCp) FCp.kp bCp T2 E2.n1 E2.n2, d2⟩, by decide +kernel⟩
  have L2 : ErrTell K cB cM cZ c2 "InvalidWord" "given" := ⟨exm3 (exm_of bB xB s2B) (exm_of bM xM s2M) (exm_of bZ xZ s2Z) rfl, T2, ⟨E2.ga, E2.gg, E2.exC, E2.hd⟩, E2.n1, E2.n2, by decide +kernel⟩
  have T3 : ExK K c3 := E3.T PySem.F.excBase_ValueError PySem.F.store_ValueError
  have C3 : ErrC l.prog w K mg base "InvalidPoint" "given" c3 := ⟨T3, M e3, ⟨i3, j3, E3.ic, E3.ti, ok_i4 J3 GCp (M aCp) FCp.kp bCp T3 E3.n1 E3.n2, d3⟩, by decide +kernel⟩
  have L3 : ErrTell K cB cM cZ c3 "InvalidPoint" "given" := ⟨exm3 (exm_of bB xB s3B) (exm_of bM xM s3M) (exm_of bZ xZ s3Z) rfl, T3, ⟨E3.ga, E3.gg, E3.exC, E3.hd⟩, E3.n1, E3.n2, by decide +kernel⟩
  have T4 : ExK K c4 := E4.T PySem.F.excBase_ValueError PySem.F.store_ValueError
  have C4 : ErrC l.prog w K mg base "InvalidField" "name" c4 := ⟨T4, M e4, ⟨i4, j4, E4.ic, E4.ti, ok_iF J4 GCp (M aCp) FCp.kp bCp T4 E4.n1 E4.n2, d4⟩, by decide +kernel⟩
  have L4 : ErrTell K cB cM cZ c4 "InvalidField" "name" := ⟨exm3 (exm_of bB xB s4B) (exm_of bM xM s4M) (exm_of bZ xZ s4Z) rfl, T4, ⟨E4.ga, E4.gg, E4.exC, E4.hd⟩, E4.n1, E4.n2, by decide +kernel⟩
  have T5 : ExK K c5 := E5.T PySem.F.excBase_ValueError PySem.F.store_ValueError
  have C5 : ErrC l.prog w K mg base "InvalidOffer" "at" c5 := ⟨T5, M e5, ⟨i5, j5, E5.ic, E5.ti, ok_iO J5 GCp (M aCp) FCp.kp bCp T5 E5.n1 E5.n2, d5⟩, by decide +kernel⟩
  have L5 : ErrTell K cB cM cZ c5 "InvalidOffer" "at" := ⟨exm3 (exm_of bB xB s5B) (exm_of bM xM s5M) (exm_of bZ xZ s5Z) rfl, T5, ⟨E5.ga, E5.gg, E5.exC, E5.hd⟩, E5.n1, E5.n2, by decide +kernel⟩
  have HNum := ok_numD (P := l.prog) (w := w) (base := base) FNum B.isi B.bool B.int
  have HCkN := ok_ckN (P := l.prog) (w := w) (base := base) FCkN HNum (M aNum) FNum.kp bNum C1
  have HCkW := ok_ckW (P := l.prog) (w := w) (mg := mg) (base := base) FCkW C2
  have HCkR := ok_ckR (P := l.prog) (w := w) (base := base) FCkR HCkN (M aCkN) FCkN.kp bCkN B.len (M aB) C0
  have HCkS := ok_ckS (P := l.prog) (w := w) (base := base) FCkS HNum (M aNum) FNum.kp bNum C3
  have HCkP := ok_ckP (P := l.prog) (w := w) (base := base) FCkP HNum (M aNum) FNum.kp bNum B.isi (Z z_tuple) B.len (M aK) (M aG) C1
  have HCkSW := ok_ckSW (P := l.prog) (w := w) (base := base) FCkSW HCkW (M aCkW) FCkW.kp bCkW (M aE) kE kD
  have HCkT := ok_ckT (P := l.prog) (w := w) (base := base) FCkT HCkN (M aCkN) FCkN.kp bCkN (M aH)
  have HCkF := ok_ckFX (P := l.prog) (w := w) (mg := mg) (base := base) FCkF C4
  have GNum := ok_num (P := l.prog) (w := w) (base := base) FNum B.isi B.bool B.int
  have GCkN := ok_cknum (P := l.prog) (w := w) (base := base) FCkN GNum (M aNum) FNum.kp bNum
  have GCkW := ok_ckword (P := l.prog) (w := w) (mg := mg) (base := base) FCkW
  have GCkR := ok_ckrooms (P := l.prog) (w := w) (base := base) FCkR GCkN (M aCkN) FCkN.kp bCkN B.len (M aB)
  have GD := ok_draw (P := l.prog) (w := w) (base := base) FD B.len B.int
  have GO := ok_of (P := l.prog) (w := w) (base := base) FO GD (M aD) FD.kp bD B.len
  have GSl := ok_slipD (P := l.prog) (w := w) (base := base) FSl GD (M aD) FD.kp bD
  have GPl := ok_plan (P := l.prog) (w := w) (base := base) FPl GD (M aD) FD.kp bD GO (M aO) FO.kp bO GSl (M aSl) FSl.kp bSl (Z z_range)
  have GFl := ok_fieldQ (P := l.prog) (w := w) (mg := mg) (base := base) FFl
  have GGt := ok_got (P := l.prog) (w := w) (base := base) FGt GFl (M aFl) FFl.kp bFl (M eB) (M eM) (M eZ)
  have GWy := ok_why (P := l.prog) (w := w) (base := base) FWy GGt (M aGt) FGt.kp bGt
  let cA : Nat → Addr := fun n => match n with | 0 => c0 | 1 => c1 | 2 => c2 | _ => c3
  have ck : CkL l.prog w K mg base cA := ⟨⟨fCkR, gCkR, HCkR, M aCkR, FCkR.kp, bCkR⟩, ⟨fCkS, gCkS, HCkS, M aCkS, FCkS.kp, bCkS⟩, ⟨fCkP, gCkP, HCkP, M aCkP, FCkP.kp, bCkP⟩, ⟨fCkSW, gCkSW, HCkSW, M aCkSW, FCkSW.kp, bCkSW⟩, ⟨fCkT, gCkT, HCkT, M aCkT, FCkT.kp, bCkT⟩⟩
  have chL : ChF l.prog w K mg base fI C a0 a1 a2 cA c4 := ⟨T, mk, I, ck, ⟨fCkF, gCkF, HCkF, M aCkF, FCkF.kp, bCkF⟩, ⟨tF, M aF, kF⟩⟩
  have GMl := ok_madeL (P := l.prog) (w := w) (base := base) FMl I T ck mk
  have S1 := st_one (P := l.prog) (w := w) (mg := mg) (base := base) (CX := CX0) StX.cxUp_none tTI TT GCkR (M aCkR) FCkR.kp bCkR GCkN (M aCkN) FCkN.kp bCkN GCkW (M aCkW) FCkW.kp bCkW
  have S2 := st_two (P := l.prog) (w := w) (mg := mg) (base := base) (CX := CX0) StX.cxUp_none tTI TT GCkR (M aCkR) FCkR.kp bCkR GCkN (M aCkN) FCkN.kp bCkN GCkW (M aCkW) FCkW.kp bCkW
  have S3 := st_three (P := l.prog) (w := w) (mg := mg) (base := base) (CX := CX0) StX.cxUp_none tTI TT GCkR (M aCkR) FCkR.kp bCkR GCkN (M aCkN) FCkN.kp bCkN GCkW (M aCkW) FCkW.kp bCkW
  have S1X := st_one (P := l.prog) (w := w) (mg := mg) (base := base) (CX := _root_.L2.CX l.prog w) StX.cxUp tTI TT GCkR (M aCkR) FCkR.kp bCkR GCkN (M aCkN) FCkN.kp bCkN GCkW (M aCkW) FCkW.kp bCkW
  have chT : TcF l.prog w K mg base fTI CT c4 := ⟨TT, mkT, S1X, ⟨fCkF, gCkF, HCkF, M aCkF, FCkF.kp, bCkF⟩, ⟨tTF, M aTF, kTF⟩⟩
  have GMt := ok_madeT (P := l.prog) (w := w) (base := base) FMt TT mkT B.len S1 S2 S3
  have GNb := ok_nb (P := l.prog) (w := w) (mg := mg) (base := base) FNb B.str
  have dLw : DefF l.prog w K mg base "line_words" 3 ["line"] (spLw K C) fLw gLw := ⟨ok_lw (P := l.prog) (w := w) (base := base) FLw T B.str ⟨GNb, M aNb, FNb.kp, bNb⟩ ⟨ok_lbelts FBe T B.list, mBe, bBe⟩ ⟨ok_lscans FSc T B.list, mSc, bSc⟩ ⟨ok_lwords FWo T B.list, mWo, bWo⟩ ⟨pSl, ok_slips FPSl T, bPSl⟩ ⟨pSt, ok_stretch FPSt T, bPSt⟩, M aLw, FLw.kp, bLw⟩
  have dTw : DefF l.prog w K mg base "tracker_words" 3 ["tracker"] (spTw K CT) fTw gTw := ⟨ok_tw (P := l.prog) (w := w) (base := base) FTw TT B.str ⟨GNb, M aNb, FNb.kp, bNb⟩ ⟨ok_rooms FTRo TT B.list, mTRo, bTRo⟩ ⟨u3, ok_g3 Fg3 TT, bg3⟩ ⟨u4, ok_g4 Fg4 TT, bg4⟩ ⟨u5, ok_g5 Fg5 TT, bg5⟩ ⟨u6, ok_g6 Fg6 TT, bg6⟩, M aTw, FTw.kp, bTw⟩
  have GPi := ok_pi (P := l.prog) (w := w) (base := base) FPIn TP B.len C0 dLw dTw ⟨sLn, ok_llen FLn T, bLn⟩ ⟨sTn, ok_tlen FTLn TT B.len, bTLn⟩
  have GMp := ok_madeP (P := l.prog) (w := w) (base := base) FMp TP mkP GPi bPIn ⟨GMl, M aMl, FMl.kp, bMl⟩ ⟨GMt, M aMt, FMt.kp, bMt⟩
  have dNu : DefF l.prog w K mg base "is_number" 1 ["value", "least", "most"] (spNumD K) fNum gNum := ⟨HNum, M aNum, FNum.kp, bNum⟩
  have pL1 : PropF l.prog w K mg base CP "line" qPl fPgL (spGet CP "_line") hPgL := ⟨pPl, ok_pg1 FPgL TP, bPgL⟩
  have pLl : PropF l.prog w K mg base C "last" qLa fPLa (spLenF K C "_belts") hPLa := ⟨pLa, ok_llast FPLa T, bPLa⟩
  have dFp : DefF l.prog w K mg base "fits_pair" 2 N_fits_pair (spFp K) fFp gFp := ⟨ok_fits_pair FFp (M aSk) (M aH) (M aEm) kEm (M aSt) kSt (M aPa) kPa dNu, M aFp, FFp.kp, bFp⟩
  have dFi : DefF l.prog w K mg base "fits" 3 N_fits (spFi K) fFi gFi := ⟨ok_fits FFi TT B.isi (Z z_tuple) B.len dNu dFp, M aFi, FFi.kp, bFi⟩
  have GOl := ok_offered_line (P := l.prog) (w := w) (base := base) FOl chL tCh mCh ⟨ok_lscans FSc T B.list, mSc, bSc⟩
  have GOt := ok_offered_tracker (P := l.prog) (w := w) (base := base) FOt chT tChT bCT ⟨ok_rooms FTRo TT B.list, mTRo, bTRo⟩ (M aRu) kRu
  have GWO := ok_wo (P := l.prog) (w := w) (base := base) tWO TP T mkP GPi bPIn C5 (Z z_enumerate) dFi pLl ⟨GOl, M aOl, FOl.kp, bOl⟩ ⟨GOt, M aOt, FOt.kp, bOt⟩
  have GAo := ok__law_all_offers (P := l.prog) (w := w) (base := base) FAo TP B.len mWO GWO
  have dIo : DefF l.prog w K mg base "is_offer" 4 N_is_offer (spIsO K CP C CT) fIo gIo := ⟨ok_is_offer FIo TP T dFi pL1 pLl, M aIo, FIo.kp, bIo⟩
  have kbI : KBn K gIo N_is_offer 0 ["value", "plant"] (fun us ws => gSwap us ws) (fun us ws => gSwap us ws) := kbn_all 0 (fun us ws => gSwap us ws) FIo (fun r1 r2 => gSwap_rel r1 r2) (fun _ _ _ _ _ _ us ws l1 l2 => match us, l1, ws, l2 with | [], _, [_, _], _ => rfl)
  have dD : DefF l.prog w K mg base "_law_draw" 1 ["_law_bag_here", "_law_many"] spDraw fD gD := ⟨GD, M aD, FD.kp, bD⟩
  have dO : DefF l.prog w K mg base "_law_of" 2 ["_law_bag_here", "_law_some"] (spOf K) fO gO := ⟨GO, M aO, FO.kp, bO⟩
  exact ok_law lk lc {
    z_len := Z z_len
    z_range := Z z_range
    z_all := Z z_all
    z_min := Z z_min
    bag := ⟨fBg, gBg, ok_bag FBg B.len B.int, M aBg, FBg.kp, bBg⟩
    draw := ⟨fD, gD, dD⟩
    of := ⟨fO, gO, dO⟩
    plan := ⟨fPl, gPl, GPl, M aPl, FPl.kp, bPl⟩
    madeP := ⟨fMp, gMp, GMp, M aMp, FMp.kp, bMp⟩
    wr := ⟨fWr, gWr, ok_wr (P := l.prog) (w := w) (base := base) FWr B.str (Z z_sorted), M aWr, FWr.kp, bWr⟩
    same := ⟨fS, gS, ok_same FS (M aS) bS B 5, M aS, FS.kp, bS⟩
    no := ⟨fNo, gNo, ok__law_new_offer FNo B.len (Z z_range) B.list dD dO, M aNo, FNo.kp, bNo⟩
    od := ⟨fOd, gOd, ok__law_offered FOd (Z z_dict) (Z z_sorted), M aOd, FOd.kp, bOd⟩
    ao := ⟨fAo, gAo, GAo, M aAo, FAo.kp, bAo⟩
    io := ⟨fIo, gIo, dIo, kbI⟩
    why := ⟨fWy, gWy, GWy, M aWy, FWy.kp, bWy⟩
    T := TP
    p3 := ⟨qPx, fPgX, hPgX, pPx, ok_pg3 FPgX TP, bPgX⟩
    tell := L5
    TB := hTB (cL, tL) (List.mem_singleton.mpr rfl) }
end Own

open PySem PySem.W PyProof.Rows in
set_option maxRecDepth 100000 in
set_option maxHeartbeats 0 in
theorem PySem.Challenge.cw_ownchute_k09_offers_holds : PySem.Challenge.rw_ownchute_k09_offers.Holds := by
  w_on; o_law; k_head; (case hw => w_witness2)
  k_fill
  refine Own.walkT (l := PySem.Challenge.rw_ownchute_k09_offers) (n := 63) (k := 21) (x := "_law_script") (x0 := "law") (CX := fun _ => L2.CX0) rfl (by decide) rfl ⟨rfl, by decide, by decide⟩ (fun w h Y => PySem.W.km_in_of Y) (by rfl) ?F (fun _ _ _ _ _ z => z)
  case F =>
    intro w mg fa h KX G hmg hW
    refine' Own.all_mk (mc := .type "type") KX G hmg hW ?aNum ?aCkR ?aCkN ?aCkW ?aCkF ?aCkS ?aCkP ?aCkSW ?aCkT ?aCp ?aBg ?aD ?aO ?aS ?aFl ?aGt ?aWy ?aSl ?aPl ?aWr ?aMl ?aMt ?aMp ?aLw ?aTw ?aNb ?aFp ?aFi ?aOl ?aOt ?aIo ?aNo ?aOd ?aAo ?aW ?e0 ?e1 ?e2 ?e3 ?e4 ?e5 ?eB ?eM ?eZ ?aC ?aE ?aCT ?aEm ?aSt ?aPa ?aCP ?aF ?aTF ?aRu ?aB ?aK ?aG ?aH ?aSk ?z_len ?z_int ?z_isinstance ?z_bool ?z_str ?z_list ?z_tuple ?z_all ?z_zip ?z_range ?z_sorted ?z_dict ?z_min ?z_enumerate ?kE ?kD ?cl ?n1 ?n2 ?n3 ?n4 ?n5 ?cr ?cv ?mk ?tI ?k0 ?kk1 ?kk2 ?kF ?kTF ?kRu ?mBe ?mSc ?mWo ?mCh ?tCh ?pSl ?pSt ?pLa ?sLn ?clT ?m1 ?m2 ?m3 ?m4 ?m5 ?crT ?cvT ?mkT ?tTI ?kEm ?kSt ?kPa ?mTRo ?bCT ?tChT ?u3 ?u4 ?u5 ?u6 ?sTn ?clP ?l1 ?l2 ?l3 ?mkP ?pPl ?pPx ?mWO ?tWO ?E0 ?E1 ?E2 ?E3 ?E4 ?E5 ?bB ?xB ?bM ?xM ?bZ ?xZ ?s0B ?s0M ?s0Z ?s1B ?s1M ?s1Z ?s2B ?s2M ?s2Z ?s3B ?s3M ?s3Z ?s4B ?s4M ?s4Z ?s5B ?s5M ?s5Z ?FNum ?FCkR ?FCkN ?FCkW ?FCkF ?FCkS ?FCkP ?FCkSW ?FCkT ?FCp ?FBg ?FD ?FO ?FS ?FFl ?FGt ?FWy ?FSl ?FPl ?FWr ?FMl ?FMt ?FMp ?FLw ?FTw ?FNb ?FFp ?FFi ?FOl ?FOt ?FIo ?FNo ?FOd ?FAo ?FBe ?FSc ?FWo ?FPSl ?FPSt ?FPLa ?FLn ?FTRo ?Fg3 ?Fg4 ?Fg5 ?Fg6 ?FTLn ?FPIn ?FPgL ?FPgX ?J0 ?J1 ?J2 ?J3 ?J4 ?J5 ?lk ?lc ?lt ?lv ?ln
    (case aNum => (k_is))
    (case aCkR => (k_is))
    (case aCkN => (k_is))
    (case aCkW => (k_is))
    (case aCkF => (k_is))
    (case aCkS => (k_is))
    (case aCkP => (k_is))
    (case aCkSW => (k_is))
    (case aCkT => (k_is))
    (case aCp => (k_is))
    (case aBg => (k_is))
    (case aD => (k_is))
    (case aO => (k_is))
    (case aS => (k_is))
    (case aFl => (k_is))
    (case aGt => (k_is))
    (case aWy => (k_is))
    (case aSl => (k_is))
    (case aPl => (k_is))
    (case aWr => (k_is))
    (case aMl => (k_is))
    (case aMt => (k_is))
    (case aMp => (k_is))
    (case aLw => (k_is))
    (case aTw => (k_is))
    (case aNb => (k_is))
    (case aFp => (k_is))
    (case aFi => (k_is))
    (case aOl => (k_is))
    (case aOt => (k_is))
    (case aIo => (k_is))
    (case aNo => (k_is))
    (case aOd => (k_is))
    (case aAo => (k_is))
    (case aW => (k_is))
    (case e0 => (k_is))
    (case e1 => (k_is))
    (case e2 => (k_is))
    (case e3 => (k_is))
    (case e4 => (k_is))
    (case e5 => (k_is))
    (case eB => (k_is))
    (case eM => (k_is))
    (case eZ => (k_is))
    (case aC => (k_is))
    (case aE => (k_is))
    (case aCT => (k_is))
    (case aEm => (k_is))
    (case aSt => (k_is))
    (case aPa => (k_is))
    (case aCP => (k_is))
    (case aF => (k_is))
    (case aTF => (k_is))
    (case aRu => (k_is))
    (case aB => (k_is))
    (case aK => (k_is))
    (case aG => (k_is))
    (case aH => (k_is))
    (case aSk => (k_is))
    (case z_len => (k_is))
    (case z_int => (k_is))
    (case z_isinstance => (k_is))
    (case z_bool => (k_is))
    (case z_str => (k_is))
    (case z_list => (k_is))
    (case z_tuple => (k_is))
    (case z_all => (k_is))
    (case z_zip => (k_is))
    (case z_range => (k_is))
    (case z_sorted => (k_is))
    (case z_dict => (k_is))
    (case z_min => (k_is))
    (case z_enumerate => (k_is))
    (case kE => (exact Own.kt3 (by k_is)))
    (case kD => (exact Own.kd_mk (by k_is)))
    (case cl => (constructor <;> k_is))
    (case n1 => (k_is))
    (case n2 => (k_is))
    (case n3 => (k_is))
    (case n4 => (k_is))
    (case n5 => (k_is))
    (case cr => (constructor <;> k_is))
    (case cv => (exact Own.cval_mk (by k_is)))
    (case mk => (constructor <;> k_is))
    (case tI => ((refine' Own.lnE_mk ?x1 ?x2 ?x3 ?x4 ?x5 ?x6; (case x1 => k_is); (case x2 => k_is); (case x3 => k_is); (case x4 => k_is); (case x5 => k_is); (case x6 => k_is))))
    (case k0 => (exact Own.kt0 (by k_is)))
    (case kk1 => (exact Own.ktI (by k_is)))
    (case kk2 => (exact Own.kt3 (by k_is)))
    (case kF => (exact Own.kt5 (by k_is)))
    (case kTF => (exact Own.kt5 (by k_is)))
    (case kRu => (exact Own.kt4 (by k_is)))
    (case mBe => (constructor <;> k_is))
    (case mSc => (constructor <;> k_is))
    (case mWo => (constructor <;> k_is))
    (case mCh => (constructor <;> k_is))
    (case tCh => ((refine' Own.lnCh_mk ?x1 ?x2 ?x3; (case x1 => k_is); (case x2 => k_is); (case x3 => k_is))))
    (case pSl => ((refine' Own.propOf_mk ?x1 ?x2 ?x3 ?x4; (case x1 => k_is); (case x2 => k_is); (case x3 => k_is); (case x4 => k_is))))
    (case pSt => ((refine' Own.propOf_mk ?x1 ?x2 ?x3 ?x4; (case x1 => k_is); (case x2 => k_is); (case x3 => k_is); (case x4 => k_is))))
    (case pLa => ((refine' Own.propOf_mk ?x1 ?x2 ?x3 ?x4; (case x1 => k_is); (case x2 => k_is); (case x3 => k_is); (case x4 => k_is))))
    (case sLn => (constructor <;> k_is))
    (case clT => (constructor <;> k_is))
    (case m1 => (k_is))
    (case m2 => (k_is))
    (case m3 => (k_is))
    (case m4 => (k_is))
    (case m5 => (k_is))
    (case crT => (constructor <;> k_is))
    (case cvT => (exact Own.cval_mk4 (by k_is)))
    (case mkT => (constructor <;> k_is))
    (case tTI => ((refine' Own.trInit_mk ?x1 ?x2 ?x3 ?x4 ?x5 ?x6; (case x1 => k_is); (case x2 => k_is); (case x3 => k_is); (case x4 => k_is); (case x5 => k_is); (case x6 => k_is))))
    (case kEm => (exact Own.kt2 (by k_is)))
    (case kSt => (exact Own.kt2 (by k_is)))
    (case kPa => (exact Own.kt2 (by k_is)))
    (case mTRo => (constructor <;> k_is))
    (case bCT => ((refine' Own.bmeth_mk ?x1 ?x2 ?x3 ?x4 ?x5; (case x1 => (constructor <;> k_is)); (case x2 => k_is); (case x3 => k_is); (case x4 => decide +kernel); (case x5 => k_is))))
    (case tChT => ((refine' Own.trCh_mk ?x1 ?x2 ?x3; (case x1 => k_is); (case x2 => k_is); (case x3 => k_is))))
    (case u3 => ((refine' Own.propOf_mk ?x1 ?x2 ?x3 ?x4; (case x1 => k_is); (case x2 => k_is); (case x3 => k_is); (case x4 => k_is))))
    (case u4 => ((refine' Own.propOf_mk ?x1 ?x2 ?x3 ?x4; (case x1 => k_is); (case x2 => k_is); (case x3 => k_is); (case x4 => k_is))))
    (case u5 => ((refine' Own.propOf_mk ?x1 ?x2 ?x3 ?x4; (case x1 => k_is); (case x2 => k_is); (case x3 => k_is); (case x4 => k_is))))
    (case u6 => ((refine' Own.propOf_mk ?x1 ?x2 ?x3 ?x4; (case x1 => k_is); (case x2 => k_is); (case x3 => k_is); (case x4 => k_is))))
    (case sTn => (constructor <;> k_is))
    (case clP => (constructor <;> k_is))
    (case l1 => (k_is))
    (case l2 => (k_is))
    (case l3 => (k_is))
    (case mkP => (constructor <;> k_is))
    (case pPl => ((refine' Own.propOf_mk ?x1 ?x2 ?x3 ?x4; (case x1 => k_is); (case x2 => k_is); (case x3 => k_is); (case x4 => k_is))))
    (case pPx => ((refine' Own.propOf_mk ?x1 ?x2 ?x3 ?x4; (case x1 => k_is); (case x2 => k_is); (case x3 => k_is); (case x4 => k_is))))
    (case mWO => (constructor <;> k_is))
    (case tWO => ((refine' Own.woE_mk ?x1 ?x2; (case x1 => k_is); (case x2 => k_is))))
    (case E0 => (constructor <;> first | k_is | kx_is))
    (case E1 => (constructor <;> first | k_is | kx_is))
    (case E2 => (constructor <;> first | k_is | kx_is))
    (case E3 => (constructor <;> first | k_is | kx_is))
    (case E4 => (constructor <;> first | k_is | kx_is))
    (case E5 => (constructor <;> first | k_is | kx_is))
    (case bB => (constructor <;> k_is))
    (case xB => (k_is))
    (case bM => (constructor <;> k_is))
    (case xM => (k_is))
    (case bZ => (constructor <;> k_is))
    (case xZ => (k_is))
    (case s0B => (k_is))
    (case s0M => (k_is))
    (case s0Z => (k_is))
    (case s1B => (k_is))
    (case s1M => (k_is))
    (case s1Z => (k_is))
    (case s2B => (k_is))
    (case s2M => (k_is))
    (case s2Z => (k_is))
    (case s3B => (k_is))
    (case s3M => (k_is))
    (case s3Z => (k_is))
    (case s4B => (k_is))
    (case s4M => (k_is))
    (case s4Z => (k_is))
    (case s5B => (k_is))
    (case s5M => (k_is))
    (case s5Z => (k_is))
    (case FNum => ((refine' L2.fun_mk ?x1 ?x2 ?x3; (case x1 => k_is); (case x2 => k_is); (case x3 => k_is))))
    (case FCkR => ((refine' L2.fun_mk ?x1 ?x2 ?x3; (case x1 => k_is); (case x2 => k_is); (case x3 => k_is))))
    (case FCkN => ((refine' L2.fun_mk ?x1 ?x2 ?x3; (case x1 => k_is); (case x2 => k_is); (case x3 => k_is))))
    (case FCkW => ((refine' L2.fun_mk ?x1 ?x2 ?x3; (case x1 => k_is); (case x2 => k_is); (case x3 => k_is))))
    (case FCkF => ((refine' L2.fun_mk ?x1 ?x2 ?x3; (case x1 => k_is); (case x2 => k_is); (case x3 => k_is))))
    (case FCkS => ((refine' L2.fun_mk ?x1 ?x2 ?x3; (case x1 => k_is); (case x2 => k_is); (case x3 => k_is))))
    (case FCkP => ((refine' L2.fun_mk ?x1 ?x2 ?x3; (case x1 => k_is); (case x2 => k_is); (case x3 => k_is))))
    (case FCkSW => ((refine' L2.fun_mk ?x1 ?x2 ?x3; (case x1 => k_is); (case x2 => k_is); (case x3 => k_is))))
    (case FCkT => ((refine' L2.fun_mk ?x1 ?x2 ?x3; (case x1 => k_is); (case x2 => k_is); (case x3 => k_is))))
    (case FCp => ((refine' L2.fun_mk ?x1 ?x2 ?x3; (case x1 => k_is); (case x2 => k_is); (case x3 => k_is))))
    (case FBg => ((refine' L2.fun_mk ?x1 ?x2 ?x3; (case x1 => k_is); (case x2 => k_is); (case x3 => k_is))))
    (case FD => ((refine' L2.fun_mk ?x1 ?x2 ?x3; (case x1 => k_is); (case x2 => k_is); (case x3 => k_is))))
    (case FO => ((refine' L2.fun_mk ?x1 ?x2 ?x3; (case x1 => k_is); (case x2 => k_is); (case x3 => k_is))))
    (case FS => ((refine' L2.fun_mk ?x1 ?x2 ?x3; (case x1 => k_is); (case x2 => k_is); (case x3 => k_is))))
    (case FFl => ((refine' L2.fun_mk ?x1 ?x2 ?x3; (case x1 => k_is); (case x2 => k_is); (case x3 => k_is))))
    (case FGt => ((refine' L2.fun_mk ?x1 ?x2 ?x3; (case x1 => k_is); (case x2 => k_is); (case x3 => k_is))))
    (case FWy => ((refine' L2.fun_mk ?x1 ?x2 ?x3; (case x1 => k_is); (case x2 => k_is); (case x3 => k_is))))
    (case FSl => ((refine' L2.fun_mk ?x1 ?x2 ?x3; (case x1 => k_is); (case x2 => k_is); (case x3 => k_is))))
    (case FPl => ((refine' L2.fun_mk ?x1 ?x2 ?x3; (case x1 => k_is); (case x2 => k_is); (case x3 => k_is))))
    (case FWr => ((refine' L2.fun_mk ?x1 ?x2 ?x3; (case x1 => k_is); (case x2 => k_is); (case x3 => k_is))))
    (case FMl => ((refine' L2.fun_mk ?x1 ?x2 ?x3; (case x1 => k_is); (case x2 => k_is); (case x3 => k_is))))
    (case FMt => ((refine' L2.fun_mk ?x1 ?x2 ?x3; (case x1 => k_is); (case x2 => k_is); (case x3 => k_is))))
    (case FMp => ((refine' L2.fun_mk ?x1 ?x2 ?x3; (case x1 => k_is); (case x2 => k_is); (case x3 => k_is))))
    (case FLw => ((refine' L2.fun_mk ?x1 ?x2 ?x3; (case x1 => k_is); (case x2 => k_is); (case x3 => k_is))))
    (case FTw => ((refine' L2.fun_mk ?x1 ?x2 ?x3; (case x1 => k_is); (case x2 => k_is); (case x3 => k_is))))
    (case FNb => ((refine' L2.fun_mk ?x1 ?x2 ?x3; (case x1 => k_is); (case x2 => k_is); (case x3 => k_is))))
    (case FFp => ((refine' L2.fun_mk ?x1 ?x2 ?x3; (case x1 => k_is); (case x2 => k_is); (case x3 => k_is))))
    (case FFi => ((refine' L2.fun_mk ?x1 ?x2 ?x3; (case x1 => k_is); (case x2 => k_is); (case x3 => k_is))))
    (case FOl => ((refine' L2.fun_mk ?x1 ?x2 ?x3; (case x1 => k_is); (case x2 => k_is); (case x3 => k_is))))
    (case FOt => ((refine' L2.fun_mk ?x1 ?x2 ?x3; (case x1 => k_is); (case x2 => k_is); (case x3 => k_is))))
    (case FIo => ((refine' L2.fun_mk ?x1 ?x2 ?x3; (case x1 => k_is); (case x2 => k_is); (case x3 => k_is))))
    (case FNo => ((refine' L2.fun_mk ?x1 ?x2 ?x3; (case x1 => k_is); (case x2 => k_is); (case x3 => k_is))))
    (case FOd => ((refine' L2.fun_mk ?x1 ?x2 ?x3; (case x1 => k_is); (case x2 => k_is); (case x3 => k_is))))
    (case FAo => ((refine' L2.fun_mk ?x1 ?x2 ?x3; (case x1 => k_is); (case x2 => k_is); (case x3 => k_is))))
    (case FBe => ((refine' L2.fun_mk ?x1 ?x2 ?x3; (case x1 => k_is); (case x2 => k_is); (case x3 => k_is))))
    (case FSc => ((refine' L2.fun_mk ?x1 ?x2 ?x3; (case x1 => k_is); (case x2 => k_is); (case x3 => k_is))))
    (case FWo => ((refine' L2.fun_mk ?x1 ?x2 ?x3; (case x1 => k_is); (case x2 => k_is); (case x3 => k_is))))
    (case FPSl => ((refine' L2.fun_mk ?x1 ?x2 ?x3; (case x1 => k_is); (case x2 => k_is); (case x3 => k_is))))
    (case FPSt => ((refine' L2.fun_mk ?x1 ?x2 ?x3; (case x1 => k_is); (case x2 => k_is); (case x3 => k_is))))
    (case FPLa => ((refine' L2.fun_mk ?x1 ?x2 ?x3; (case x1 => k_is); (case x2 => k_is); (case x3 => k_is))))
    (case FLn => ((refine' L2.fun_mk ?x1 ?x2 ?x3; (case x1 => k_is); (case x2 => k_is); (case x3 => k_is))))
    (case FTRo => ((refine' L2.fun_mk ?x1 ?x2 ?x3; (case x1 => k_is); (case x2 => k_is); (case x3 => k_is))))
    (case Fg3 => ((refine' L2.fun_mk ?x1 ?x2 ?x3; (case x1 => k_is); (case x2 => k_is); (case x3 => k_is))))
    (case Fg4 => ((refine' L2.fun_mk ?x1 ?x2 ?x3; (case x1 => k_is); (case x2 => k_is); (case x3 => k_is))))
    (case Fg5 => ((refine' L2.fun_mk ?x1 ?x2 ?x3; (case x1 => k_is); (case x2 => k_is); (case x3 => k_is))))
    (case Fg6 => ((refine' L2.fun_mk ?x1 ?x2 ?x3; (case x1 => k_is); (case x2 => k_is); (case x3 => k_is))))
    (case FTLn => ((refine' L2.fun_mk ?x1 ?x2 ?x3; (case x1 => k_is); (case x2 => k_is); (case x3 => k_is))))
    (case FPIn => ((refine' L2.fun_mk ?x1 ?x2 ?x3; (case x1 => k_is); (case x2 => k_is); (case x3 => k_is))))
    (case FPgL => ((refine' L2.fun_mk ?x1 ?x2 ?x3; (case x1 => k_is); (case x2 => k_is); (case x3 => k_is))))
    (case FPgX => ((refine' L2.fun_mk ?x1 ?x2 ?x3; (case x1 => k_is); (case x2 => k_is); (case x3 => k_is))))
    (case J0 => ((refine' L2.fun_mk ?x1 ?x2 ?x3; (case x1 => k_is); (case x2 => k_is); (case x3 => k_is))))
    (case J1 => ((refine' L2.fun_mk ?x1 ?x2 ?x3; (case x1 => k_is); (case x2 => k_is); (case x3 => k_is))))
    (case J2 => ((refine' L2.fun_mk ?x1 ?x2 ?x3; (case x1 => k_is); (case x2 => k_is); (case x3 => k_is))))
    (case J3 => ((refine' L2.fun_mk ?x1 ?x2 ?x3; (case x1 => k_is); (case x2 => k_is); (case x3 => k_is))))
    (case J4 => ((refine' L2.fun_mk ?x1 ?x2 ?x3; (case x1 => k_is); (case x2 => k_is); (case x3 => k_is))))
    (case J5 => ((refine' L2.fun_mk ?x1 ?x2 ?x3; (case x1 => k_is); (case x2 => k_is); (case x3 => k_is))))
    (case lk => (k_is))
    (case lc => (k_is))
    (case lt => (k_is))
    (case lv => (rfl))
    (case ln => (first | k_is | kernel_rfl | rfl))
