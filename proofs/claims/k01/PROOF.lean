import PyProof.Rows.All
import HandS.ForMost
import HandS.Wide
import HandS.Exc
import HandS.ExcOwn
import HandS.ExcInit
import HandS.ExcIs
import HandS.ExcField
import HandS.IsInst
import HandS.TryMany
import HandS.Hot
import HandS.HotCalls
import KE.KExcIs
import PyProof.ReprRoads
import HandS.ExcValue
import PyProof.ReprLen
import PyProof.FitsInt
import PySem.Challenge.RW_causaleffects_k01_errors_each_of_its_own
import HandS.Iter
import HandS.Zip
import KE.GoesNew
import KE.GoesMore
set_option Elab.async false
set_option linter.all false
set_option maxRecDepth 100000
set_option maxHeartbeats 4000000
/-! Own layer, part A: data at any depth, what repr shows of it, literals. -/
namespace KL
open PySem PySem.Spec PyProof.Rows L2

/-! ### data -/
/-- all but what Z names stands -/
def Kp (Z : Addr → Prop) (H G : Hp) : Prop := ∀ b o, ¬ Z b → H b = some o → G b = some o
theorem Kp.rfl' {Z : Addr → Prop} {H : Hp} : Kp Z H H := fun _ _ _ h => h
theorem Kp.tr {Z : Addr → Prop} {H G J : Hp} (a : Kp Z H G) (b : Kp Z G J) : Kp Z H J := fun c o n h => b c o n (a c o n h)
theorem Kp.wk {Z Y : Addr → Prop} {H G : Hp} (a : Kp Z H G) (h : ∀ b, Z b → Y b) : Kp Y H G := fun c o n e => a c o (fun z => n (h c z)) e
theorem Kp.new {Z : Addr → Prop} {H : Hp} {p : Addr} {o : HO} (n : H p = none) : Kp Z H (upd H p o) := fun b u _ e => by
  rw [upd_ne (ne_of_none e n)]
  exact e
theorem Kp.at {Z : Addr → Prop} {H : Hp} {p : Addr} {o : HO} (z : Z p) : Kp Z H (upd H p o) := fun b u nz e => by
  have ne : b ≠ p := fun q => nz (q ▸ z)
  rw [upd_ne ne]
  exact e
theorem Kp.same {Z : Addr → Prop} {H G : Hp} (s : Same H G) : Kp Z H G := fun b o _ e => s b o e

mutual
/-- v is the data d; no list, tuple or dict of it stands where Z says -/
inductive Dq (Z : Addr → Prop) (H : Hp) : V → PyData → Prop
  | non : Dq Z H .non .none
  | bl (b : Bool) : Dq Z H (.bl b) (.bool b)
  | int (i : Int) : Dq Z H (.int i) (.int i)
  | str (x : Str) : Dq Z H (.str x) (.str x)
  | lst {a : Addr} {xs : List V} {ds : List PyData} (e : H a = some (.lst xs)) (z : ¬ Z a) (m : a ≠ sysModules) (h : DqL Z H xs ds) : Dq Z H (.ref a) (.list ds)
  | tup {a : Addr} {xs : List V} {ds : List PyData} (e : H a = some (.tup xs)) (z : ¬ Z a) (h : DqL Z H xs ds) : Dq Z H (.ref a) (.tuple ds)
  | dct {a : Addr} (e : H a = some (.dK [])) (z : ¬ Z a) (m : a ≠ sysModules) : Dq Z H (.ref a) (.dict [])
inductive DqL (Z : Addr → Prop) (H : Hp) : List V → List PyData → Prop
  | nil : DqL Z H [] []
  | cons {v : V} {vs : List V} {d : PyData} {ds : List PyData} (h : Dq Z H v d) (t : DqL Z H vs ds) : DqL Z H (v :: vs) (d :: ds)
end
section
variable {Z Y : Addr → Prop} {H G : Hp}
mutual
theorem Dq.mv (k : Kp Z H G) (w : ∀ b, Y b → Z b) : ∀ (d : PyData) (v : V), Dq Z H v d → Dq Y G v d
  | .none, _, h => by cases h; exact .non
  | .bool _, _, h => by cases h; exact .bl _
  | .int _, _, h => by cases h; exact .int _
  | .str _, _, h => by cases h; exact .str _
  | .list ds, _, h => by
    cases h with
    | lst e z m h => exact .lst (k _ _ z e) (fun q => z (w _ q)) m (DqL.mv k w ds _ h)
  | .tuple ds, _, h => by
    cases h with
    | tup e z h => exact .tup (k _ _ z e) (fun q => z (w _ q)) (DqL.mv k w ds _ h)
  | .dict kvs, _, h => by
    cases h with
    | dct e z m => exact .dct (k _ _ z e) (fun q => z (w _ q)) m
theorem DqL.mv (k : Kp Z H G) (w : ∀ b, Y b → Z b) : ∀ (ds : List PyData) (vs : List V), DqL Z H vs ds → DqL Y G vs ds
  | [], _, h => by cases h; exact .nil
  | d :: ds, _, h => by
    cases h with
    | cons h t => exact .cons (Dq.mv k w d _ h) (DqL.mv k w ds _ t)
end
theorem Dq.kp {v : V} {d : PyData} (h : Dq Z H v d) (k : Kp Z H G) : Dq Z G v d := Dq.mv k (fun _ z => z) d v h
theorem DqL.kp {vs : List V} {ds : List PyData} (h : DqL Z H vs ds) (k : Kp Z H G) : DqL Z G vs ds := DqL.mv k (fun _ z => z) ds vs h
theorem Dq.wk {v : V} {d : PyData} (h : Dq Z H v d) (w : ∀ b, Y b → Z b) : Dq Y H v d := Dq.mv Kp.rfl' w d v h
theorem DqL.wk {vs : List V} {ds : List PyData} (h : DqL Z H vs ds) (w : ∀ b, Y b → Z b) : DqL Y H vs ds := DqL.mv Kp.rfl' w ds vs h
theorem DqL.len : ∀ {vs : List V} {ds : List PyData}, DqL Z H vs ds → vs.length = ds.length
  | _, _, .nil => rfl
  | _, _, .cons _ t => congrArg Nat.succ t.len
theorem DqL.app : ∀ {vs ws : List V} {ds es : List PyData}, DqL Z H vs ds → DqL Z H ws es → DqL Z H (vs ++ ws) (ds ++ es)
  | _, _, _, _, .nil, h => h
  | _, _, _, _, .cons a t, h => .cons a (t.app h)
theorem DqL.get : ∀ {vs : List V} {ds : List PyData} {i : Nat} {v : V}, DqL Z H vs ds → vs[i]? = some v → ∃ d, ds[i]? = some d ∧ Dq Z H v d
  | _, _, _, _, .nil, e => by simp at e
  | _, _, 0, _, .cons a _, e => by
    have q := Option.some.inj e
    subst q
    exact ⟨_, rfl, a⟩
  | _, _, i + 1, _, .cons _ t, e => t.get (i := i) e
end

section
variable {Z : Addr → Prop} {X : Cx} {pins : List (Addr × Obj)} {σ : L2.St} {H : Hp} {s : Shared}
mutual
theorem Dq.rd (I : Inv X pins σ H s) : ∀ (d : PyData) (v : V) (u : Value), Dq Z H v d → RelV v u → ∃ as, Reads s.heap u d as ∧ sysModules ∉ as
  | .none, _, _, h, r => by
    cases h
    obtain rfl : _ = Value.none := r
    exact ⟨[], .none, List.not_mem_nil⟩
  | .bool b, _, _, h, r => by
    cases h
    obtain rfl : _ = Value.bool b := r
    exact ⟨[], .bool b, List.not_mem_nil⟩
  | .int i, _, _, h, r => by
    cases h
    obtain ⟨t, rfl⟩ := r
    exact ⟨[], .int i t, List.not_mem_nil⟩
  | .str x, _, _, h, r => by
    cases h
    obtain ⟨t, rfl⟩ := r
    exact ⟨[], .str x t, List.not_mem_nil⟩
  | .list ds, _, u, h, r => by
    cases h with
    | @lst a xs _ e z m h =>
      obtain rfl : u = Value.ref a := r
      obtain ⟨_, its, n, rv, ho⟩ : ObjOk X.prog X.w H s.heap a (.lst xs) := I.hok a _ e
      obtain ⟨as, q, nm⟩ := DqL.rd I ds xs its h rv
      exact ⟨a :: as, .list ho (by rfl) (by rfl) q, fun hm => (List.mem_cons.mp hm).elim (fun z => m z.symm) nm⟩
  | .tuple ds, _, u, h, r => by
    cases h with
    | @tup a xs _ e z h =>
      obtain rfl : u = Value.ref a := r
      obtain ⟨_, its, rv, o, ho, hc, n, hd⟩ : ObjOk X.prog X.w H s.heap a (.tup xs) := I.hok a _ e
      obtain ⟨as, q, nm⟩ := DqL.rd I ds xs its h rv
      exact ⟨as, .tuple ho hc hd q, nm⟩
  | .dict kvs, _, u, h, r => by
    cases h with
    | @dct a e z m =>
      obtain rfl : u = Value.ref a := r
      obtain ⟨_, _, vs, kv, o, es, ep, ho, hx, hd, hr⟩ : ObjOk X.prog X.w H s.heap a (.dK []) := I.hok a _ e
      cases kv
      refine ⟨[a], ?_, fun hm => m (List.mem_singleton.mp hm).symm⟩
      have he : es.toList = [] := by
        obtain ⟨_, hp, _⟩ := hr
        cases hl : es.toList with
        | nil => rfl
        | cons x xs =>
          rw [hl] at hp
          cases hp
      exact .dict (as := []) (bs := []) ho hx.1 hd (by rw [he]; exact .nil) (by rw [he]; exact .nil)
theorem DqL.rd (I : Inv X pins σ H s) : ∀ (ds : List PyData) (vs : List V) (us : List Value), DqL Z H vs ds → Vals vs us → ∃ as, ReadsAll s.heap us ds as ∧ sysModules ∉ as
  | [], _, _, h, r => by
    cases h
    cases r
    exact ⟨[], .nil, List.not_mem_nil⟩
  | d :: ds, _, _, h, r => by
    cases h with
    | cons h1 h2 =>
      cases r with
      | cons r1 r2 =>
        obtain ⟨as, q1, n1⟩ := Dq.rd I d _ _ h1 r1
        obtain ⟨bs, q2, n2⟩ := DqL.rd I ds _ _ h2 r2
        exact ⟨as ++ bs, .cons q1 q2, fun hm => (List.mem_append.mp hm).elim n1 n2⟩
end
end

/-! ### repr of a list of data -/
theorem repr_list {prog : Program} {w : World} {A : Around} {E : Value → Shared → Prop} {s : Shared} {Q : Value → Shared → Prop} {a : Addr} {o : Obj} {l : List Value} {n : Nat} {ds : List PyData} {as : List Addr} (ho : s.heap.get? a = some o) (hc : o.cls = .type "list") (hd : o.data = .seq l.toArray n) (r : ReadsAll s.heap l ds as)
    (nm : sysModules ∉ as) (hs : PyData.showableAll ds = true) (hg : A.guards = some []) (hu : A.units + (PyData.depthAll ds + 2) < cLine) (hz : (listText (PyData.shownAll ds)).length ≤ sizeLine)
    (hQ : ∀ h' u tk, (∀ b o, s.heap.get? b = some o → h'.get? b = some o) → Q (.str (listText (PyData.shownAll ds)) u) { s with heap := h', toks := tk }) : wpAny (model prog w) A (call (.builtin "repr") [.ref a]) Q E s := by
  refine call_repr_slot (by omega) (⟨o, ho, hc⟩ : s.TypeIs (.ref a) "list") F.slot_list_repr.toG ?_
  obtain ⟨bs, hb, hk⟩ := ReprAllK.of_readsAll (prog := prog) (w := w) r hs (fun _ => nm) fun t ht => Nat.le_trans (listText_mem_le ht) hz
  have out : a ∉ bs := not_mem_of_deeper (.list ho hc hd r) (by simp only [PyData.depth]; omega) hb
  have unit : A.in1.units + (PyData.depthAll ds + 1) < cLine := by
    show A.units + 1 + (PyData.depthAll ds + 1) < cLine
    omega
  cases l with
  | nil =>
    cases r
    refine call_list_repr_empty ⟨o, ho, hc⟩ ho hd ?_
    have q := fun u tk => hQ s.heap u tk fun _ _ e => e
    simp only [PyData.shownAll, listText_nil] at q
    exact ⟨_, _, rfl, q _ _⟩
  | cons x l =>
    refine call_list_reprK ho hc hd out (by simpa using hk.length_eq) (fun i y e => hk.item i y (by simpa using e)) hg (fun b _ => Clear.nil b) (by first | exact unit | (simpa [PyData.depthAll] using unit)) (fun _ _ e => e) (fun h' u tk k => ⟨_, _, rfl, hQ h' u tk k⟩) hz
/-- repr(x), x a list of data -/
def rRepr : List V → Hp → VK → Prop := fun xs H Q => ∃ (Z : Addr → Prop) (a : Addr) (l : List V) (ds : List PyData), xs = [.ref a] ∧ H a = some (.lst l) ∧ DqL Z H l ds ∧ PyData.showableAll ds = true ∧ PyData.depthAll ds ≤ 60 ∧ (listText (PyData.shownAll ds)).length ≤ 1000000 ∧ Q (.str (listText (PyData.shownAll ds))) H
theorem call_repr {X : Cx} (hg : X.A.guards = some []) (hu : X.A.units + 64 < cLine) : CallR X (.builtin "repr") rRepr := by
  intro pins s σ H xs us Q I r h
  obtain ⟨Z, a, l, ds, rfl, ha, hd, hs, hdp, hl, q⟩ := h
  cases r with
  | cons r1 r2 =>
    cases r2
    obtain rfl : _ = Value.ref a := r1
    obtain ⟨_, its, n, rv, ho⟩ : ObjOk X.prog X.w H s.heap a (.lst l) := I.hok a _ ha
    obtain ⟨as, rd, nm⟩ := DqL.rd I ds l its hd rv
    refine repr_list ho (by rfl) (by rfl) rd nm hs hg (by omega) (by rw [sizeLine_eq]; omega) fun h' u tk k => ?_
    exact ⟨.str _, H, I.kept (h' := h') (t' := tk) k, ⟨u, rfl⟩, q⟩
end KL

namespace KL
open PySem PySem.Spec PyProof.Rows L2

theorem imp {X : Cx} {e : Expr} {t u : TE} (p : PE X e t) (h : ∀ σ H Q, u σ H Q → t σ H Q) : PE X e u := ⟨fun pins s σ H Q I q => p.run pins s σ H Q I (h σ H Q q)⟩
theorem impA {X : Cx} {es : List Expr} {t u : TA} (p : PA X es t) (h : ∀ σ H Q, u σ H Q → t σ H Q) : PA X es u := ⟨fun po pins s σ H Q I q => p.run po pins s σ H Q I (h σ H Q q)⟩

/-- a new list, that is not the table of modules -/
def tLstM (t : TA) : TE := fun σ H Q => t σ H fun xs H1 => xs.length ≤ sizeLine ∧ ∀ p, H1 p = none → p ≠ sysModules → Q (.ref p) (upd H1 p (.lst xs))
theorem pe_lstM {X : Cx} {es : List Expr} {t : TA} {pos : Pos} (h : PA X es t) : PE X (.List es pos) (tLstM t) := by
  refine ⟨fun pins s σ H Q I hq => wpAny_List_spliced (thn (h.run pos pins s σ H _ I hq) fun us s1 ⟨xs, H1, I1, r, z, q⟩ => ⟨r.length ▸ z, ?_⟩)⟩
  have fresh := I1.hok.fresh (Nat.le_refl s1.heap.objs.size)
  have I2 := I1.laid (t' := s1.toks) (a := s1.heap.objs.size) (o := .lst xs) (h' := s1.heap.push { cls := .type "list", data := .seq us.toArray }) (fun b u e => Heap.get?_push_of_some _ e) (Nat.le_refl _) ⟨z, us, 0, r, Heap.get?_push_size _ rfl⟩
  exact ⟨.ref s1.heap.objs.size, _, I2, rfl, q _ fresh (Nat.ne_of_gt I1.big)⟩
def tDctM : TE := fun _ H Q => ∀ p, H p = none → p ≠ sysModules → Q (.ref p) (upd H p (.dK []))
theorem pe_dctM {X : Cx} {pos : Pos} : PE X (.Dict [] [] pos) tDctM := by
  refine ⟨fun pins s σ H Q I hq => wpAny_Dict_empty ?_⟩
  have I2 := I.laid (t' := s.toks) (a := s.heap.objs.size) (o := .dK []) (h' := s.heap.push { cls := .type "dict", data := .dict #[] }) (fun b u e => Heap.get?_push_of_some _ e) (Nat.le_refl _) (dk_empty s.heap I.big)
  exact ⟨.ref s.heap.objs.size, _, I2, rfl, hq _ (I.hok.fresh (Nat.le_refl _)) (Nat.ne_of_gt I.big)⟩

/-- a + b, two lists that may be written to -/
def rCatM : R2 := fun x y H Q => ∃ (l b : Addr) (xs zs : List V), x = .ref l ∧ y = .ref b ∧ H l = some (.lst xs) ∧ H b = some (.lst zs) ∧ xs.length + zs.length ≤ sizeLine ∧ ∀ p, H p = none → p ≠ sysModules → Q (.ref p) (upd H p (.lst (xs ++ zs)))
theorem op_catM {X : Cx} : OpR X (binaryOp .Add) rCatM := by
  intro pins s σ H x y v u Q I rx ry h
  obtain ⟨l, b, xs, zs, rfl, rfl, hl, hb, hz, q⟩ := h
  obtain rfl : v = Value.ref l := rx
  obtain rfl : u = Value.ref b := ry
  obtain ⟨_, i1, n1, r1, _, e1⟩ := I.lstM hl
  obtain ⟨_, i2, n2, r2, _, e2⟩ := I.lstM hb
  have k1 := r1.length
  have k2 := r2.length
  refine PySem.P.add_list e1 e2 ?_ (by rw [List.size_toArray, List.size_toArray]; omega)
  rw [show i1.toArray ++ i2.toArray = (i1 ++ i2).toArray by simp]
  exact ⟨.ref s.heap.objs.size, _, I.lnew (t' := s.toks) (r1.append r2) (by rw [List.length_append]; omega), rfl, q _ (I.hok.fresh (Nat.le_refl _)) (Nat.ne_of_gt I.big)⟩

/-! ### literals -/
mutual
def lit : Nat → Expr → Option PyData
  | 0, _ => none
  | n + 1, e => match e with
    | .Constant .none _ _ => some .none
    | .Constant (.bool b) _ _ => some (.bool b)
    | .Constant (.int i) _ _ => some (.int i)
    | .Constant (.str x) _ _ => some (.str x)
    | .UnaryOp .USub (.Constant (.int i) _ _) _ => some (.int (-i))
    | .BinOp (.Constant (.int i) _ _) .Pow (.Constant (.int j) _ _) _ => if 0 ≤ j ∧ j ≤ 1000000 ∧ i.natAbs < 2 ^ 64 then some (.int (i ^ j.toNat)) else none
    | .Tuple es _ _ => if es.length ≤ 1000 then (litL n es).map .tuple else none
    | .List es _ => if es.length ≤ 1000 then (litL n es).map .list else none
    | .Dict [] [] _ => some (.dict [])
    | _ => none
def litL : Nat → List Expr → Option (List PyData)
  | _, [] => some []
  | 0, _ :: _ => none
  | n + 1, e :: es => match lit n e, litL n es with
    | some d, some ds => some (d :: ds)
    | _, _ => none
end
abbrev tracked (H : Hp) : Addr → Prop := fun b => H b ≠ none
/-- a new value that is the data d; all stands as it stood -/
def tLit (d : PyData) : TE := fun _ H Q => ∀ v G, Kp (fun _ => False) H G → Dq (tracked H) G v d → Q v G
def tLitL (ds : List PyData) : TA := fun _ H Q => ∀ vs G, Kp (fun _ => False) H G → DqL (tracked H) G vs ds → Q vs G
theorem Kp.free {H G : Hp} {p : Addr} (k : Kp (fun _ => False) H G) (n : G p = none) : ¬ tracked H p := fun t => by
  cases q : H p with
  | none => exact t q
  | some o =>
    have := k p o (fun z => z) q
    rw [n] at this
    cases this
theorem Kp.trk {H G : Hp} (k : Kp (fun _ => False) H G) : ∀ b, tracked H b → tracked G b := fun b t n => k.free n t
mutual
inductive Lit : Expr → PyData → Prop
  | non {j : Nat} {pos : Pos} : Lit (.Constant .none j pos) .none
  | bl {b : Bool} {j : Nat} {pos : Pos} : Lit (.Constant (.bool b) j pos) (.bool b)
  | int {i : Int} {j : Nat} {pos : Pos} : Lit (.Constant (.int i) j pos) (.int i)
  | str {x : Str} {j : Nat} {pos : Pos} : Lit (.Constant (.str x) j pos) (.str x)
  | neg {i : Int} {j : Nat} {p pos : Pos} : Lit (.UnaryOp .USub (.Constant (.int i) j p) pos) (.int (-i))
  | pow {i k : Int} {j l : Nat} {p q pos : Pos} (h : 0 ≤ k ∧ k ≤ 1000000 ∧ i.natAbs < 2 ^ 64) : Lit (.BinOp (.Constant (.int i) j p) .Pow (.Constant (.int k) l q) pos) (.int (i ^ k.toNat))
  | tup {es : List Expr} {ds : List PyData} {k : Nat} {pos : Pos} (h : LitL es ds) (z : es.length ≤ 1000) : Lit (.Tuple es k pos) (.tuple ds)
  | lst {es : List Expr} {ds : List PyData} {pos : Pos} (h : LitL es ds) (z : es.length ≤ 1000) : Lit (.List es pos) (.list ds)
  | dct {pos : Pos} : Lit (.Dict [] [] pos) (.dict [])
inductive LitL : List Expr → List PyData → Prop
  | nil : LitL [] []
  | cons {e : Expr} {d : PyData} {es : List Expr} {ds : List PyData} (h : Lit e d) (t : LitL es ds) : LitL (e :: es) (d :: ds)
end
theorem LitL.len : ∀ {es : List Expr} {ds : List PyData}, LitL es ds → ds.length = es.length
  | _, _, .nil => rfl
  | _, _, .cons _ t => congrArg Nat.succ t.len
mutual
theorem lit_ok : ∀ (n : Nat) (e : Expr) (d : PyData), lit n e = some d → Lit e d
  | 0, e, d, h => by unfold lit at h; cases h
  | n + 1, e, d, h => by
    unfold lit at h
    split at h
    · cases h; exact .non
    · cases h; exact .bl
    · cases h; exact .int
    · cases h; exact .str
    · cases h; exact .neg
    · split at h
      · cases h
        exact .pow (by assumption)
      · cases h
    · split at h
      · rename_i z
        obtain ⟨ds, h1, rfl⟩ := Option.map_eq_some_iff.mp h
        exact .tup (litL_ok n _ ds h1) z
      · cases h
    · split at h
      · rename_i z
        obtain ⟨ds, h1, rfl⟩ := Option.map_eq_some_iff.mp h
        exact .lst (litL_ok n _ ds h1) z
      · cases h
    · cases h; exact .dct
    · cases h
theorem litL_ok : ∀ (n : Nat) (es : List Expr) (ds : List PyData), litL n es = some ds → LitL es ds
  | n, [], ds, h => by
    unfold litL at h
    cases h
    exact .nil
  | 0, e :: es, ds, h => by unfold litL at h; cases h
  | n + 1, e :: es, ds, h => by
    unfold litL at h
    split at h
    · rename_i d ds' h1 h2
      cases h
      exact .cons (lit_ok n e d h1) (litL_ok n es ds' h2)
    · cases h
end
section
variable {X : Cx}
theorem Lit.star {e : Expr} {d : PyData} (h : Lit e d) {es : List Expr} {env : Env} : starEach (e :: es) env = (false, eval e env) :: starEach es env := by
  cases h <;> rfl
mutual
theorem pe_lit : ∀ {e : Expr} {d : PyData}, Lit e d → PE X e (tLit d)
  | _, _, .non => imp pe_non fun _ H _ q => q _ H Kp.rfl' .non
  | _, _, .bl => imp pe_bl fun _ H _ q => q _ H Kp.rfl' (.bl _)
  | _, _, .int => imp pe_int fun _ H _ q => q _ H Kp.rfl' (.int _)
  | _, _, .str => imp pe_str fun _ H _ q => q _ H Kp.rfl' (.str _)
  | _, _, .neg => imp (pe_un un_neg pe_int) fun _ H _ q => ⟨_, rfl, q _ H Kp.rfl' (.int _)⟩
  | _, _, .pow h => imp (pe_op op_pow pe_int pe_int) fun _ H _ q => ⟨_, _, rfl, rfl, h, q _ H Kp.rfl' (.int _)⟩
  | _, _, .tup h z => imp (pe_tup (pa_lit h)) fun _ H _ q vs G k dl => ⟨by rw [dl.len, h.len, sizeLine_eq]; omega, fun p n =>
      q _ _ (k.tr (Kp.new n)) (.tup upd_same (k.free n) (dl.kp (Kp.new n)))⟩
  | _, _, .lst h z => imp (pe_lstM (pa_lit h)) fun _ H _ q vs G k dl => ⟨by rw [dl.len, h.len, sizeLine_eq]; omega, fun p n m =>
      q _ _ (k.tr (Kp.new n)) (.lst upd_same (k.free n) m (dl.kp (Kp.new n)))⟩
  | _, _, .dct => imp pe_dctM fun _ H _ q p n m => q _ _ (Kp.new n) (.dct upd_same (Kp.free Kp.rfl' n) m)
theorem pa_lit : ∀ {es : List Expr} {ds : List PyData}, LitL es ds → PA X es (tLitL ds)
  | _, _, .nil => impA pa_nil fun _ H _ q => q _ H Kp.rfl' .nil
  | _, _, .cons h t => impA (pa_cons (pe_lit h) (pa_lit t) h.star) fun _ H _ q v G k d vs G2 k2 ds =>
      q _ _ (k.tr k2) (.cons (d.kp (k2.wk fun _ z => z.elim)) (ds.wk fun b => k.trk b))
end
end
end KL

/-! Own layer, part C: defs whose promise leans on there being no repr under way (guards); the end of a law by such. -/
namespace KL
open PySem PySem.Spec PyProof.Rows L2

/-- as FnOk, asked only where nothing is being shown -/
structure FnG (P : Program) (w : World) (K : PySem.W.Frag) (mg : Str → Option Value) (base : Heap) (CX : CXT) (k : Nat) (f : Addr) (fd : FuncData) (ps : List Str) (sp : Sp) : Prop where
  len : ∀ vs H Q E, sp vs H Q E → vs.length = ps.length
  run : ∀ (A : Around) (outer : List Env) (s : Shared) (H : Hp) (args : Args) (us : List Value) (vs : List V) (Q : VK) (E : XK), A.guards = some [] → Room k A → Env0 P w K mg base A outer s H → BindsTo s fd args (ps.zip us) →
    Vals vs us → sp vs H Q E → codeAny (model P w) A (.call (.ref f) args) (CR CX outer P w H s Q E) s
section
variable {P : Program} {w : World} {K : PySem.W.Frag} {mg : Str → Option Value} {base : Heap} {CX : CXT} {k : Nat} {f : Addr} {fd : FuncData} {ps : List Str} {sp : Sp}
theorem FnG.of (F : FnOk P w K mg base CX k f fd ps sp) : FnG P w K mg base CX k f fd ps sp :=
  ⟨F.len, fun A outer s H args us vs Q E _ hr e0 hb rv h => F.run A outer s H args us vs Q E hr e0 hb rv h⟩
theorem FnG.mono {j : Nat} (F : FnG P w K mg base CX j f fd ps sp) (h : j ≤ k) : FnG P w K mg base CX k f fd ps sp :=
  ⟨F.len, fun A outer s H args us vs Q E hg hr => F.run A outer s H args us vs Q E hg (hr.mono h)⟩
end
theorem enter {P : Program} {w : World} {K : PySem.W.Frag} {mg : Str → Option Value} {base : Heap} {CX : CXT} {name qual : Str} {params : Arguments} {body : List Stmt} {scope : Scope} {dV kV doc pm cdv ct oc : Value} {an od : Option Addr} {osl : Array (Option Value)} {N ps : List Str} {f : Addr}
    {A : Around} {outer : List Env} {s : Shared} {H : Hp} {args : Args} {us : List Value} {vs : List V} {Q : VK} {E : XK} {t : TS} (S : FnScope N ps scope)
    (lk : K.lookup f = some ⟨oc, od, .func (PySem.W.fnOf name qual params body scope dV kV doc pm an cdv ct), osl⟩) (hcd : PySem.W.codeIn K cdv qual = true) (hd : A.handled = none) (hdp : A.depth < recursionLimit) (e0 : Env0 P w K mg base A outer s H)
    (hb : BindsTo s (PySem.W.fnOf name qual params body scope dV kV doc pm an cdv ct) args (ps.zip us)) (rv : Vals vs us) (hl : vs.length = ps.length)
    (hp : PSs (cxOf CX P w K mg base N qual scope f cdv A outer s H E) body t) (ht : t { nx := fun _ G => Q .non G, rt := Q } (start N vs) H) :
    codeAny (model P w) A (.call (.ref f) args) (CR CX outer P w H s Q E) s := by
  have up : ∀ b o, base.get? b = some o → s.heap.get? b = some o := fun b o e => (e0.bs b o e).1
  have inK : K.In s.heap := e0.mod.kin.keeps up
  refine codeAny_call_function hdp (inK _ _ lk) rfl S.co S.gen rfl (PySem.W.codeRec_of inK hcd) (hb _ _ _ _ ?_)
  have kinds : ∀ y ∈ ps.zip us, scope.names.lookup y.1 = some .local ∨ (scope.names.lookup y.1 = some .cell ∧ ((cellsFrom (s.heap.objs.size + 1) scope.names []).lookup y.1).isSome = true) := by
    rintro ⟨n, v⟩ hy
    have hn := (List.of_mem_zip hy).1
    exact (S.par n hn).imp id fun q => ⟨q, PySem.W.cellsFrom_some _ _ _ (.inl q)⟩
  refine wpAny_newFunctionEnv_cells S.kind kinds fun env he s1 x => ?_
  subst he
  refine ⟨(e0.mod.nolimit.keeps up).keeps x.toInCall.keep, codeAny_func ?_⟩
  refine wpAny_mono (hp.run [] s1 (start N vs) H _ (inv_start S hd e0 hl rv x) ht) (fun fl s' hs => ?_) fun _ _ z => z
  cases fl with
  | ret u => exact let ⟨v, _, G, J, r, q⟩ := hs; ⟨v, G, J.os, J.bare, J.base, J.hok, r, q⟩
  | next => exact let ⟨_, G, J, q⟩ := hs; ⟨V.non, G, J.os, J.bare, J.base, J.hok, rfl, q⟩
  | brk => exact let ⟨_, _, _, q⟩ := hs; q.elim
  | cont => exact let ⟨_, _, _, q⟩ := hs; q.elim
section
variable {P : Program} {w : World} {K : PySem.W.Frag} {mg : Str → Option Value} {base : Heap}
/-- a def by its body, nothing being shown -/
theorem okG {x qual : Str} {st : Stmt} {f : Addr} {fd : FuncData} {N ps : List Str} {k : Nat} {sp : Sp} (F : Fun K x qual st f fd) (S : FnScope N ps (defScope st)) (len : ∀ vs H Q E, sp vs H Q E → vs.length = ps.length)
    (hbody : ∀ (cdv : Value) (A : Around) (outer : List Env) (s : Shared) (H : Hp) (vs : List V) (Q : VK) (E : XK), A.guards = some [] → Room k (A.deeper (envOfC qual (defScope st) s.heap.objs.size f cdv)) → sp vs H Q E →
      ∃ t, PSs (cxOf CX0 P w K mg base N qual (defScope st) f cdv A outer s H E).nox (defBody st) t ∧ t { nx := fun _ G => Q .non G, rt := Q } (start N vs) H) : FnG P w K mg base CX0 (k + 1) f fd ps sp := by
  obtain ⟨oc, od, kV, doc, pm, an, cdv, ct, osl, rfl, lk, hcd⟩ := F.ex
  refine ⟨len, fun A outer s H args us vs Q E hg hr e0 hb rv h => ?_⟩
  obtain ⟨t, hp, q⟩ := hbody cdv A outer s H vs Q E hg (hr.deeper _) h
  exact enter S lk hcd hr.hd hr.depth e0 hb rv (len _ _ _ _ h) hp.nox q
end
section
variable {X : Cx} {k : Nat} {f : Addr} {fd : FuncData} {ps : List Str} {sp : Sp} {x : Str} {p pos : Pos} {e : Expr} {es : List Expr} {t : TA}
theorem runG {CX : CXT} {E : XK} {pins : List (Addr × Obj)} {σ : L2.St} {H : Hp} {s : Shared} {Q : VK} {us : List Value} {vs : List V} {args : Args} (F : FnG X.prog X.w X.K X.mg X.base CX k f fd ps sp) (hgd : X.A.guards = some []) (hr : Room k X.A)
    (hb : BindsTo s fd args (ps.zip us)) (hx : Passes CX X E) (I : Inv X pins σ H s) (rv : Vals vs us) (h : sp vs H Q E) : codeAny (model X.prog X.w) X.A (.call (.ref f) args) (fun r s' => match r with | .ok (.ret v) => EP X pins σ Q v s' | .ok _ => False | .error e => X.xe e s') s := by
  refine codeAny_mono (F.run X.A X.stack s H args us vs Q E hgd hr I.env0 hb rv h) fun r s' hq => ?_
  rcases r with e | (u | _ | _ | _)
  · exact hx pins σ H s e s' I hq
  all_goals first | exact I.after hq | exact False.elim hq
theorem pe_callG (F : FnG X.prog X.w X.K X.mg X.base CX0 k f fd ps sp) (hgd : X.A.guards = some []) (hr : Room k X.A) (hg : Gl X x) (hm : X.mg x = some (.ref f)) (hk : PySem.W.keepIn X.K (.ref f) = true) (hb : Binds X.K fd ps [])
    (ha : PA X (e :: es) t) (hdb : (x == ("__debug__" : Str)) = false := by decide) (he : starEach (e :: es) X.env = (false, eval e X.env) :: starEach es X.env := by rfl) (hpl : (backTo pos (starEach es X.env)).any (·.1) = false := by rfl) :
    PE X (.Call (.Name x p) (e :: es) [] pos) (tCall sp [] E0 t) := by
  refine ⟨fun pins s σ H Q I h => wpAny_Call_Name_kw (ld_glob I hg hm ?_ hdb)⟩
  refine PySem.W.callWith_K (h₀ := X.base) I.ok.mod.kin hk (thn (ha.run pos pins s σ H _ I h) fun us s1 ⟨vs, G, J, rv, q⟩ => ⟨J.kIn, wpAny_call ?_⟩) he hpl
  have q' : sp vs G Q E0 := by
    have z : sp (vs ++ []) G Q E0 := q
    rw [List.append_nil] at z
    exact z
  have hl : us.length = ps.length := rv.length.symm.trans (F.len _ _ _ _ q')
  have bt := hb s1 us J.kIn (by rw [List.append_nil]; exact hl)
  rw [List.append_nil] at bt
  exact codeAny_mono (runG F hgd hr bt pass0 J rv q') fun r s' z => by
    rcases r with e | (u | _ | _ | _) <;> exact z
end

/-! ### the law's own call -/
section
variable {P : Program} {w : World} {K : PySem.W.Frag} {mg mb : Str → Option Value} {k : Nat} {fa a : Addr} {fd : FuncData} {x : Str} {sp : Sp} {s : Shared} {vs : List Value} {ns : List Int}
theorem lawG (inK : K.In s.heap) (hns : s.heap.Ns mainGlobals mg) (hb : s.heap.Ns builtinsNs mb) (hbb : ∀ y : Str, y ≠ "__name__" → mb y = bootBuiltins y) (lim : s.heap.NoLimit) (hg : s.gens = #[]) (ha : s.heap.get? a = some { cls := .type "list", data := .seq vs.toArray })
    (hi : IntsAre vs ns) (hl : ns.length ≤ sizeLine) (hr : Room k callerA) (F : ∀ base : Heap, K.In base → base.Ns mainGlobals mg → FnG P w K mg base CX0 k fa fd [x] sp) (hbind : ∀ (s : Shared) (u : Value), BindsTo s fd ⟨[u], []⟩ [(x, u)])
    (hsp : ∀ H : Hp, Only H → SqL K H a (ns.map V.int) → sp [.ref a] H (fun v _ => v = .bl true) E0) :
    codeAny (model P w) callerA (.call (.ref fa) ⟨[.ref a], []⟩) (fun r s' => r = .ok (.ret (.bool true)) ∧ OldK s.heap s'.heap ∧ s'.os = s.os ∧ AllBare s'.gens) s := by
  have core : ∀ H : Hp, Only H → SqL K H a (ns.map V.int) → HOk P w H s.heap → (∀ b u, H b = some u → b = a) → (∀ u, H a = some u → K.lookup a = none) →
      codeAny (model P w) callerA (.call (.ref fa) ⟨[.ref a], []⟩) (fun r s' => r = .ok (.ret (.bool true)) ∧ OldK s.heap s'.heap ∧ s'.os = s.os ∧ AllBare s'.gens) s := by
    intro H only hS ok oneA offK
    have dictFree : ∀ {b : Addr} {o : Obj} {es : Array DictEntry} {ep : Nat}, s.heap.get? b = some o → o.data = .dict es ep → H b = none := by
      intro b o es ep e d
      cases q : H b with
      | none => rfl
      | some u =>
        rw [oneA b u q, ha] at e
        cases e
        cases d
    have ns' : ∀ {b : Addr} {m : Str → Option Value}, s.heap.Ns b m → (hidT s.heap H).Ns b m := by
      rintro b m ⟨o, es, ep, e, d, rest⟩
      exact ⟨o, es, ep, hidT_get e (dictFree e d), d, rest⟩
    have inB : K.In (hidT s.heap H) := fun b o e => by
      refine hidT_get (inK b o e) ?_
      cases q : H b with
      | none => rfl
      | some u =>
        have hb := oneA b u q
        subst hb
        rw [offK u q] at e
        cases e
    have M : Mod K mg (hidT s.heap H) := ⟨inB, ns' hns, ⟨mb, ns' hb, hbb⟩, by
      obtain ⟨mc, h1, h2⟩ := lim
      exact ⟨mc, ns' h1, h2⟩⟩
    have e0 : Env0 P w K mg (hidT s.heap H) callerA [] s H := ⟨rfl, M, fun b o e => of_hidT e, Nat.le_of_eq (hidT_size _ _), trivial, (fun b z => absurd z List.not_mem_nil), ok, .of_eq hg⟩
    have call := (F _ inB (ns' hns)).run callerA [] s H ⟨[.ref a], []⟩ [.ref a] [.ref a] (fun v _ => v = .bl true) E0 rfl hr e0 (hbind s (.ref a)) (.cons rfl .nil) (hsp H only hS)
    refine codeAny_mono call fun r s' z => ?_
    cases r with
    | error e => exact False.elim z
    | ok fl =>
      cases fl with
      | next => exact False.elim z
      | brk => exact False.elim z
      | cont => exact False.elim z
      | ret u =>
        obtain ⟨v, G, os, bare, un, ok', rv, q⟩ := z
        have q1 : v = .bl true := q
        subst q1
        obtain rfl : u = Value.bool true := rv
        refine ⟨rfl, OldK.of_keep fun b o e => ?_, os, bare⟩
        cases n0 : H b with
        | none => exact un.keep b o e n0 (fun z => absurd z List.not_mem_nil) List.not_mem_nil
        | some u0 =>
          rcases only b with n | ⟨ob, xs, n⟩
          · rw [n0] at n
            cases n
          · obtain ⟨e1, _⟩ := ok b _ n
            obtain ⟨e2, _⟩ := ok' b _ (un.frzs b ob _ n)
            rw [e] at e1
            rw [e2]
            exact e1.symm
  have rv := vals_ints hi
  cases hk : K.lookup a with
  | some o =>
    have e := inK a o hk
    rw [ha] at e
    cases e
    exact core (fun _ => none) (fun _ => .inl rfl) (.inr ⟨_, vs.toArray, _, hk, rfl, rfl, rfl, by rw [List.size_toArray, hi.length]; exact hl, by simpa using rv⟩) (fun b u z => nomatch z) (fun b u z => nomatch z) fun u z => nomatch z
  | none =>
    have key : ∀ b u, (if b = a then some (HO.frz { cls := .type "list", data := .seq vs.toArray } (.lst (ns.map V.int))) else none) = some u → b = a ∧ u = .frz { cls := .type "list", data := .seq vs.toArray } (.lst (ns.map V.int)) := by
      intro b u z
      split at z
      · cases z
        exact ⟨by assumption, rfl⟩
      · cases z
    refine core (fun b => if b = a then some (.frz { cls := .type "list", data := .seq vs.toArray } (.lst (ns.map V.int))) else none) (fun b => ?_) (.inl (.inr ⟨_, if_pos rfl⟩)) (fun b u z => ?_) (fun b u z => (key b u z).1) fun _ _ => hk
    · cases q : (if b = a then some (HO.frz { cls := .type "list", data := .seq vs.toArray } (.lst (ns.map V.int))) else none : Option HO) with
      | none => exact .inl q
      | some u => exact .inr ⟨_, _, q.trans (congrArg some (key b u q).2)⟩
    · obtain ⟨rfl, rfl⟩ := key b u z
      exact ⟨ha, by rw [List.length_map]; exact hl, vs, _, rv, ha⟩
end
/-- what k_head leaves, from such a promise of the law's def -/
theorem walkG {l : PySem.W.OpenLaw} {n k : Nat} {q : Program} {loose : List Str} {XP : (Str → Option Value) → Heap → Prop} {YP : World → Heap → Prop} {d : DefRec} {K : Params → PySem.W.Frag} {sp : PySem.W.Frag → Sp} {x : Str} (hn : l.most = some n) (hn2 : n ≤ sizeLine) (hdf : d.params.defaults = [])
    (hr : Room k callerA) (hY : ∀ (w : World) (h : Heap), YP w h → (K w.params).In h)
    (F : ∀ (w : World) (mg : Str → Option Value) (fa : Addr) (h : Heap), (K w.params).In h → h.Ns mainGlobals mg → mg d.name = some (.ref fa) →
      ∃ fd : FuncData, (∀ (s : Shared) (u : Value), BindsTo s fd ⟨[u], []⟩ [(x, u)]) ∧ ∀ base : Heap, (K w.params).In base → base.Ns mainGlobals mg → FnG l.prog w (K w.params) mg base CX0 k fa fd [x] (sp (K w.params)))
    (hsp : ∀ (K : PySem.W.Frag) (H : Hp) (a : Addr) (ns : List Int), ns.length ≤ n → Only H → SqL K H a (ns.map V.int) → sp K [.ref a] H (fun v _ => v = .bl true) E0) :
    PySem.W.WalkO q loose XP YP l.row.toRowW d [] (fun f vs => PySem.call f vs) := by
  refine Att.attach_call hn hdf fun w s₀ s₁ mg mb fa o pm cd doc a vs ns G Y ho hd hcd hmg hobj hints hlen hg => ?_
  obtain ⟨fd, hb, hF⟩ := F w mg fa _ (hY w _ Y) G.T.g hmg
  exact lawG (hY w _ Y) G.T.g G.T.b G.T.builtins G.T.nolimit hg hobj hints (Nat.le_trans hlen hn2) hr hF hb fun H only hS => hsp _ H a ns hlen only hS
end KL

/-! Own layer, part D: own exceptions made by keywords, at the library's level. -/
namespace PySem.KX
open PySem PySem.W PySem.Calls PyProof.Rows PySem.HandSPX
section
variable {P : Program} {w : World} {M : Model} {A : Around} {Er : Value → Shared → Prop} {R : Result → Shared → Prop} {hp : Heap} {gs : Array GenState} {dr : Drawn} {tk : Nat} {os : OsState}
variable {nm qn : Str} {C N fI : Addr} {bs bm bB : List Value} {hd : Bool} {sn : List Str} {sub us : List Value} {ab : Bool} {col : Option Bool} {dd : Option Addr} {m0 m1 m2 m3 m5 : Option Value} {B ni ii : String} {kw : List (Str × Value)}
theorem check_new_kw (F : ExcBaseFacts B ni ii bB) (hT : ∀ X : String, bm.contains (.type X) = bB.contains (.type X)) {Q : Unit → Shared → Prop} (hC : hp.get? C = some (excClassObj nm qn C N bs bm hd sn sub ab col dd m0 m1 m2 m3 m5 ni)) (hq : Q () ⟨hp, gs, dr, tk, os⟩) :
    wpAny M A (checkBuiltinCall ni ⟨.ref C :: us, kw⟩) Q Er ⟨hp, gs, dr, tk, os⟩ := by
  have inB : (Value.ref C :: bm).contains (.type B) = true := by rw [List.contains_cons, hT, F.hasB, Bool.or_true]
  have star := F.noStar
  simp only [checkBuiltinCall, F.newKind, F.newSplit, F.newRow]
  repeat (first | refine wpAny_loadPart_at hC ?_ | (refine wpAny_isSubtype_exc hC ?_; rw [inB]) | refine wpAny_staticBase_exc hC ?_ | refine wpAny_madeBy_exc hC ?_ | simp only [bne_self_eq_false, Bool.false_eq_true, if_false] | wp_step)
  exact hq
theorem new_kw (F : ExcBaseFacts B ni ii bB) (hT : ∀ X : String, bm.contains (.type X) = bB.contains (.type X)) (hC : hp.get? C = some (excClassObj nm qn C N bs bm hd sn sub ab col dd m0 m1 m2 m3 m5 ni)) (hl : us.length ≤ sizeLine)
    (hq : R (.ok (.ret (.ref (hp.objs.size + 1)))) ⟨(hp.push (kdv_tup us)).push (excO C hp.objs.size), gs, dr, tk, os⟩) : codeAny (model P w) A (.builtin ni ⟨.ref C :: us, kw⟩) R ⟨hp, gs, dr, tk, os⟩ := by
  have ends := F.ends
  have inB : (Value.ref C :: bm).contains (.type B) = true := by rw [List.contains_cons, hT, F.hasB, Bool.or_true]
  have noA : (Value.ref C :: bm).contains (.type "AttributeError") = false := by rw [List.contains_cons, hT, F.noAttr]; rfl
  have noN : (Value.ref C :: bm).contains (.type "NameError") = false := by rw [List.contains_cons, hT, F.noName]; rfl
  refine codeAny_builtinAt F.entry ?_
  unfold Builtin.«BaseException.__new__»
  refine wpAt_bind ?_
  show wpAt _ _ _ (stack >>= _) _ _ _
  refine wpAt_bind (wpAt_stack fun p below => wpAt_of_wpAny ?_)
  wp_walk
  refine wpAt_of_wpAny ?_
  rw [F.owner]
  repeat (first | with_reducible refine wpAny_madeHere_exc F.canon hC ?_ | with_reducible refine wpAny_loadPart_at hC ?_ | (with_reducible refine wpAny_isSubtype_exc hC ?_; first | rw [inB] | rw [noA] | rw [noN]) | wp_step)
  show R _ _
  rw [Heap.size_push]
  exact hq
theorem typecall_kw (F : ExcBaseFacts B ni ii bB) (hT : ∀ X : String, bm.contains (.type X) = bB.contains (.type X)) {Q : Fin → Shared → Prop} (hC : hp.get? C = some (excClassObj nm qn C N bs bm hd sn sub ab col dd m0 m1 m2 m3 m5 ni))
    (hi : Looks (model P w) hp (typeLookup (.ref C) "__init__") (some (.ref fI))) (hb : ∀ self, Looks (model P w) hp (bindSpecial (.ref fI) self) (.ref fI, [self])) (hl : us.length ≤ sizeLine)
    (hq : codeAny (model P w) A (.call (.ref fI) ⟨.ref (hp.objs.size + 1) :: us, kw⟩) (fun r s' => match r with | .ok (.ret v) => v = .none ∧ Q (.done (.ret (.ref (hp.objs.size + 1)))) s' | .ok _ => False | .error e => Er e s')
      ⟨(hp.push (kdv_tup us)).push (excO C hp.objs.size), gs, dr, tk, os⟩) : wpAny (model P w) A (Builtin.«type.__call__» ⟨.ref C :: us, kw⟩) Q Er ⟨hp, gs, dr, tk, os⟩ := by
  repeat (first | with_reducible refine wpAny_loadPart_at hC ?_ | with_reducible refine wpAny_madeBy_exc hC ?_ | wp_step)
  refine codeAny_call_builtin_code (Code.quiet_builtin _ F.quiet) (check_new_kw F hT hC ?_)
  refine new_kw F hT hC hl ?_
  show wpAny _ _ _ _ _ _
  have keep : ∀ b o, hp.get? b = some o → ((hp.push (kdv_tup us)).push (excO C hp.objs.size)).get? b = some o := fun b o e => Heap.get?_push_of_some _ (Heap.get?_push_of_some _ e)
  have hC2 := keep _ _ hC
  have hE : ((hp.push (kdv_tup us)).push (excO C hp.objs.size)).get? (hp.objs.size + 1) = some (excO C hp.objs.size) := by heap_get
  have inC : (Value.ref C :: bm).contains (.ref C) = true := by simp
  have i2 := hi.keeps keep
  have b2 := (hb (.ref (hp.objs.size + 1))).keeps keep
  unfold isInstance
  repeat (first | with_reducible refine wpAny_loadPart_at hE ?_ | (with_reducible refine wpAny_isSubtype_exc hC2 ?_; rw [inC]) | wp_step)
  show wpAny _ _ (typeLookup (.ref C) _) _ _ _
  refine i2.at ?_
  refine wpAny_holding (wpAny_bind (b2.at ?_))
  refine wpAny_bind (wpAny_call (codeAny_mono hq fun r s' z => ?_))
  rcases r with e | (v | _ | _ | _) <;> first | exact z | exact z.elim | skip
  obtain ⟨rfl, z⟩ := z
  first
    | exact wpAny_pure (wpAny_pure z)
    | (wp_walk; exact z)
theorem make_kw (F : ExcBaseFacts B ni ii bB) (hT : ∀ X : String, bm.contains (.type X) = bB.contains (.type X)) (hC : hp.get? C = some (excClassObj nm qn C N bs bm hd sn sub ab col dd m0 m1 m2 m3 m5 ni))
    (hi : Looks (model P w) hp (typeLookup (.ref C) "__init__") (some (.ref fI))) (hb : ∀ self, Looks (model P w) hp (bindSpecial (.ref fI) self) (.ref fI, [self])) (hl : us.length ≤ sizeLine)
    (hq : codeAny (model P w) (A.under (.builtin "type.__call__" ⟨.ref C :: us, kw⟩)) (.call (.ref fI) ⟨.ref (hp.objs.size + 1) :: us, kw⟩) (InitBack (hp.objs.size + 1) R) ⟨(hp.push (kdv_tup us)).push (excO C hp.objs.size), gs, dr, tk, os⟩) :
    codeAny (model P w) A (.call (.ref C) ⟨us, kw⟩) R ⟨hp, gs, dr, tk, os⟩ := by
  have f1 := tc_lookup
  have f2 := tc_bind (.ref C)
  have ty : (⟨hp, gs, dr, tk, os⟩ : Shared).TypeIs (.ref C) "type" := ⟨_, hC, rfl⟩
  refine codeAny_of_tree ?_
  show wpAny _ _ (callAny (.ref C) _) _ _ _
  repeat (any_goals (first | assumption | with_reducible refine wpAny_loadPart_at hC ?_ | wp_step))
  refine ⟨rfl, ?_⟩
  refine codeAny_call_builtin_at (Code.quiet_builtin _ (by decide +kernel)) entry_typeCall (wpAny_check_type_call_sub hC (typecall_kw F hT hC hi hb hl ?_))
  refine codeAny_mono hq fun r s' z => ?_
  rcases r with e | (v | _ | _ | _) <;> exact z
end
end PySem.KX

/-! Own layer, part E: own exceptions as values: made, asked for their class, their fields read. -/
namespace KL
open PySem PySem.Spec PyProof.Rows L2

/-- at e stands an exception of the class at C, with these fields in its dict -/
def Er (H : Hp) (e C : Addr) (fs : List (Str × V)) : Prop := (∃ d, H e = some (exo e C (some d)) ∧ H d = some (exd d fs)) ∨ (fs = [] ∧ H e = some (ExO (.ref C) e))
/-- no list, no dict that a program writes to -/
def NoW (H : Hp) (Z : Addr → Prop) : Prop := ∀ b, Z b → ∃ xs, H b = some (.lst xs)
theorem Er.kp {Z : Addr → Prop} {H G : Hp} {e C : Addr} {fs : List (Str × V)} (h : Er H e C fs) (k : Kp Z H G) (n : NoW H Z) : Er G e C fs := by
  have ext : ∀ {b : Addr} {φ : Heap → Prop}, H b = some (.ext φ) → ¬ Z b := fun {b φ} q z => by
    obtain ⟨xs, e⟩ := n b z
    rw [q] at e
    cases e
  rcases h with ⟨d, h1, h2⟩ | ⟨h0, h1⟩
  · exact .inl ⟨d, k _ _ (ext h1) h1, k _ _ (ext h2) h2⟩
  · exact .inr ⟨h0, k _ _ (ext h1) h1⟩

section
variable {X : Cx} {pins : List (Addr × Obj)} {σ : L2.St} {H : Hp} {s : Shared} {e C : Addr} {fs : List (Str × V)}
theorem Er.inst (I : Inv X pins σ H s) (h : Er H e C fs) : ∃ oe od, PySem.W.InstAt s.heap e oe C od := by
  rcases h with ⟨d, h1, h2⟩ | ⟨_, h1⟩
  · obtain ⟨t1, q⟩ := exo_at I.hok h1
    obtain ⟨mA, ns, _⟩ := exd_at I.hok h2
    obtain ⟨od, ho, _⟩ := lookIn_ns ns
    exact ⟨_, some od, q, rfl, rfl, ho⟩
  · obtain ⟨⟨oe, vs, q, hz, hd, _⟩, _⟩ := I.hok e _ h1
    exact ⟨oe, none, q, hz.1, by unfold PySem.W.notCls; rw [hd] <;> rfl, by rw [hz.2]; exact True.intro⟩
/-- isinstance(error, class) -/
def rIsX (K : PySem.W.Frag) : List V → Hp → VK → Prop := fun xs H Q => ∃ (e C : Addr) (fs : List (Str × V)) (c : V) (cv : Value) (b : Bool), xs = [.ref e, c] ∧ (∀ u, RelV c u → u = cv) ∧ ExcC K C ∧ Er H e C fs ∧ PySem.W.kitOne K (.ref C) cv = some b ∧ Q (.bl b) H
theorem call_isX : CallR X (.builtin "isinstance") (rIsX X.K) := by
  intro pins s σ H xs us Q I r h
  obtain ⟨e, C, fs, c, cv, b, rfl, hcv, T, he, kit, q⟩ := h
  obtain ⟨u1, u2, rfl, r1, r2⟩ := vals2 r
  obtain rfl : u1 = Value.ref e := r1
  obtain rfl := hcv _ r2
  obtain ⟨oe, od, J⟩ := he.inst I
  have isC : (PySem.W.clsIn X.K C).isSome = true := by
    obtain ⟨cd, hc, _⟩ := PySem.W.any_some T.hd
    rw [hc]
    rfl
  exact PySem.W.kia_one (PySem.W.kitx_exc isC T.hg T.hk T.hs T.ha T.hn T.ht T.hm) I.kIn J kit (fun z => nomatch z) fun tk => ⟨.bl b, H, I.tok tk, rfl, q⟩
/-- error.f -/
def tEf (K : PySem.W.Frag) (f : Str) (te : TE) : TE := fun σ H Q => te σ H fun x H1 => ∃ (e C : Addr) (fs : List (Str × V)) (v : V), x = .ref e ∧ ExcC K C ∧ PySem.W.findIn K (.ref C) f = some none ∧ Er H1 e C fs ∧ fs.lookup f = some v ∧ Q v H1
theorem pe_ef {o : Expr} {te : TE} {f : Str} {pos : Pos} (he : PE X o te) (hb : attributeBase o f X.env (eval o X.env) = eval o X.env := by rfl) : PE X (.Attribute o f pos) (tEf X.K f te) := by
  refine ⟨fun pins s σ H Q I h => attr_of hb (thn (he.run pins s σ H _ I h) fun u s1 hh => ?_)⟩
  obtain ⟨x, H1, I1, rx, e, C, fs, v, rfl, T, no, er, l, q⟩ := hh
  obtain rfl : u = Value.ref e := rx
  rcases er with ⟨d, h1, h2⟩ | ⟨rfl, _⟩
  · obtain ⟨t1, g⟩ := exo_at I1.hok h1
    obtain ⟨mA, ns, rel⟩ := exd_at I1.hok h2
    obtain ⟨od, ho, hl⟩ := lookIn_ns ns
    obtain ⟨u, hu, ru⟩ := RelO.some_of (v := v) (o := mA f) (by rw [← l]; exact rel f)
    exact HandSPX.exc_get I1.kIn (⟨g, rfl, rfl, ho⟩ : PySem.W.InstAt s1.heap e _ C (some od)) T.hg T.hk T.hs (PySem.W.findObj_own T.hd no rfl (by rw [hl, hu])) (handed_of ru) ⟨v, H1, I1.tok _, ru, q⟩
  · cases l
end

/-! ### made -/
section
variable {X : Cx} {pins : List (Addr × Obj)} {σ : L2.St} {H : Hp} {s : Shared} {C fI : Addr} {k : Nat} {fd : FuncData} {ps : List Str} {sp : Sp}
theorem run_exo {Q : VK} {us all : List Value} {vall : List V} {kw : List (Str × Value)} (T : OexC X.K C) (iC : PySem.W.findIn X.K (.ref C) "__init__" = some (some (.ref fI))) (tI : PySem.W.typeIn X.K (.ref fI) = some (.type "function")) (F : FnOk X.prog X.w X.K X.mg X.base CX0 k fI fd ps sp)
    (hr : Room (k + 1) X.A) (I : Inv X pins σ H s) (hl : us.length ≤ 1000) (rv : Vals vall all) (hb : ∀ (s : Shared) (x : Addr), X.K.In s.heap → (Value.ref x :: all).length = ps.length → BindsTo s fd ⟨.ref x :: us, kw⟩ (ps.zip (.ref x :: all)))
    (h : ∀ a, H a = none → sp (.ref a :: vall) (upd H a (exo a C none)) (fun v G => v = .non ∧ Q (.ref a) G) E0) : wpAny (model X.prog X.w) X.A (call (.ref C) us kw) (EP X pins σ Q) X.xe s := by
  obtain ⟨nm, q, N, bs, bm, sn, sub, ab, col, dd, k0, k1, k2, k3, k5, hC, hbm⟩ := T.cls
  obtain ⟨hp, g, dr, tk, os⟩ := s
  have big : hp.objs.size ≤ hp.objs.size + 1 := Nat.le_succ _
  have free : H (hp.objs.size + 1) = none := I.hok.fresh big
  have keep : ∀ b o, hp.get? b = some o → ((hp.push (PySem.W.kdv_tup us)).push (PySem.HandSPX.excO C hp.objs.size)).get? b = some o := fun b o e => Heap.get?_push_of_some _ (Heap.get?_push_of_some _ e)
  have at1 : ((hp.push (PySem.W.kdv_tup us)).push (PySem.HandSPX.excO C hp.objs.size)).get? (hp.objs.size + 1) = some (PySem.HandSPX.excO C hp.objs.size) := by heap_get
  have J : Inv X pins σ (upd H (hp.objs.size + 1) (exo (hp.objs.size + 1) C none)) ⟨(hp.push (PySem.W.kdv_tup us)).push (PySem.HandSPX.excO C hp.objs.size), g, dr, tk, os⟩ := I.laid (t' := tk) keep big (exo_ok at1)
  have r2 : Vals (V.ref (hp.objs.size + 1) :: vall) (Value.ref (hp.objs.size + 1) :: all) := .cons rfl rv
  have want := h _ free
  have len := r2.length.symm.trans (F.len _ _ _ _ want)
  refine wpAny_call (KX.make_kw PySem.F.excBase_ValueError (fun Y => PySem.HandSPX.refsVE_contains Y bm hbm) (I.kIn _ _ hC) (PySem.W.looks_findIn I.kIn iC) (fun self => PySem.W.bind_fn I.kIn self tI) (by rw [sizeLine_eq]; omega) ?_)
  refine codeAny_mono (F.run _ X.stack _ _ ⟨Value.ref (hp.objs.size + 1) :: us, kw⟩ _ _ _ E0 (hr.make C us kw) (J.env0.make C us kw) (hb _ _ J.kIn len) r2 want) fun r s' z => ?_
  cases r with
  | error er => exact z.elim
  | ok fl =>
    cases fl with
    | ret u =>
      obtain ⟨v, G, J2, rv2, rfl, q2⟩ := J.after z
      exact ⟨rv2, ⟨V.ref (hp.objs.size + 1), G, J2, rfl, q2⟩⟩
    | next => exact False.elim z
    | brk => exact False.elim z
    | cont => exact False.elim z
/-- C(e, ..), C an exception class of the program with an __init__ of its own -/
def tExo (C : Addr) (sp : Sp) (t : TA) : TE := fun σ H Q => t σ H fun vs H1 => vs.length ≤ 1000 ∧ ∀ a, H1 a = none → sp (.ref a :: vs) (upd H1 a (exo a C none)) (fun v G => v = .non ∧ Q (.ref a) G) E0
theorem pe_exo {x : Str} {e : Expr} {es : List Expr} {t : TA} {p pos : Pos} (T : OexC X.K C) (iC : PySem.W.findIn X.K (.ref C) "__init__" = some (some (.ref fI))) (tI : PySem.W.typeIn X.K (.ref fI) = some (.type "function")) (F : FnOk X.prog X.w X.K X.mg X.base CX0 k fI fd ps sp) (hr : Room (k + 1) X.A)
    (hb : L2.Binds X.K fd ps []) (hg : Gl X x) (hm : X.mg x = some (.ref C)) (ha : PA X (e :: es) t) (hdb : (x == ("__debug__" : Str)) = false := by decide) (he : starEach (e :: es) X.env = (false, eval e X.env) :: starEach es X.env := by rfl) (hpl : (backTo pos (starEach es X.env)).any (·.1) = false := by rfl) :
    PE X (.Call (.Name x p) (e :: es) [] pos) (tExo C sp t) := by
  refine ⟨fun pins s σ H Q I h => wpAny_Call_Name_kw (ld_glob I hg hm ?_ hdb)⟩
  refine PySem.W.callWith_K (h₀ := X.base) I.ok.mod.kin T.kC (thn (ha.run pos pins s σ H _ I h) fun us s1 ⟨vs, G, J, rv, hz, q⟩ => ⟨J.kIn, ?_⟩) he hpl
  refine run_exo (all := us) T iC tI F hr J (rv.length ▸ hz) rv (fun s2 x i l => ?_) q
  have b := hb s2 (.ref x :: us) i (by rw [List.append_nil]; exact l)
  rw [List.append_nil] at b
  exact b
/-- C(k = e, ..): the values of the keywords in the order of the call, g puts them in that of the parameters -/
def tExoK (C : Addr) (sp : Sp) (g : List V → List V) (t : TA) : TE := fun σ H Q => t σ H fun vs H1 => vs.length ≤ 1000 ∧ ∀ a, H1 a = none → sp (.ref a :: g vs) (upd H1 a (exo a C none)) (fun v G => v = .non ∧ Q (.ref a) G) E0
theorem pe_exoK {x : Str} {kws : List Keyword} {t : TA} {p pos : Pos} {ks : List Str} {g : List Value → List Value} {gV : List V → List V} (T : OexC X.K C) (iC : PySem.W.findIn X.K (.ref C) "__init__" = some (some (.ref fI))) (tI : PySem.W.typeIn X.K (.ref fI) = some (.type "function")) (F : FnOk X.prog X.w X.K X.mg X.base CX0 k fI fd ps sp)
    (hr : Room (k + 1) X.A) (hb : ∀ (s : Shared) (x : Addr) (ws : List Value), X.K.In s.heap → (Value.ref x :: g ws).length = ps.length → BindsTo s fd ⟨[.ref x], ks.zip ws⟩ (ps.zip (.ref x :: g ws))) (rel : ∀ {zs : List V} {ws : List Value}, Vals zs ws → Vals (gV zs) (g ws))
    (hg : Gl X x) (hm : X.mg x = some (.ref C)) (ha : PK X kws t) (hdb : (x == ("__debug__" : Str)) = false := by decide) (hall : (backToKw pos (keywordEach kws X.env)).all (·.1.isSome) = true := by rfl) (hks : (backToKw pos (keywordEach kws X.env)).filterMap (·.1) = ks := by rfl)
    (hpl : ((backTo pos (starEach [] X.env)).any (·.1) || (backToKw pos (keywordEach kws X.env)).any (·.1.isNone)) = false := by rfl) : PE X (.Call (.Name x p) [] kws pos) (tExoK C sp gV t) := by
  refine ⟨fun pins s σ H Q I h => wpAny_Call_Name_kw (ld_glob I hg hm ?_ hdb)⟩
  refine PySem.W.callWith_KW0 (h₀ := X.base) I.ok.mod.kin T.kC hall (thn (ha.run pos pins s σ H _ I h) fun ws s1 ⟨zs, G, J, rz, hz, q⟩ => ⟨J.kIn, ?_⟩) hpl
  rw [hks]
  exact run_exo (us := []) (all := g ws) (kw := ks.zip ws) T iC tI F hr J (Nat.zero_le _) (rel rz) (fun s2 x i l => hb s2 x ws i l) q
/-- C(), C an exception class of the program without an __init__ -/
def tEx0 (C : Addr) : TE := fun _ H Q => ∀ a, H a = none → Q (.ref a) (upd H a (ExO (.ref C) a))
theorem pe_ex0 {bmB : List Value} {B newId initId : String} {x : Str} {p pos : Pos} (F : ExcBaseFacts B newId initId bmB) (q : PySem.W.excIn X.K C bmB newId = true) (gC : X.mg x = some (.ref C)) (kC : PySem.W.keepIn X.K (.ref C) = true) (hg : Gl X x) (hdb : (x == ("__debug__" : Str)) = false := by decide) :
    PE X (.Call (.Name x p) [] [] pos) (tEx0 C) := by
  refine ⟨fun pins s σ H Q I h => wpAny_Call_Name_kw (ld_glob I hg gC ?_ hdb)⟩
  refine PySem.W.callWith_K0 I.kIn kC ?_
  obtain ⟨bm, N, nm, qn, bs, hdct, sn, sub, ab, col, dd, k0, k1, k2, k3, k5, mN, hC, hN, hni, T⟩ := exc_obj I.kIn q
  refine wpAny_call_exc_subT (rest := []) F T hC hN hni (fun h' a hm => ?_) (by rw [sizeLine_eq]; exact Nat.zero_le _)
  have hn : H a = none := I.hok.gone hm.new
  obtain ⟨t, ht, _, _⟩ := hm.there
  exact ⟨.ref a, _, I.laidN hm.keeps hm.new hn (exO_ok ht ⟨rfl, rfl⟩ rfl rfl rfl (show 4 < 6 by decide)), rfl, h a hn⟩
end

/-! ### an __init__ that stores its parameters -/
section
variable {P : Program} {w : World} {K : PySem.W.Frag} {mg : Str → Option Value} {base : Heap} {C : Addr}
/-- __init__(self, f): self.f = f -/
def spIni (C : Addr) (f : Str) : Sp := fun vs H Q _ => ∃ (a : Addr) (v : V), vs = [.ref a, v] ∧ H a = some (exo a C none) ∧ ∀ d, H d = none → d ≠ a → Q .non (upd (upd H d (exd d [(f, v)])) a (exo a C (some d)))
theorem ok_ini {f qual : Str} {st : Stmt} {fI : Addr} {fd : FuncData} {q1 q2 q3 q4 : Pos} (F : Fun K "__init__" qual st fI fd) (S : FnScope ["self", f] ["self", f] (defScope st)) (hb : defBody st = [.Assign [.Attribute (.Name "self" q1) f q2] (.Name f q3) q4]) (T : OexC K C) (no : PySem.W.findIn K (.ref C) f = some none)
    (h1 : (defScope st).names.lookup f = some NameKind.local) (h2 : (defScope st).names.lookup ("self" : Str) = some NameKind.local) (h3 : (f == ("__debug__" : Str)) = false) (h4 : (f == ("__classdict__" : Str)) = false) (hsw : ∀ env, swapsWith (.Name f q3) (some (.Attribute (.Name "self" q1) f q2)) q4.line env = pure false) :
    FnOk P w K mg base CX0 1 fI fd ["self", f] (spIni C f) := by
  refine F.ok S (fun vs H Q E h => ?_) (fun cdv A outer s H vs Q E hr h => ?_)
  · obtain ⟨a, v, rfl, _⟩ := h
    rfl
  · obtain ⟨a, v, rfl, ha, q⟩ := h
    rw [hb]
    refine ⟨_, pss_one (ps_ost (pe_var (i := 0) rfl (.inl h2) (by decide) (by decide)) (pe_var (i := 1) rfl (.inl h1) h3 h4) (hsw _)), ?_⟩
    exact ⟨v, rfl, .ref a, rfl, a, C, rfl, T, no, .inl ⟨ha, fun d nd ne => q d nd ne⟩⟩
end
end KL

/-! The law's draws. -/
namespace K1
open PySem PySem.Spec PyProof.Rows L2 KL

def topS (i : Nat) : Stmt := PySem.Challenge.pw_causaleffects_k01_errors_each_of_its_own.main.body.getD i (.Pass ⟨0, 0, 0, 0⟩)
abbrev sWell : Stmt := topS 23
abbrev sDraw : Stmt := topS 24
abbrev sOne : Stmt := topS 25
abbrev sOdd : Stmt := topS 26
abbrev sThing : Stmt := topS 27
theorem scWell : FnScope ["script", "lap", "mixed", "cell", "own"] ["script", "lap"] (defScope sWell) := ⟨rfl, rfl, rfl, by decide +kernel, rfl, by decide +kernel, by decide +kernel⟩
theorem scDraw : FnScope ["well", "few", "figure", "mixed"] ["well", "few"] (defScope sDraw) := ⟨rfl, rfl, rfl, by decide +kernel, rfl, by decide +kernel, by decide +kernel⟩
theorem scOne : FnScope ["well", "some"] ["well", "some"] (defScope sOne) := ⟨rfl, rfl, rfl, by decide +kernel, rfl, by decide +kernel, by decide +kernel⟩
theorem scOdd : FnScope ["well", "some", "more", "ends"] ["well"] (defScope sOdd) := ⟨rfl, rfl, rfl, by decide +kernel, rfl, by decide +kernel, by decide +kernel⟩
theorem scThing : FnScope ["well", "deep", "way", "found", "turn"] ["well", "deep"] (defScope sThing) := ⟨rfl, rfl, rfl, by decide +kernel, rfl, by decide +kernel, by decide +kernel⟩

/-- at a stands a well -/
def Wl (H : Hp) (a : Addr) : Prop := ∃ x y z : Int, H a = some (.lst [.int x, .int y, .int z])
/-- only the well at a has changed -/
def Mv (a : Addr) (H G : Hp) : Prop := Kp (fun b => b = a) H G ∧ Wl G a
theorem Mv.tr {a : Addr} {H G J : Hp} (h : Mv a H G) (k : Mv a G J) : Mv a H J := ⟨h.1.tr k.1, k.2⟩
theorem Mv.trk {a : Addr} {H G : Hp} (h : Mv a H G) : ∀ b, tracked H b → tracked G b := fun b t => by
  by_cases e : b = a
  · obtain ⟨x, y, z, q⟩ := h.2
    rw [e]
    intro n
    rw [q] at n
    cases n
  · intro n
    apply t
    cases q : H b with
    | none => rfl
    | some o =>
      have := h.1 b o e q
      rw [n] at this
      cases this
theorem Wl.ne {H : Hp} {a p : Addr} (h : Wl H a) (n : H p = none) : a ≠ p := by
  obtain ⟨x, y, z, q⟩ := h
  exact ne_of_none q n
theorem Wl.new {H : Hp} {a p : Addr} {o : HO} (h : Wl H a) (n : H p = none) : Wl (upd H p o) a := by
  have e := h.ne n
  obtain ⟨x, y, z, q⟩ := h
  exact ⟨x, y, z, by rw [upd_ne e]; exact q⟩
theorem Mv.new {H : Hp} {a p : Addr} {o : HO} (h : Wl H a) (n : H p = none) : Mv a H (upd H p o) := ⟨Kp.new n, h.new n⟩
theorem trk_ne {H : Hp} {a p : Addr} (h : tracked H a) (n : H p = none) : a ≠ p := fun e => h (e ▸ n)

section
variable {P : Program} {w : World} {K : PySem.W.Frag} {mg : Str → Option Value} {base : Heap}
/-! ### _law_draw -/
def spDraw : Sp := fun vs H Q _ => ∃ (a : Addr) (n : Int), vs = [.ref a, .int n] ∧ Wl H a ∧ 0 < n ∧ n < 1000000000 ∧ ∀ (r : Int) (G : Hp), 0 ≤ r → r < n → Mv a H G → Q (.int r) G
theorem ok_draw {f : Addr} {fd : FuncData} (F : Fun K "_law_draw" "_law_draw" sDraw f fd) (md : mg "divmod" = none) (mi : mg "int" = none) : FnOk P w K mg base CX0 1 f fd ["well", "few"] spDraw := by
  refine F.ok scDraw (fun vs H Q E h => ?_) (fun cdv A outer s H vs Q E hr h => ?_)
  · obtain ⟨a, n, rfl, _⟩ := h
    rfl
  · obtain ⟨a, n, rfl, ⟨x, y, z, hW⟩, n0, n1, q⟩ := h
    refine ⟨_, pss_cons (ps_if (pt_cmpR op_gt (pe_ix ix_list (pv 0) pe_int (fun _ _ => rfl)) pe_int (nomark _))
        (pss_cons (ps_asg (pe_callB call_divmod (by rfl) md (by decide +kernel) (pa_cons (pe_ix ix_list (pv 0) pe_int (fun _ _ => rfl)) (pa_cons (pv 1) pa_nil)))
            (pg_tup rfl (pgs_cons (pg_sub (pv 0) pe_int set_list) (pgs_cons (pg_name (i := 2) scDraw.nd rfl (.inl rfl)) pgs_nil))))
          (pss_one (ps_ret (pv 2)))) pss_nil)
      (pss_cons (ps_asg (pe_op op_add (pe_ix ix_list (pv 0) pe_int (fun _ _ => rfl)) pe_int) (pg_sub (pv 0) pe_int set_list))
      (pss_cons (ps_set (i := 3) scDraw.nd rfl (.inl rfl) (pe_op op_mod (pe_callTy call_int1 (by rfl) mi (by decide +kernel) (pa_cons (pe_op op_add (pe_op op_mul (pe_ix ix_list (pv 0) pe_int (fun _ _ => rfl)) pe_int) (pe_op op_mul pe_int (pe_ix ix_list (pv 0) pe_int (fun _ _ => rfl)))) pa_nil)) pe_int))
      (pss_cons (ps_asg (pe_op op_mod (pe_callTy call_int1 (by rfl) mi (by decide +kernel) (pa_cons (pe_op op_add (pe_op op_mul (pv 3) (pe_op op_add (pe_op op_mod (pe_callTy call_int1 (by rfl) mi (by decide +kernel) (pa_cons (pv 3) pa_nil)) pe_int) pe_int)) (pe_ix ix_list (pv 0) pe_int (fun _ _ => rfl))) pa_nil)) pe_int) (pg_sub (pv 0) pe_int set_list))
      (pss_one (ps_ret (pe_op op_mod (pe_callTy call_int1 (by rfl) mi (by decide +kernel) (pa_cons (pe_op op_fdiv (pe_ix ix_list (pv 0) pe_int (fun _ _ => rfl)) pe_int) pa_nil)) (pv 1))))))), ?_⟩
    have g0 : ∀ {l : List V} {v : V}, l[0]? = some v → atI l (0 : Int) = some v := fun h => atI_nat (j := 0) h
    have g1 : ∀ {l : List V} {v : V}, l[1]? = some v → atI l (1 : Int) = some v := fun h => atI_nat (j := 1) h
    have g2 : ∀ {l : List V} {v : V}, l[2]? = some v → atI l (2 : Int) = some v := fun h => atI_nat (j := 2) h
    have sq : ∀ {G : Hp} {l : List V}, G a = some (.lst l) → SqL K G a l := fun h => .inl (.inl h)
    refine ⟨.ref a, rfl, a, _, 0, .int x, rfl, rfl, sq hW, g0 rfl, x, 0, rfl, rfl, _, rfl, ite2 (fun c => ?_) (fun c => ?_)⟩
    · refine ⟨.ref a, rfl, a, _, 0, .int x, rfl, rfl, sq hW, g0 rfl, .int n, rfl, x, n, rfl, ⟨n0, by omega⟩, fun p np => ?_⟩
      have nap : a ≠ p := ne_of_none hW np
      refine ⟨p, _, rfl, .inl (.inl upd_same), rfl, .int (x / n), [.int (x % n)], rfl, ⟨.ref a, rfl, a, _, 0, 0, rfl, rfl, (upd_ne nap).trans hW, rfl, .int (x % n), [], rfl, rfl, .int (x % n), rfl, ?_⟩⟩
      refine q _ _ (Int.emod_nonneg _ (by omega)) (Int.emod_lt_of_pos _ n0) ⟨fun b o nb e => ?_, x / n, y, z, upd_same⟩
      rw [upd_ne nb, upd_ne (ne_of_none e np)]
      exact e
    · refine ⟨.ref a, rfl, a, _, 2, .int z, rfl, rfl, sq hW, g2 rfl, z, 1, rfl, rfl, .ref a, rfl, a, _, 2, 2, rfl, rfl, hW, rfl, ?_⟩
      refine ⟨.ref a, rfl, a, _, 1, .int y, rfl, rfl, sq upd_same, g1 rfl, y, 48271, rfl, rfl, .inr ⟨by decide, by decide⟩, .ref a, rfl, a, _, 2, .int (z + 1), rfl, rfl, sq upd_same, g2 rfl, 15031, z + 1, rfl, rfl, .inl ⟨by decide, by decide⟩,
        y * 48271, 15031 * (z + 1), rfl, rfl, .inl ⟨_, rfl, _, 2147483423, rfl, rfl, (by show (0 : Int) < 2147483423; decide), ?_⟩⟩
      have m0 : 0 ≤ (y * 48271 + 15031 * (z + 1)) % 2147483423 := Int.emod_nonneg _ (by decide)
      have m1 : (y * 48271 + 15031 * (z + 1)) % 2147483423 < 2147483423 := Int.emod_lt_of_pos _ (by decide)
      refine ⟨_, rfl, _, rfl, .inl ⟨_, rfl, _, 4987, rfl, rfl, (by show (0 : Int) < 4987; decide), _, 20023, rfl, rfl, _, _, rfl, rfl, .inl ⟨Int.lt_of_lt_of_le (by decide) m0, Int.lt_trans m1 (by decide)⟩, .ref a, rfl, a, _, 2, .int (z + 1), rfl, rfl, sq upd_same, g2 rfl,
        _, z + 1, rfl, rfl, .inl ⟨_, rfl, _, 2147483423, rfl, rfl, (by show (0 : Int) < 2147483423; decide), .ref a, rfl, a, _, 1, 1, rfl, rfl, upd_same, rfl, ?_⟩⟩⟩
      refine ⟨.ref a, rfl, a, _, 1, .int _, rfl, rfl, sq upd_same, g1 rfl, _, 983, rfl, rfl, ⟨by decide, by decide⟩, .inl ⟨_, rfl, .int n, rfl, _, n, rfl, rfl, n0, ?_⟩⟩
      refine q _ _ (Int.emod_nonneg _ (by omega)) (Int.emod_lt_of_pos _ n0) ⟨fun b o nb e => ?_, _, _, _, upd_same⟩
      rw [upd_ne nb, upd_ne nb]
      exact e

/-! ### _law_one -/
def spOne : Sp := fun vs H Q _ => ∃ (a t : Addr) (xs : List V), vs = [.ref a, .ref t] ∧ Wl H a ∧ H t = some (.tup xs) ∧ 0 < xs.length ∧ xs.length ≤ 1000 ∧ ∀ (i : Nat) (v : V) (G : Hp), xs[i]? = some v → Mv a H G → Q v G
theorem ok_one {f fD : Addr} {fd fdD : FuncData} (F : Fun K "_law_one" "_law_one" sOne f fd) (FD : Fun K "_law_draw" "_law_draw" sDraw fD fdD) (gD : mg "_law_draw" = some (.ref fD)) (bD : L2.Binds K fdD ["well", "few"] []) (md : mg "divmod" = none) (mi : mg "int" = none) (ml : mg "len" = none) :
    FnOk P w K mg base CX0 2 f fd ["well", "some"] spOne := by
  have GD : FnOk P w K mg base CX0 1 fD fdD ["well", "few"] spDraw := ok_draw FD md mi
  refine F.ok scOne (fun vs H Q E h => ?_) (fun cdv A outer s H vs Q E hr h => ?_)
  · obtain ⟨a, t, xs, rfl, _⟩ := h
    rfl
  · obtain ⟨a, t, xs, rfl, hW, ht, l0, l1, q⟩ := h
    refine ⟨_, pss_one (ps_ret (pe_ix ix_tup (pv 1) (pe_call GD hr (by rfl) gD FD.kp bD .nil pass0 (pa_cons (pv 0) (pa_cons (pe_callB call_len_seq (by rfl) ml PySem.boot_len (pa_cons (pv 1) pa_nil)) pa_nil))) (fun _ _ => rfl))), ?_⟩
    refine ⟨.ref t, rfl, .ref a, rfl, .ref t, rfl, t, xs, rfl, .inr (.inl (.inl ht)), a, (xs.length : Int), rfl, hW, by omega, by omega, fun r G r0 r1 mv => ?_⟩
    obtain ⟨j, rfl⟩ : ∃ j : Nat, r = (j : Int) := ⟨r.toNat, (Int.toNat_of_nonneg r0).symm⟩
    have hj : j < xs.length := by omega
    have ht2 : G t = some (.tup xs) := mv.1 t _ (fun e => by
      obtain ⟨x, y, z, e2⟩ := hW
      rw [e, e2] at ht
      cases ht) ht
    exact ⟨t, xs, (j : Int), xs[j], rfl, rfl, .inl (.inl ht2), atI_nat (List.getElem?_eq_getElem hj), q j _ G (List.getElem?_eq_getElem hj) mv⟩

/-! ### data that is drawn -/
def lim : Nat → Nat
  | 0 => 60
  | n + 1 => 3 * lim n + 9
/-- what a draw of depth n may give -/
def Gd (n : Nat) (d : PyData) : Prop := d.showable = true ∧ d.depth ≤ 4 + n ∧ d.shown.length ≤ lim n
def gd0 (d : PyData) : Bool := d.showable && decide (d.depth ≤ 4) && decide (d.shown.length ≤ 60)
theorem gd_of {d : PyData} (h : gd0 d = true) : Gd 0 d := by
  unfold gd0 at h
  rw [Bool.and_eq_true, Bool.and_eq_true] at h
  exact ⟨h.1.1, of_decide_eq_true h.1.2, of_decide_eq_true h.2⟩
theorem lim_up (n : Nat) : lim n ≤ lim (n + 1) := by
  show lim n ≤ 3 * lim n + 9
  omega
theorem lim_ge : ∀ n : Nat, 60 ≤ lim n
  | 0 => Nat.le_refl _
  | n + 1 => Nat.le_trans (lim_ge n) (lim_up n)
theorem Gd.up {n : Nat} {d : PyData} (h : Gd n d) : Gd (n + 1) d := ⟨h.1, by have := h.2.1; omega, Nat.le_trans h.2.2 (lim_up n)⟩
theorem Gd.of0 : ∀ {n : Nat} {d : PyData}, Gd 0 d → Gd n d
  | 0, _, h => h
  | n + 1, _, h => (Gd.of0 (n := n) h).up
theorem Gd.int {n : Nat} {i : Int} (h : i.natAbs < 10 ^ 8) : Gd n (.int i) := by
  refine Gd.of0 ⟨?_, ?_, ?_⟩
  · simp only [PyData.showable]
    have := PySem.Flt.log2_lt_of (n := i.natAbs) (k := 64) (by decide) (Nat.lt_trans h (by decide))
    exact decide_eq_true (by omega)
  · simp only [PyData.depth]
    omega
  · simp only [PyData.shown]
    have := int_text_length_le10 (a := i) (k := 8) (by decide) h
    rw [PySem.ofString_length]
    show _ ≤ 60
    omega
theorem gdAll {n : Nat} : ∀ {ds : List PyData}, (∀ d ∈ ds, Gd n d) → PyData.showableAll ds = true ∧ PyData.depthAll ds ≤ 4 + n ∧ ((PyData.shownAll ds).map (·.length)).sum ≤ ds.length * lim n ∧ (PyData.shownAll ds).length = ds.length
  | [], _ => ⟨rfl, Nat.zero_le _, Nat.zero_le _, rfl⟩
  | d :: ds, h => by
    obtain ⟨h1, h2, h3, h4⟩ := gdAll (ds := ds) fun e he => h e (List.mem_cons_of_mem _ he)
    obtain ⟨g1, g2, g3⟩ := h d List.mem_cons_self
    refine ⟨?_, ?_, ?_, ?_⟩
    · simp only [PyData.showableAll, g1, h1, Bool.and_self]
    · simp only [PyData.depthAll]
      omega
    · simp only [PyData.shownAll, List.map_cons, List.sum_cons, List.length_cons, Nat.succ_mul]
      omega
    · simp only [PyData.shownAll, List.length_cons, h4]
theorem Gd.tup {n : Nat} {ds : List PyData} (h : ∀ d ∈ ds, Gd n d) (hl : ds.length ≤ 3) : Gd (n + 1) (.tuple ds) := by
  obtain ⟨h1, h2, h3, h4⟩ := gdAll h
  refine ⟨?_, ?_, ?_⟩
  · simp only [PyData.showable, h1]
  · simp only [PyData.depth]
    omega
  · simp only [PyData.shown]
    have := tupleText_len_le (PyData.shownAll ds)
    have m : ds.length * lim n ≤ 3 * lim n := Nat.mul_le_mul_right _ hl
    show _ ≤ 3 * lim n + 9
    omega

/-! ### _law_odd -/
theorem lit_some {n : Nat} {e : Expr} (h : (lit n e).isSome = true) : Lit e ((lit n e).getD .none) := lit_ok n e _ (by
  cases q : lit n e with
  | none =>
    rw [q] at h
    cases h
  | some d => rfl)
def litOf (s : Stmt) : Expr := match s with
  | .Assign _ e _ => e
  | _ => .Constant .none 0 ⟨0, 0, 0, 0⟩
def dataOf (i : Nat) : PyData := (lit 60 (litOf ((defBody sOdd).getD i (.Pass ⟨0, 0, 0, 0⟩)))).getD .none
def itemsOf : PyData → List PyData
  | .tuple ds => ds
  | _ => []
def odds : List PyData := itemsOf (dataOf 0) ++ itemsOf (dataOf 1) ++ itemsOf (dataOf 2) ++ [.tuple [.int 1, .int 3]]
theorem odds_good : odds.all gd0 = true := by decide +kernel
theorem tupD {Z : Addr → Prop} {H : Hp} {v : V} {ds : List PyData} (h : Dq Z H v (.tuple ds)) : ∃ t xs, v = .ref t ∧ H t = some (.tup xs) ∧ DqL Z H xs ds := by
  cases h with
  | tup e z h => exact ⟨_, _, rfl, e, h⟩
theorem data_tup0 : dataOf 0 = .tuple (itemsOf (dataOf 0)) := by rfl
theorem data_tup1 : dataOf 1 = .tuple (itemsOf (dataOf 1)) := by rfl
theorem data_tup2 : dataOf 2 = .tuple (itemsOf (dataOf 2)) := by rfl
theorem data_len0 : (itemsOf (dataOf 0)).length = 19 := by decide +kernel
theorem data_len1 : (itemsOf (dataOf 1)).length = 11 := by decide +kernel
theorem data_len2 : (itemsOf (dataOf 2)).length = 9 := by decide +kernel
theorem wl_of {H G : Hp} {a : Addr} (k : Kp (fun _ => False) H G) (h : Wl H a) : Wl G a := by
  obtain ⟨x, y, z, e⟩ := h
  exact ⟨x, y, z, k _ _ (fun z => z) e⟩
theorem mv_of {H G : Hp} {a : Addr} (k : Kp (fun _ => False) H G) (h : Wl H a) : Mv a H G := ⟨k.wk fun _ z => z.elim, wl_of k h⟩
theorem Wl.trk {H : Hp} {a : Addr} (h : Wl H a) : ∀ b, b = a → tracked H b := fun b e n => by
  obtain ⟨x, y, z, q⟩ := h
  rw [e, q] at n
  cases n
theorem ne_nil {α : Type} {xs : List α} {n : Nat} (h : xs.length = n) (p : 0 < n) : xs ≠ [] := fun e => by
  rw [e, List.length_nil] at h
  omega
/-- a new value that may be anything of the odd ones -/
def spOdd : Sp := fun vs H Q _ => ∃ a : Addr, vs = [.ref a] ∧ Wl H a ∧ ∀ (v : V) (d : PyData) (G : Hp), Mv a H G → Dq (tracked H) G v d → Gd 0 d → Q v G
theorem ok_odd {f fO fD : Addr} {fd fdO fdD : FuncData} (F : Fun K "_law_odd" "_law_odd" sOdd f fd) (FO : Fun K "_law_one" "_law_one" sOne fO fdO) (FD : Fun K "_law_draw" "_law_draw" sDraw fD fdD) (gO : mg "_law_one" = some (.ref fO)) (gD : mg "_law_draw" = some (.ref fD)) (bO : L2.Binds K fdO ["well", "some"] []) (bD : L2.Binds K fdD ["well", "few"] [])
    (md : mg "divmod" = none) (mi : mg "int" = none) (ml : mg "len" = none) : FnOk P w K mg base CX0 3 f fd ["well"] spOdd := by
  have GO : FnOk P w K mg base CX0 2 fO fdO ["well", "some"] spOne := ok_one FO FD gD bD md mi ml
  refine F.ok scOdd (fun vs H Q E h => ?_) (fun cdv A outer s H vs Q E hr h => ?_)
  · obtain ⟨a, rfl, _⟩ := h
    rfl
  · obtain ⟨a, rfl, hW, q⟩ := h
    refine ⟨_, pss_cons (ps_set (i := 1) scOdd.nd rfl (.inl rfl) (pe_lit (d := dataOf 0) (lit_some (n := 60) (by decide +kernel)))) (pss_cons (ps_set (i := 2) scOdd.nd rfl (.inl rfl) (pe_lit (d := dataOf 1) (lit_some (n := 60) (by decide +kernel))))
      (pss_cons (ps_set (i := 3) scOdd.nd rfl (.inl rfl) (pe_lit (d := dataOf 2) (lit_some (n := 60) (by decide +kernel))))
      (pss_one (ps_ret (pe_call GO hr (by rfl) gO FO.kp bO .nil pass0 (pa_cons (pv 0) (pa_cons (pe_op op_catT (pe_op op_catT (pe_op op_catT (pv 1) (pv 2)) (pv 3)) (pe_lit (lit_some (n := 60) (by decide +kernel)))) pa_nil))))))), ?_⟩
    intro v1 G1 k1 d1
    intro v2 G2 k2 d2
    intro v3 G3 k3 d3
    rw [data_tup0] at d1
    rw [data_tup1] at d2
    rw [data_tup2] at d3
    have f : ∀ {b : Addr}, False → tracked H b := fun z => z.elim
    obtain ⟨t1, xs1, rfl, e1, l1⟩ := tupD d1
    obtain ⟨t2, xs2, rfl, e2, l2⟩ := tupD d2
    obtain ⟨t3, xs3, rfl, e3, l3⟩ := tupD d3
    have k23 := k2.tr k3
    have n1 : xs1.length = 19 := l1.len.trans data_len0
    have n2 : xs2.length = 11 := l2.len.trans data_len1
    have n3 : xs3.length = 9 := l3.len.trans data_len2
    have big : ∀ {n : Nat}, n ≤ 1000 → n ≤ sizeLine := fun h => by rw [sizeLine_eq]; omega
    refine ⟨.ref a, rfl, .ref t1, rfl, .ref t2, rfl, t1, t2, xs1, xs2, rfl, rfl, .inl (.inl (k23 _ _ (fun z => z) e1)), .inl (.inl (k3 _ _ (fun z => z) e2)), ne_nil n1 (by decide), big (by omega), fun z => absurd z (ne_nil n2 (by decide)), fun _ p np => ?_⟩
    have n4 : (xs1 ++ xs2).length = 30 := by rw [List.length_append]; omega
    refine ⟨.ref t3, rfl, p, t3, _, xs3, rfl, rfl, .inl (.inl upd_same), .inl (.inl (Kp.new (Z := fun _ => False) np _ _ (fun z => z) e3)), ne_nil n4 (by decide), big (by omega), fun z => absurd z (ne_nil n3 (by decide)), fun _ p2 np2 => ?_⟩
    intro v4 G4 k4 d4
    obtain ⟨t4, xs4, rfl, e4, l4⟩ := tupD d4
    have n5 : (xs1 ++ xs2 ++ xs3).length = 39 := by rw [List.length_append]; omega
    have n6 : xs4.length = 1 := l4.len
    refine ⟨p2, t4, _, xs4, rfl, rfl, .inl (.inl (k4 _ _ (fun z => z) upd_same)), .inl (.inl e4), ne_nil n5 (by decide), big (by omega), fun z => absurd z (ne_nil n6 (by decide)), fun _ p3 np3 => ?_⟩
    have k34 : Kp (fun _ => False) G3 G4 := ((Kp.new np).tr (Kp.new np2)).tr k4
    have kA : Kp (fun _ => False) H (upd G4 p3 (.tup (xs1 ++ xs2 ++ xs3 ++ xs4))) := ((k1.tr k23).tr k34).tr (Kp.new np3)
    have n7 : (xs1 ++ xs2 ++ xs3 ++ xs4).length = 40 := by rw [List.length_append]; omega
    have L : DqL (tracked H) (upd G4 p3 (.tup (xs1 ++ xs2 ++ xs3 ++ xs4))) (xs1 ++ xs2 ++ xs3 ++ xs4) odds := by
      have up : ∀ {Z : Addr → Prop} {A B : Hp} {vs : List V} {ds : List PyData}, Kp (fun _ => False) A B → DqL Z A vs ds → DqL Z B vs ds := fun k l => l.kp (k.wk fun _ z => z.elim)
      have wk : ∀ {A : Hp} {vs : List V} {ds : List PyData} {B : Hp}, Kp (fun _ => False) H A → DqL (tracked A) B vs ds → DqL (tracked H) B vs ds := fun k l => l.wk fun b => k.trk b
      refine ((DqL.app (up ((k23.tr k34).tr (Kp.new np3)) l1) ?_).app ?_).app ?_
      · exact up ((k3.tr k34).tr (Kp.new np3)) (wk k1 l2)
      · exact up (k34.tr (Kp.new np3)) (wk (k1.tr k2) l3)
      · exact up (Kp.new np3) (wk (((k1.tr k23).tr (Kp.new np)).tr (Kp.new np2)) l4)
    refine ⟨a, p3, _, rfl, wl_of kA hW, upd_same, by rw [n7]; decide, by rw [n7]; decide, fun i v G hv mv => ?_⟩
    obtain ⟨d, hd, dq⟩ := L.get hv
    refine q v d G ((mv_of kA hW).tr mv) (dq.kp (mv.1.wk hW.trk)) (gd_of ?_)
    exact List.all_eq_true.mp odds_good d (List.mem_of_getElem? hd)
end
end K1

namespace K1
open PySem PySem.Spec PyProof.Rows L2 KL
section
variable {P : Program} {w : World} {K : PySem.W.Frag} {mg : Str → Option Value} {base : Heap}
/-! ### _law_thing -/
/-- a new value of depth n at most -/
def spThing (n : Nat) : Sp := fun vs H Q _ => ∃ a : Addr, vs = [.ref a, .int (n : Int)] ∧ Wl H a ∧ ∀ (v : V) (d : PyData) (G : Hp), Mv a H G → Dq (tracked H) G v d → Gd n d → Q v G
/-- what the draws stand on -/
structure Dr (K : PySem.W.Frag) (mg : Str → Option Value) (fT fO fN fD : Addr) (fdT fdO fdN fdD : FuncData) : Prop where
  T : Fun K "_law_thing" "_law_thing" sThing fT fdT
  O : Fun K "_law_odd" "_law_odd" sOdd fO fdO
  N : Fun K "_law_one" "_law_one" sOne fN fdN
  D : Fun K "_law_draw" "_law_draw" sDraw fD fdD
  gT : mg "_law_thing" = some (.ref fT)
  gO : mg "_law_odd" = some (.ref fO)
  gN : mg "_law_one" = some (.ref fN)
  gD : mg "_law_draw" = some (.ref fD)
  bT : L2.Binds K fdT ["well", "deep"] []
  bO : L2.Binds K fdO ["well"] []
  bN : L2.Binds K fdN ["well", "some"] []
  bD : L2.Binds K fdD ["well", "few"] []
  md : mg "divmod" = none
  mi : mg "int" = none
  ml : mg "len" = none
  mr : mg "range" = none
  mt : mg "tuple" = none
theorem ok_thing {fT fO fN fD : Addr} {fdT fdO fdN fdD : FuncData} (S : Dr K mg fT fO fN fD fdT fdO fdN fdD) : ∀ n : Nat, FnOk P w K mg base CX0 (4 + n) fT fdT ["well", "deep"] (spThing n) := by
  have GD : FnOk P w K mg base CX0 1 fD fdD ["well", "few"] spDraw := ok_draw S.D S.md S.mi
  have GO : FnOk P w K mg base CX0 3 fO fdO ["well"] spOdd := ok_odd S.O S.N S.D S.gN S.gD S.bN S.bD S.md S.mi S.ml
  intro n
  induction n with
  | zero =>
    refine S.T.ok (k := 3) scThing (fun vs H Q E h => ?_) (fun cdv A outer s H vs Q E hr h => ?_)
    · obtain ⟨a, rfl, _⟩ := h
      rfl
    · obtain ⟨a, rfl, hW, q⟩ := h
      refine ⟨_, pss_cons (ps_set (i := 2) scThing.nd rfl (.inl rfl) (pe_call GD (hr.mono (by decide)) (by rfl) S.gD S.D.kp S.bD .nil pass0 (pa_cons (pv 0) (pa_cons pe_int pa_nil))))
        (pss_cons (ps_if (pt_cmpR op_eq (pv 2) pe_int (nomark _)) (pss_one (ps_ret (pe_op op_sub (pe_call GD (hr.mono (by decide)) (by rfl) S.gD S.D.kp S.bD .nil pass0 (pa_cons (pv 0) (pa_cons pe_int pa_nil))) pe_int))) pss_nil)
        (pss_cons (ps_if (PW.pt (pw_or (pt_cmpR op_lt (pv 2) pe_int (nomark _)) (pw_or1 (pt_cmpR op_eq (pv 1) pe_int (nomark _))))) (pss_one (ps_ret (pe_call GO hr (by rfl) S.gO S.O.kp S.bO .nil pass0 (pa_cons (pv 0) pa_nil)))) pss_nil)
        pss_never)), ?_⟩
      refine ⟨.ref a, rfl, a, 5, rfl, hW, by decide, by decide, fun r G r0 r1 mv => ?_⟩
      refine ⟨_, rfl, rfl, _, rfl, ite2 (fun c => ?_) (fun c => ?_)⟩
      · refine ⟨.ref a, rfl, a, 2000001, rfl, mv.2, by decide, by decide, fun r' G' r0' r1' mv' => ⟨r', 1000000, rfl, rfl, ?_⟩⟩
        exact q _ _ G' (mv.tr mv') (.int _) (Gd.int (by omega))
      · have yes : ∀ {A B : Prop}, A → (if true = true then A else B) := fun h => by rw [if_pos rfl]; exact h
        have go : ∀ (B : Prop), spOdd [.ref a] G Q E0 := fun _ => ⟨a, rfl, mv.2, fun v d G' mv' dq gd => q v d G' (mv.tr mv') (dq.wk mv.trk) gd⟩
        refine ⟨_, rfl, r, 4, rfl, rfl, _, rfl, ite2 (fun c2 => ?_) (fun c2 => ?_)⟩
        · exact iteT ⟨.ref a, rfl, go True⟩
        · exact ⟨_, rfl, rfl, _, rfl, iteT ⟨.ref a, rfl, go True⟩⟩
  | succ n ih =>
    refine S.T.ok (k := 4 + n) scThing (fun vs H Q E h => ?_) (fun cdv A outer s H vs Q E hr h => ?_)
    · obtain ⟨a, rfl, _⟩ := h
      rfl
    · obtain ⟨a, rfl, hW, q⟩ := h
      refine ⟨_, pss_cons (ps_set (i := 2) scThing.nd rfl (.inl rfl) (pe_call GD (hr.mono (by omega)) (by rfl) S.gD S.D.kp S.bD .nil pass0 (pa_cons (pv 0) (pa_cons pe_int pa_nil))))
        (pss_cons (ps_if (pt_cmpR op_eq (pv 2) pe_int (nomark _)) (pss_one (ps_ret (pe_op op_sub (pe_call GD (hr.mono (by omega)) (by rfl) S.gD S.D.kp S.bD .nil pass0 (pa_cons (pv 0) (pa_cons pe_int pa_nil))) pe_int))) pss_nil)
        (pss_cons (ps_if (PW.pt (pw_or (pt_cmpR op_lt (pv 2) pe_int (nomark _)) (pw_or1 (pt_cmpR op_eq (pv 1) pe_int (nomark _))))) (pss_one (ps_ret (pe_call GO (hr.mono (by omega)) (by rfl) S.gO S.O.kp S.bO .nil pass0 (pa_cons (pv 0) pa_nil)))) pss_nil)
        (pss_cons (ps_set (i := 3) scThing.nd rfl (.inl rfl) (pe_lst pa_nil))
        (pss_cons (ps_for PassesOwn.never rfl (pi_range1 rfl S.mr (pa_cons (pe_call GD (hr.mono (by omega)) (by rfl) S.gD S.D.kp S.bD .nil pass0 (pa_cons (pv 0) (pa_cons pe_int pa_nil))) pa_nil)) (pg_name (i := 4) scThing.nd rfl (.inl rfl))
          (pss_one (ps_expr (pe_bm PySem.F.plainAttrs_list PySem.F.slot_list_append PySem.F.type_list_append mt_append (pv 3) (pa_cons (pe_call ih hr (by rfl) S.gT S.T.kp S.bT .nil pass0 (pa_cons (pv 0) (pa_cons (pe_op op_sub (pv 1) pe_int) pa_nil))) pa_nil)))))
        (pss_one (ps_ret (pe_callTy call_tuple_of (by rfl) S.mt (by decide +kernel) (pa_cons (pv 3) pa_nil)))))))), ?_⟩
      refine ⟨.ref a, rfl, a, 5, rfl, hW, by decide, by decide, fun r G r0 r1 mv => ?_⟩
      refine ⟨_, rfl, rfl, _, rfl, ite2 (fun c => ?_) (fun c => ?_)⟩
      · refine ⟨.ref a, rfl, a, 2000001, rfl, mv.2, by decide, by decide, fun r' G' r0' r1' mv' => ⟨r', 1000000, rfl, rfl, ?_⟩⟩
        exact q _ _ G' (mv.tr mv') (.int _) (Gd.int (by omega))
      · have odd : spOdd [.ref a] G Q E0 := ⟨a, rfl, mv.2, fun v d G' mv' dq gd => q v d G' (mv.tr mv') (dq.wk mv.trk) gd.of0⟩
        refine ⟨_, rfl, r, 4, rfl, rfl, _, rfl, ite2 (fun c2 => ?_) (fun c2 => ?_)⟩
        · exact iteT ⟨.ref a, rfl, odd⟩
        · refine ⟨_, rfl, rfl, _, rfl, ite2 (fun c3 => ⟨.ref a, rfl, odd⟩) (fun c3 => ?_)⟩
          -- found = []
          refine ⟨Nat.zero_le _, fun o no => ?_⟩
          have mo : Mv a H (upd G o (.lst [])) := mv.tr (Mv.new mv.2 no)
          have ho : ¬ tracked H o := fun t => mv.trk o t no
          refine ⟨.ref a, rfl, a, 4, rfl, mo.2, by decide, by decide, fun m G1 m0 m1 mv1 => ?_⟩
          have nao : a ≠ o := mv.2.ne no
          refine ⟨m, rfl, by omega, by omega, ?_⟩
          have st1 : G1 o = some (.lst []) := mv1.1 o _ (fun e => nao e.symm) upd_same
          refine for_range (lo := 0) (n := m.toNat) (fun i σ G' => ∃ (y : Option V) (xs : List V) (ds : List PyData), σ = [some (.ref a), some (.int ((n + 1 : Nat) : Int)), some (.int r), some (.ref o), y] ∧ Mv a H G' ∧ G' o = some (.lst xs) ∧ xs.length = i ∧
              DqL (fun b => tracked H b ∨ b = o) G' xs ds ∧ ∀ d ∈ ds, Gd n d) ⟨none, [], [], rfl, mo.tr mv1, st1, rfl, .nil, fun d hd => absurd hd List.not_mem_nil⟩ ?_ ?_
          · rintro i σ G' hi ⟨y, xs, ds, rfl, mv2, eo, len, L, gd⟩
            refine ⟨.ref o, rfl, .inl ⟨rfl, _, .inl (.inl eo)⟩, .ref a, rfl, .int ((n + 1 : Nat) : Int), rfl, _, 1, rfl, rfl, a, ?_, mv2.2, fun v d G2 mv3 dq g => ?_⟩
            · show [V.ref a, V.int (((n + 1 : Nat) : Int) - 1)] = [V.ref a, V.int (n : Int)]
              rw [show (((n + 1 : Nat) : Int) - 1) = (n : Int) from by omega]
            have eo2 : G2 o = some (.lst xs) := mv3.1 o _ (fun e => nao e.symm) eo
            refine ⟨o, xs, v, rfl, rfl, eo2, small1000 (by omega), some (.int (0 + (i : Int))), xs ++ [v], ds ++ [d], rfl, ?_, upd_same, by rw [List.length_append, len]; rfl, ?_, ?_⟩
            · refine ⟨fun b u nb e => ?_, ?_⟩
              · have bo : b ≠ o := fun z => ho (z ▸ (fun n0 => by rw [n0] at e; cases e))
                rw [upd_ne bo]
                exact (mv2.tr mv3).1 b u nb e
              · obtain ⟨x, y, z, q⟩ := mv3.2
                exact ⟨x, y, z, by rw [upd_ne nao]; exact q⟩
            · have kZ : Kp (fun b => tracked H b ∨ b = o) G' (upd G2 o (.lst (xs ++ [v]))) := fun b u nb e => by
                rw [upd_ne (fun z => nb (.inr z))]
                exact mv3.1 b u (fun z => nb (.inl (hW.trk b z))) e
              refine (L.kp kZ).app (.cons ?_ .nil)
              refine (dq.wk (Y := fun b => tracked H b ∨ b = o) fun b hb => ?_).kp (Kp.at (.inr rfl))
              rcases hb with t | rfl
              · exact mv2.trk b t
              · intro n0
                rw [n0] at eo
                cases eo
            · intro e he
              rcases List.mem_append.mp he with h1 | h1
              · exact gd e h1
              · rw [List.mem_singleton.mp h1]
                exact g
          · rintro σ G' ⟨y, xs, ds, rfl, mv2, eo, len, L, gd⟩
            refine ⟨.ref o, rfl, o, xs, rfl, .inl ⟨.inl (.inl eo), fun p np => ?_⟩⟩
            have hp : ¬ tracked H p := fun t => mv2.trk p t np
            refine q _ (.tuple ds) _ (mv2.tr (Mv.new mv2.2 np)) (.tup upd_same hp ?_) (Gd.tup gd (by rw [← L.len, len]; omega))
            exact (L.wk fun b t => .inl t).kp (Kp.new np)
end
end K1

namespace K1
open PySem PySem.Spec PyProof.Rows L2 KL
section
variable {P : Program} {w : World} {K : PySem.W.Frag} {mg : Str → Option Value} {base : Heap}
/-! ### _law_well -/
def spWell (K : PySem.W.Frag) : Sp := fun vs H Q _ => ∃ (a : Addr) (ns : List Int) (j : Nat), vs = [.ref a, .int (j : Int)] ∧ SqL K H a (ns.map V.int) ∧ ns.length ≤ 63 ∧ ∀ (p : Addr) (G : Hp), Kp (fun _ => False) H G → H p = none → Wl G p → Q (.ref p) G
theorem ok_well {f : Addr} {fd : FuncData} (F : Fun K "_law_well" "_law_well" sWell f fd) (mi : mg "int" = none) (ml : mg "len" = none) (ma : mg "abs" = none) : FnOk P w K mg base CX0 1 f fd ["script", "lap"] (spWell K) := by
  refine F.ok scWell (fun vs H Q E h => ?_) (fun cdv A outer s H vs Q E hr h => ?_)
  · obtain ⟨a, ns, j, rfl, _⟩ := h
    rfl
  · obtain ⟨a, ns, j, rfl, hS, hl, q⟩ := h
    refine ⟨_, pss_cons (ps_set (i := 2) scWell.nd rfl (.inl rfl) (pe_op op_add pe_int (pe_op op_mul pe_int (pv 1))))
      (pss_cons (ps_for PassesOwn.never rfl (pi_list (pe_slice sl_list (pv 0) po_none (po_some pe_int))) (pg_name (i := 3) scWell.nd rfl (.inl rfl))
        (pss_one (ps_set (i := 2) scWell.nd rfl (.inl rfl) (pe_op op_mod (pe_callTy call_int1 (by rfl) mi (by decide +kernel) (pa_cons (pe_op op_add (pe_op op_add (pe_op op_mul (pv 2) pe_int) (pe_op op_mul (pe_op op_mod (pe_callTy call_int1 (by rfl) mi (by decide +kernel) (pa_cons (pv 3) pa_nil)) pe_int) pe_int)) pe_int) pa_nil)) pe_int))))
      (pss_cons (ps_set (i := 4) scWell.nd rfl (.inl rfl) (pe_ifExp (pt_cmpR op_lt (pv 1) (pe_callB call_len_seq (by rfl) ml PySem.boot_len (pa_cons (pv 0) pa_nil)) (nomark _)) (pe_callTy call_int1 (by rfl) mi (by decide +kernel) (pa_cons (pe_ix ix_list (pv 0) (pv 1) (fun _ _ => rfl)) pa_nil)) pe_int))
      (pss_cons (ps_set (i := 2) scWell.nd rfl (.inl rfl) (pe_op op_mod (pe_callTy call_int1 (by rfl) mi (by decide +kernel) (pa_cons (pe_op op_add (pe_op op_add (pe_op op_mul (pv 2) pe_int) (pe_op op_mul (pe_op op_mod (pe_callTy call_int1 (by rfl) mi (by decide +kernel) (pa_cons (pv 4) pa_nil)) pe_int) pe_int)) pe_int) pa_nil)) pe_int))
      (pss_one (ps_ret (pe_lst (pa_cons (pe_ifExp (PW.pt (pw_or (pt_cmpR op_lt (pv 4) pe_int (nomark _)) (pw_or1 (pt_cmpR op_ge (pv 4) (pe_op op_pow pe_int pe_int) (nomark _))))) (pe_callB call_abs (by rfl) ma (by decide +kernel) (pa_cons (pv 4) pa_nil)) pe_int) (pa_cons (pv 2) (pa_cons pe_int pa_nil))))))))), ?_⟩
    -- mixed = 62001 + 7841 * lap
    refine ⟨_, rfl, 7841, (j : Int), rfl, rfl, .inl ⟨by decide, by decide⟩, _, _, rfl, rfl, ?_⟩
    -- the loop
    refine ⟨.ref a, rfl, 11, rfl, a, ns.map V.int, rfl, hS, fun p np => ?_⟩
    have kp : Kp (fun _ => False) H (upd H p (.lst (cutV (ns.map V.int) none (some 11)))) := Kp.new np
    have hS2 : SqL K (upd H p (.lst (cutV (ns.map V.int) none (some 11)))) a (ns.map V.int) := Same.seq (fun b o e => kp b o (fun z => z) e) hS
    have isInt : ∀ {l : List V} {i : Nat} {x : V}, (∃ u v, l = ((ns.map V.int).drop u).take v) → l[i]? = some x → ∃ c : Int, x = .int c := by
      rintro l i x ⟨u, v, rfl⟩ hx
      obtain ⟨c, _, rfl⟩ := List.mem_map.mp (List.mem_of_mem_drop (List.mem_of_mem_take (List.mem_of_getElem? hx)))
      exact ⟨c, rfl⟩
    refine ⟨p, rfl, ⟨_, .inl (.inl upd_same)⟩, for_list (K := K) (a := p) (xs := cutV (ns.map V.int) none (some 11)) (fun i σ G => ∃ (m : Int) (y : Option V), σ = [some (.ref a), some (.int (j : Int)), some (.int m), y, none] ∧ G = upd H p (.lst (cutV (ns.map V.int) none (some 11))))
      ⟨_, none, rfl, rfl⟩ (fun i σ G _ h => by obtain ⟨m, y, _, rfl⟩ := h; exact .inl (.inl upd_same)) ?_ ?_⟩
    · rintro i x σ G hx ⟨m, y, rfl, rfl⟩
      obtain ⟨c, rfl⟩ := isInt ⟨_, _, rfl⟩ hx
      refine ⟨.int m, rfl, m, 50423, rfl, rfl, .inr ⟨by decide, by decide⟩, .int c, rfl, .inl ⟨c, rfl, c, 2147483423, rfl, rfl, (by show (0 : Int) < 2147483423; decide), _, 9, rfl, rfl, .inr ⟨by decide, by decide⟩, _, _, rfl, rfl, _, 29, rfl, rfl, .inl ⟨_, rfl, _, 2147483423, rfl, rfl, (by show (0 : Int) < 2147483423; decide), ?_⟩⟩⟩
      exact ⟨_, some (.int c), rfl, rfl⟩
    · rintro σ G ⟨m, y, rfl, rfl⟩
      refine ⟨.int (j : Int), rfl, .ref a, rfl, a, _, rfl, .inl hS2, (j : Int), _, rfl, rfl, _, rfl, ite2 (fun c => ?_) (fun c => ?_)⟩
      · have hj : j < ns.length := by
          have c' := of_decide_eq_true c
          rw [List.length_map] at c'
          omega
        refine ⟨.ref a, rfl, .int (j : Int), rfl, a, _, (j : Int), .int ns[j], rfl, rfl, hS2, atI_nat (by rw [List.getElem?_map, List.getElem?_eq_getElem hj]; rfl), .inl ⟨ns[j], rfl, ?_⟩⟩
        refine ⟨.int m, rfl, m, 59, rfl, rfl, .inr ⟨by decide, by decide⟩, .int ns[j], rfl, .inl ⟨ns[j], rfl, ns[j], 2147483423, rfl, rfl, (by show (0 : Int) < 2147483423; decide), _, 30203, rfl, rfl, .inr ⟨by decide, by decide⟩, _, _, rfl, rfl, _, 11, rfl, rfl, .inl ⟨_, rfl, _, 2147483423, rfl, rfl, (by show (0 : Int) < 2147483423; decide), ?_⟩⟩⟩
        have done : ∀ (b c : Int) (p2 : Addr), (upd H p (.lst (cutV (ns.map V.int) none (some 11)))) p2 = none → Q (.ref p2) (upd (upd H p (.lst (cutV (ns.map V.int) none (some 11)))) p2 (.lst [.int b, .int c, .int 0])) := fun b c p2 n2 => q p2 _ (kp.tr (Kp.new n2)) (by
          have e := ne_of_none (upd_same (H := H) (a := p) (o := .lst (cutV (ns.map V.int) none (some 11)))) n2
          rw [upd_ne (Ne.symm e)] at n2
          exact n2) ⟨b, c, 0, upd_same⟩
        refine ⟨.int ns[j], rfl, _, 0, rfl, rfl, _, rfl, ite2 (fun c2 => ?_) (fun c2 => ?_)⟩
        · exact iteT ⟨.int ns[j], rfl, _, rfl, _, rfl, by show 3 ≤ sizeLine; decide, fun p2 n2 => done _ _ p2 n2⟩
        · refine ⟨.int ns[j], rfl, 10, 15, rfl, rfl, ⟨by decide, by decide, by decide⟩, _, _, rfl, rfl, _, rfl, ite2 (fun c3 => ?_) (fun c3 => ?_)⟩
          · exact ⟨.int ns[j], rfl, _, rfl, _, rfl, by show 3 ≤ sizeLine; decide, fun p2 n2 => done _ _ p2 n2⟩
          · exact ⟨_, rfl, by show 3 ≤ sizeLine; decide, fun p2 n2 => done _ _ p2 n2⟩
      · refine ⟨.int m, rfl, m, 59, rfl, rfl, .inr ⟨by decide, by decide⟩, .int 0, rfl, .inl ⟨0, rfl, 0, 2147483423, rfl, rfl, (by show (0 : Int) < 2147483423; decide), _, 30203, rfl, rfl, .inr ⟨by decide, by decide⟩, _, _, rfl, rfl, _, 11, rfl, rfl, .inl ⟨_, rfl, _, 2147483423, rfl, rfl, (by show (0 : Int) < 2147483423; decide), ?_⟩⟩⟩
        have done : ∀ (b c : Int) (p2 : Addr), (upd H p (.lst (cutV (ns.map V.int) none (some 11)))) p2 = none → Q (.ref p2) (upd (upd H p (.lst (cutV (ns.map V.int) none (some 11)))) p2 (.lst [.int b, .int c, .int 0])) := fun b c p2 n2 => q p2 _ (kp.tr (Kp.new n2)) (by
          have e := ne_of_none (upd_same (H := H) (a := p) (o := .lst (cutV (ns.map V.int) none (some 11)))) n2
          rw [upd_ne (Ne.symm e)] at n2
          exact n2) ⟨b, c, 0, upd_same⟩
        refine ⟨.int 0, rfl, _, 0, rfl, rfl, _, rfl, ite2 (fun c2 => ?_) (fun c2 => ?_)⟩
        · exact iteT ⟨.int 0, rfl, _, rfl, _, rfl, by show 3 ≤ sizeLine; decide, fun p2 n2 => done _ _ p2 n2⟩
        · refine ⟨.int 0, rfl, 10, 15, rfl, rfl, ⟨by decide, by decide, by decide⟩, _, _, rfl, rfl, _, rfl, ite2 (fun c3 => ?_) (fun c3 => ?_)⟩
          · exact ⟨.int 0, rfl, _, rfl, _, rfl, by show 3 ≤ sizeLine; decide, fun p2 n2 => done _ _ p2 n2⟩
          · exact ⟨_, rfl, by show 3 ≤ sizeLine; decide, fun p2 n2 => done _ _ p2 n2⟩
end
end K1

namespace K1
open PySem PySem.Spec PyProof.Rows L2 KL
/-! ### the classes of errors, by number -/
def nm : Nat → Str
  | 0 => "InvalidGraph"
  | 1 => "InvalidName"
  | 2 => "InvalidLot"
  | 3 => "InvalidSizes"
  | 4 => "InvalidModel"
  | 5 => "InvalidAsked"
  | 6 => "InvalidFormula"
  | 7 => "TooMany"
  | 8 => "InvalidLine"
  | 9 => "NotWithin"
  | 10 => "InvalidDerivation"
  | 11 => "InvalidWeights"
  | 12 => "NotBetween"
  | 13 => "InvalidTold"
  | 14 => "InvalidTables"
  | 15 => "InvalidHedges"
  | 16 => "NotIdentified"
  | 17 => "Identified"
  | 18 => "NoModel"
  | 19 => "InvalidText"
  | _ => ""
def fld (n : Nat) : Str := if n < 13 then "given" else if n < 16 then "index" else "lot"
/-- a class that keeps one thing -/
structure Ec (K : PySem.W.Frag) (mg : Str → Option Value) (x f : Str) (C fI : Addr) (fd : FuncData) : Prop where
  g : mg x = some (.ref C)
  x : ExcC K C
  o : OexC K C
  i : PySem.W.findIn K (.ref C) "__init__" = some (some (.ref fI))
  t : PySem.W.typeIn K (.ref fI) = some (.type "function")
  no : PySem.W.findIn K (.ref C) f = some none
  ini : ∀ (P : Program) (w : World) (base : Heap), FnOk P w K mg base CX0 1 fI fd ["self", f] (spIni C f)
  bP : L2.Binds K fd ["self", f] []
  bK : ∀ (s : Shared) (y : Addr) (ws : List Value), K.In s.heap → (Value.ref y :: ws).length = (["self", f] : List Str).length → BindsTo s fd ⟨[.ref y], [f].zip ws⟩ ((["self", f] : List Str).zip (.ref y :: ws))
/-- two things exchanged -/
def sw {α : Type} : List α → List α
  | [a, b] => [b, a]
  | _ => []
/-- InvalidText: what it is made with -/
def spIni2 (C : Addr) : Sp := fun vs H Q _ => ∃ (a : Addr) (u v : V), vs = [.ref a, u, v] ∧ H a = some (exo a C none) ∧ ∀ d, H d = none → d ≠ a → Q .non (upd (upd H d (exd d [("column", v), ("line", u)])) a (exo a C (some d)))
structure Et (K : PySem.W.Frag) (mg : Str → Option Value) (C fI : Addr) (fd : FuncData) : Prop where
  g : mg "InvalidText" = some (.ref C)
  x : ExcC K C
  o : OexC K C
  i : PySem.W.findIn K (.ref C) "__init__" = some (some (.ref fI))
  t : PySem.W.typeIn K (.ref fI) = some (.type "function")
  n1 : PySem.W.findIn K (.ref C) "line" = some none
  n2 : PySem.W.findIn K (.ref C) "column" = some none
  ini : ∀ (P : Program) (w : World) (base : Heap), FnOk P w K mg base CX0 1 fI fd ["self", "line", "column"] (spIni2 C)
  bP : L2.Binds K fd ["self", "line", "column"] []
  bK : ∀ (s : Shared) (y : Addr) (ws : List Value), K.In s.heap → (Value.ref y :: (sw ws)).length = (["self", "line", "column"] : List Str).length → BindsTo s fd ⟨[.ref y], (["column", "line"] : List Str).zip ws⟩ ((["self", "line", "column"] : List Str).zip (.ref y :: (sw ws)))
/-- a class without an __init__ -/
structure Ez (K : PySem.W.Frag) (mg : Str → Option Value) (x : Str) (C : Addr) (bmB : List Value) : Prop where
  g : mg x = some (.ref C)
  x : ExcC K C
  q : PySem.W.excIn K C bmB "ValueError.__new__" = true
  k : PySem.W.keepIn K (.ref C) = true
/-- what the top leaves of the classes -/
structure Es (K : PySem.W.Frag) (mg : Str → Option Value) (C fI : Nat → Addr) (fd : Nat → FuncData) (B : Addr) : Prop where
  c : ∀ n, n < 17 → Ec K mg (nm n) (fld n) (C n) (fI n) (fd n)
  t : Et K mg (C 19) (fI 19) (fd 19)
  z17 : Ez K mg "Identified" (C 17) PySem.HandSPX.veTail
  z18 : Ez K mg "NoModel" (C 18) PySem.HandSPX.veTail
  zB : Ez K mg "CausalError" B PySem.HandSPX.veTail
  kit : ∀ n m, n < 20 → m < 20 → PySem.W.kitOne K (.ref (C n)) (.ref (C m)) = some (decide (n = m))
  kitB : ∀ n, n < 20 → PySem.W.kitOne K (.ref (C n)) (.ref B) = some true
  kitBB : ∀ m, m < 20 → PySem.W.kitOne K (.ref B) (.ref (C m)) = some false
  kitV : ∀ n, n < 20 → PySem.W.kitOne K (.ref (C n)) (.type "ValueError") = some true ∧ PySem.W.kitOne K (.ref (C n)) (.type "ArithmeticError") = some false ∧ PySem.W.kitOne K (.ref (C n)) (.type "LookupError") = some false ∧
    PySem.W.kitOne K (.ref (C n)) (.type "TypeError") = some false ∧ PySem.W.kitOne K (.ref (C n)) (.type "RuntimeError") = some false
  kitBV : PySem.W.kitOne K (.ref B) (.type "ValueError") = some true
/-- what an error of class n keeps, made with u and v -/
def fsE (n : Nat) (u v : V) : List (Str × V) := if n < 17 then [(fld n, u)] else if n = 19 then [("column", v), ("line", u)] else []
/-- at e: an error of class n, made with u, v -/
abbrev ErN (C : Nat → Addr) (H : Hp) (e : Addr) (n : Nat) (u v : V) : Prop := Er H e (C n) (fsE n u v)
section
variable {D : Ends} {σ : L2.St} {H : Hp} {k : Int} {n : Nat} {tb rest : TS}
/-- if number == k: .. -/
theorem step (h : σ[0]? = some (some (.int (n : Int)))) (h1 : (n : Int) = k → tb { D with nx := fun σ H => rest D σ H } σ H) (h2 : (n : Int) ≠ k → rest D σ H) : tSeq (tIfS (tTest (tOp rEq (tVar 0) (tC (.int k)))) tb tNext) rest D σ H := by
  refine ⟨_, h, rfl, _, rfl, ite2 (fun c => h1 ?_) (fun c => h2 ?_)⟩
  · exact V.int.inj (of_decide_eq_true c)
  · exact fun e => c (decide_eq_true (congrArg V.int e))
theorem made1 {C : Addr} {f : Str} {u : V} {Q : VK} (q : ∀ (e : Addr) (G : Hp), Kp (fun _ => False) H G → H e = none → Er G e C [(f, u)] → Q (.ref e) G) (a : Addr) (na : H a = none) : spIni C f [.ref a, u] (upd H a (exo a C none)) (fun v G => v = .non ∧ Q (.ref a) G) E0 :=
  ⟨a, u, rfl, upd_same, fun d nd ne => ⟨rfl, q a _ (fun b o _ e => by
    have hb : b ≠ a := ne_of_none e na
    have hd : b ≠ d := ne_of_none (by rw [upd_ne hb]; exact e) nd
    rw [upd_ne hb, upd_ne hd, upd_ne hb]
    exact e) na (.inl ⟨d, upd_same, by rw [upd_ne ne]; exact upd_same⟩)⟩⟩
theorem made2 {C : Addr} {u v : V} {Q : VK} (q : ∀ (e : Addr) (G : Hp), Kp (fun _ => False) H G → H e = none → Er G e C [("column", v), ("line", u)] → Q (.ref e) G) (a : Addr) (na : H a = none) : spIni2 C [.ref a, u, v] (upd H a (exo a C none)) (fun v G => v = .non ∧ Q (.ref a) G) E0 :=
  ⟨a, u, v, rfl, upd_same, fun d nd ne => ⟨rfl, q a _ (fun b o _ e => by
    have hb : b ≠ a := ne_of_none e na
    have hd : b ≠ d := ne_of_none (by rw [upd_ne hb]; exact e) nd
    rw [upd_ne hb, upd_ne hd, upd_ne hb]
    exact e) na (.inl ⟨d, upd_same, by rw [upd_ne ne]; exact upd_same⟩)⟩⟩
theorem made0 {C : Addr} {Q : VK} (q : ∀ (e : Addr) (G : Hp), Kp (fun _ => False) H G → H e = none → Er G e C [] → Q (.ref e) G) (a : Addr) (na : H a = none) : Q (.ref a) (upd H a (ExO (.ref C) a)) := q a _ (Kp.new na) na (.inr ⟨rfl, upd_same⟩)
end
theorem swap2 {zs : List V} {ws : List Value} (r : Vals zs ws) : Vals (sw zs) (sw ws) := by
  cases r with
  | nil => exact .nil
  | cons a r =>
    cases r with
    | nil => exact .nil
    | cons b r =>
      cases r with
      | nil => exact .cons b (.cons a .nil)
      | cons c r => exact .nil
abbrev sPlace : Stmt := topS 28
abbrev sName : Stmt := topS 29
theorem scPlace : FnScope ["number", "one", "two"] ["number", "one", "two"] (defScope sPlace) := ⟨rfl, rfl, rfl, by decide +kernel, rfl, by decide +kernel, by decide +kernel⟩
theorem scName : FnScope ["number", "one", "two"] ["number", "one", "two"] (defScope sName) := ⟨rfl, rfl, rfl, by decide +kernel, rfl, by decide +kernel, by decide +kernel⟩
def spMk (C : Nat → Addr) : Sp := fun vs H Q _ => ∃ (n : Nat) (u v : V), vs = [.int (n : Int), u, v] ∧ n < 20 ∧ ∀ (e : Addr) (G : Hp), Kp (fun _ => False) H G → H e = none → ErN C G e n u v → Q (.ref e) G
section
variable {P : Program} {w : World} {K : PySem.W.Frag} {mg : Str → Option Value} {base : Heap} {C fI : Nat → Addr} {fdE : Nat → FuncData} {B : Addr}
theorem ok_place {f : Addr} {fd : FuncData} (F : Fun K "_law_by_place" "_law_by_place" sPlace f fd) (S : Es K mg C fI fdE B) : FnOk P w K mg base CX0 3 f fd ["number", "one", "two"] (spMk C) := by
  refine F.ok (k := 2) scPlace (fun vs H Q E h => ?_) (fun cdv A outer s H vs Q E hr h => ?_)
  · obtain ⟨n, u, v, rfl, _⟩ := h
    rfl
  · obtain ⟨n, u, v, rfl, hn, q⟩ := h
    refine ⟨_, pss_cons (ps_if (pt_cmpR op_eq (pv 0) pe_int (nomark _)) (pss_one (ps_ret (pe_exo (S.c 0 (by decide)).o (S.c 0 (by decide)).i (S.c 0 (by decide)).t ((S.c 0 (by decide)).ini P w base) hr (S.c 0 (by decide)).bP (by rfl) (S.c 0 (by decide)).g (pa_cons (pv 1) pa_nil)))) pss_nil)
      (pss_cons (ps_if (pt_cmpR op_eq (pv 0) pe_int (nomark _)) (pss_one (ps_ret (pe_exo (S.c 1 (by decide)).o (S.c 1 (by decide)).i (S.c 1 (by decide)).t ((S.c 1 (by decide)).ini P w base) hr (S.c 1 (by decide)).bP (by rfl) (S.c 1 (by decide)).g (pa_cons (pv 1) pa_nil)))) pss_nil)
      (pss_cons (ps_if (pt_cmpR op_eq (pv 0) pe_int (nomark _)) (pss_one (ps_ret (pe_exo (S.c 2 (by decide)).o (S.c 2 (by decide)).i (S.c 2 (by decide)).t ((S.c 2 (by decide)).ini P w base) hr (S.c 2 (by decide)).bP (by rfl) (S.c 2 (by decide)).g (pa_cons (pv 1) pa_nil)))) pss_nil)
      (pss_cons (ps_if (pt_cmpR op_eq (pv 0) pe_int (nomark _)) (pss_one (ps_ret (pe_exo (S.c 3 (by decide)).o (S.c 3 (by decide)).i (S.c 3 (by decide)).t ((S.c 3 (by decide)).ini P w base) hr (S.c 3 (by decide)).bP (by rfl) (S.c 3 (by decide)).g (pa_cons (pv 1) pa_nil)))) pss_nil)
      (pss_cons (ps_if (pt_cmpR op_eq (pv 0) pe_int (nomark _)) (pss_one (ps_ret (pe_exo (S.c 4 (by decide)).o (S.c 4 (by decide)).i (S.c 4 (by decide)).t ((S.c 4 (by decide)).ini P w base) hr (S.c 4 (by decide)).bP (by rfl) (S.c 4 (by decide)).g (pa_cons (pv 1) pa_nil)))) pss_nil)
      (pss_cons (ps_if (pt_cmpR op_eq (pv 0) pe_int (nomark _)) (pss_one (ps_ret (pe_exo (S.c 5 (by decide)).o (S.c 5 (by decide)).i (S.c 5 (by decide)).t ((S.c 5 (by decide)).ini P w base) hr (S.c 5 (by decide)).bP (by rfl) (S.c 5 (by decide)).g (pa_cons (pv 1) pa_nil)))) pss_nil)
      (pss_cons (ps_if (pt_cmpR op_eq (pv 0) pe_int (nomark _)) (pss_one (ps_ret (pe_exo (S.c 6 (by decide)).o (S.c 6 (by decide)).i (S.c 6 (by decide)).t ((S.c 6 (by decide)).ini P w base) hr (S.c 6 (by decide)).bP (by rfl) (S.c 6 (by decide)).g (pa_cons (pv 1) pa_nil)))) pss_nil)
      (pss_cons (ps_if (pt_cmpR op_eq (pv 0) pe_int (nomark _)) (pss_one (ps_ret (pe_exo (S.c 7 (by decide)).o (S.c 7 (by decide)).i (S.c 7 (by decide)).t ((S.c 7 (by decide)).ini P w base) hr (S.c 7 (by decide)).bP (by rfl) (S.c 7 (by decide)).g (pa_cons (pv 1) pa_nil)))) pss_nil)
      (pss_cons (ps_if (pt_cmpR op_eq (pv 0) pe_int (nomark _)) (pss_one (ps_ret (pe_exo (S.c 8 (by decide)).o (S.c 8 (by decide)).i (S.c 8 (by decide)).t ((S.c 8 (by decide)).ini P w base) hr (S.c 8 (by decide)).bP (by rfl) (S.c 8 (by decide)).g (pa_cons (pv 1) pa_nil)))) pss_nil)
      (pss_cons (ps_if (pt_cmpR op_eq (pv 0) pe_int (nomark _)) (pss_one (ps_ret (pe_exo (S.c 9 (by decide)).o (S.c 9 (by decide)).i (S.c 9 (by decide)).t ((S.c 9 (by decide)).ini P w base) hr (S.c 9 (by decide)).bP (by rfl) (S.c 9 (by decide)).g (pa_cons (pv 1) pa_nil)))) pss_nil)
      (pss_cons (ps_if (pt_cmpR op_eq (pv 0) pe_int (nomark _)) (pss_one (ps_ret (pe_exo (S.c 10 (by decide)).o (S.c 10 (by decide)).i (S.c 10 (by decide)).t ((S.c 10 (by decide)).ini P w base) hr (S.c 10 (by decide)).bP (by rfl) (S.c 10 (by decide)).g (pa_cons (pv 1) pa_nil)))) pss_nil)
      (pss_cons (ps_if (pt_cmpR op_eq (pv 0) pe_int (nomark _)) (pss_one (ps_ret (pe_exo (S.c 11 (by decide)).o (S.c 11 (by decide)).i (S.c 11 (by decide)).t ((S.c 11 (by decide)).ini P w base) hr (S.c 11 (by decide)).bP (by rfl) (S.c 11 (by decide)).g (pa_cons (pv 1) pa_nil)))) pss_nil)
      (pss_cons (ps_if (pt_cmpR op_eq (pv 0) pe_int (nomark _)) (pss_one (ps_ret (pe_exo (S.c 12 (by decide)).o (S.c 12 (by decide)).i (S.c 12 (by decide)).t ((S.c 12 (by decide)).ini P w base) hr (S.c 12 (by decide)).bP (by rfl) (S.c 12 (by decide)).g (pa_cons (pv 1) pa_nil)))) pss_nil)
      (pss_cons (ps_if (pt_cmpR op_eq (pv 0) pe_int (nomark _)) (pss_one (ps_ret (pe_exo (S.c 13 (by decide)).o (S.c 13 (by decide)).i (S.c 13 (by decide)).t ((S.c 13 (by decide)).ini P w base) hr (S.c 13 (by decide)).bP (by rfl) (S.c 13 (by decide)).g (pa_cons (pv 1) pa_nil)))) pss_nil)
      (pss_cons (ps_if (pt_cmpR op_eq (pv 0) pe_int (nomark _)) (pss_one (ps_ret (pe_exo (S.c 14 (by decide)).o (S.c 14 (by decide)).i (S.c 14 (by decide)).t ((S.c 14 (by decide)).ini P w base) hr (S.c 14 (by decide)).bP (by rfl) (S.c 14 (by decide)).g (pa_cons (pv 1) pa_nil)))) pss_nil)
      (pss_cons (ps_if (pt_cmpR op_eq (pv 0) pe_int (nomark _)) (pss_one (ps_ret (pe_exo (S.c 15 (by decide)).o (S.c 15 (by decide)).i (S.c 15 (by decide)).t ((S.c 15 (by decide)).ini P w base) hr (S.c 15 (by decide)).bP (by rfl) (S.c 15 (by decide)).g (pa_cons (pv 1) pa_nil)))) pss_nil)
      (pss_cons (ps_if (pt_cmpR op_eq (pv 0) pe_int (nomark _)) (pss_one (ps_ret (pe_exo (S.c 16 (by decide)).o (S.c 16 (by decide)).i (S.c 16 (by decide)).t ((S.c 16 (by decide)).ini P w base) hr (S.c 16 (by decide)).bP (by rfl) (S.c 16 (by decide)).g (pa_cons (pv 1) pa_nil)))) pss_nil)
      (pss_cons (ps_if (pt_cmpR op_eq (pv 0) pe_int (nomark _)) (pss_one (ps_ret (pe_ex0 PySem.F.excBase_ValueError S.z17.q S.z17.g S.z17.k (by rfl)))) pss_nil)
      (pss_cons (ps_if (pt_cmpR op_eq (pv 0) pe_int (nomark _)) (pss_one (ps_ret (pe_ex0 PySem.F.excBase_ValueError S.z18.q S.z18.g S.z18.k (by rfl)))) pss_nil)
      (pss_one (ps_ret (pe_exo S.t.o S.t.i S.t.t (S.t.ini P w base) hr S.t.bP (by rfl) S.t.g (pa_cons (pv 1) (pa_cons (pv 2) pa_nil))))))))))))))))))))))), ?_⟩
    have at1 : ∀ {k : Nat}, k < 17 → (n : Int) = (k : Int) → ∀ (e : Addr) (G : Hp), Kp (fun _ => False) H G → H e = none → Er G e (C k) [(fld k, u)] → Q (.ref e) G := fun {k} hk e a G kp na er => q a G kp na (by
      obtain rfl : n = k := by omega
      show Er G a (C n) (fsE n u v)
      rw [show fsE n u v = [(fld n, u)] from if_pos hk]
      exact er)
    refine step rfl (fun e => ⟨u, rfl, by show 1 ≤ 1000; decide, made1 (at1 (k := 0) (by decide) e)⟩) (fun ne0 => ?_)
    refine step rfl (fun e => ⟨u, rfl, by show 1 ≤ 1000; decide, made1 (at1 (k := 1) (by decide) e)⟩) (fun ne1 => ?_)
    refine step rfl (fun e => ⟨u, rfl, by show 1 ≤ 1000; decide, made1 (at1 (k := 2) (by decide) e)⟩) (fun ne2 => ?_)
    refine step rfl (fun e => ⟨u, rfl, by show 1 ≤ 1000; decide, made1 (at1 (k := 3) (by decide) e)⟩) (fun ne3 => ?_)
    refine step rfl (fun e => ⟨u, rfl, by show 1 ≤ 1000; decide, made1 (at1 (k := 4) (by decide) e)⟩) (fun ne4 => ?_)
    refine step rfl (fun e => ⟨u, rfl, by show 1 ≤ 1000; decide, made1 (at1 (k := 5) (by decide) e)⟩) (fun ne5 => ?_)
    refine step rfl (fun e => ⟨u, rfl, by show 1 ≤ 1000; decide, made1 (at1 (k := 6) (by decide) e)⟩) (fun ne6 => ?_)
    refine step rfl (fun e => ⟨u, rfl, by show 1 ≤ 1000; decide, made1 (at1 (k := 7) (by decide) e)⟩) (fun ne7 => ?_)
    refine step rfl (fun e => ⟨u, rfl, by show 1 ≤ 1000; decide, made1 (at1 (k := 8) (by decide) e)⟩) (fun ne8 => ?_)
    refine step rfl (fun e => ⟨u, rfl, by show 1 ≤ 1000; decide, made1 (at1 (k := 9) (by decide) e)⟩) (fun ne9 => ?_)
    refine step rfl (fun e => ⟨u, rfl, by show 1 ≤ 1000; decide, made1 (at1 (k := 10) (by decide) e)⟩) (fun ne10 => ?_)
    refine step rfl (fun e => ⟨u, rfl, by show 1 ≤ 1000; decide, made1 (at1 (k := 11) (by decide) e)⟩) (fun ne11 => ?_)
    refine step rfl (fun e => ⟨u, rfl, by show 1 ≤ 1000; decide, made1 (at1 (k := 12) (by decide) e)⟩) (fun ne12 => ?_)
    refine step rfl (fun e => ⟨u, rfl, by show 1 ≤ 1000; decide, made1 (at1 (k := 13) (by decide) e)⟩) (fun ne13 => ?_)
    refine step rfl (fun e => ⟨u, rfl, by show 1 ≤ 1000; decide, made1 (at1 (k := 14) (by decide) e)⟩) (fun ne14 => ?_)
    refine step rfl (fun e => ⟨u, rfl, by show 1 ≤ 1000; decide, made1 (at1 (k := 15) (by decide) e)⟩) (fun ne15 => ?_)
    refine step rfl (fun e => ⟨u, rfl, by show 1 ≤ 1000; decide, made1 (at1 (k := 16) (by decide) e)⟩) (fun ne16 => ?_)
    refine step rfl (fun e => made0 fun a G kp na er => q a G kp na (by
      obtain rfl : n = 17 := by omega
      exact er)) (fun ne17 => ?_)
    refine step rfl (fun e => made0 fun a G kp na er => q a G kp na (by
      obtain rfl : n = 18 := by omega
      exact er)) (fun ne18 => ?_)
    exact ⟨u, rfl, v, rfl, by show 2 ≤ 1000; decide, made2 fun a G kp na er => q a G kp na (by
      obtain rfl : n = 19 := by omega
      exact er)⟩
theorem ok_name {f : Addr} {fd : FuncData} (F : Fun K "_law_by_name" "_law_by_name" sName f fd) (S : Es K mg C fI fdE B) : FnOk P w K mg base CX0 3 f fd ["number", "one", "two"] (spMk C) := by
  refine F.ok (k := 2) scName (fun vs H Q E h => ?_) (fun cdv A outer s H vs Q E hr h => ?_)
  · obtain ⟨n, u, v, rfl, _⟩ := h
    rfl
  · obtain ⟨n, u, v, rfl, hn, q⟩ := h
    refine ⟨_, pss_cons (ps_if (pt_cmpR op_eq (pv 0) pe_int (nomark _)) (pss_one (ps_ret (pe_exoK (g := fun ws => ws) (gV := fun vs => vs) (S.c 0 (by decide)).o (S.c 0 (by decide)).i (S.c 0 (by decide)).t ((S.c 0 (by decide)).ini P w base) hr (S.c 0 (by decide)).bK (fun r => r) (by rfl) (S.c 0 (by decide)).g (pk_cons (pv 1) pk_nil)))) pss_nil)
      (pss_cons (ps_if (pt_cmpR op_eq (pv 0) pe_int (nomark _)) (pss_one (ps_ret (pe_exoK (g := fun ws => ws) (gV := fun vs => vs) (S.c 1 (by decide)).o (S.c 1 (by decide)).i (S.c 1 (by decide)).t ((S.c 1 (by decide)).ini P w base) hr (S.c 1 (by decide)).bK (fun r => r) (by rfl) (S.c 1 (by decide)).g (pk_cons (pv 1) pk_nil)))) pss_nil)
      (pss_cons (ps_if (pt_cmpR op_eq (pv 0) pe_int (nomark _)) (pss_one (ps_ret (pe_exoK (g := fun ws => ws) (gV := fun vs => vs) (S.c 2 (by decide)).o (S.c 2 (by decide)).i (S.c 2 (by decide)).t ((S.c 2 (by decide)).ini P w base) hr (S.c 2 (by decide)).bK (fun r => r) (by rfl) (S.c 2 (by decide)).g (pk_cons (pv 1) pk_nil)))) pss_nil)
      (pss_cons (ps_if (pt_cmpR op_eq (pv 0) pe_int (nomark _)) (pss_one (ps_ret (pe_exoK (g := fun ws => ws) (gV := fun vs => vs) (S.c 3 (by decide)).o (S.c 3 (by decide)).i (S.c 3 (by decide)).t ((S.c 3 (by decide)).ini P w base) hr (S.c 3 (by decide)).bK (fun r => r) (by rfl) (S.c 3 (by decide)).g (pk_cons (pv 1) pk_nil)))) pss_nil)
      (pss_cons (ps_if (pt_cmpR op_eq (pv 0) pe_int (nomark _)) (pss_one (ps_ret (pe_exoK (g := fun ws => ws) (gV := fun vs => vs) (S.c 4 (by decide)).o (S.c 4 (by decide)).i (S.c 4 (by decide)).t ((S.c 4 (by decide)).ini P w base) hr (S.c 4 (by decide)).bK (fun r => r) (by rfl) (S.c 4 (by decide)).g (pk_cons (pv 1) pk_nil)))) pss_nil)
      (pss_cons (ps_if (pt_cmpR op_eq (pv 0) pe_int (nomark _)) (pss_one (ps_ret (pe_exoK (g := fun ws => ws) (gV := fun vs => vs) (S.c 5 (by decide)).o (S.c 5 (by decide)).i (S.c 5 (by decide)).t ((S.c 5 (by decide)).ini P w base) hr (S.c 5 (by decide)).bK (fun r => r) (by rfl) (S.c 5 (by decide)).g (pk_cons (pv 1) pk_nil)))) pss_nil)
      (pss_cons (ps_if (pt_cmpR op_eq (pv 0) pe_int (nomark _)) (pss_one (ps_ret (pe_exoK (g := fun ws => ws) (gV := fun vs => vs) (S.c 6 (by decide)).o (S.c 6 (by decide)).i (S.c 6 (by decide)).t ((S.c 6 (by decide)).ini P w base) hr (S.c 6 (by decide)).bK (fun r => r) (by rfl) (S.c 6 (by decide)).g (pk_cons (pv 1) pk_nil)))) pss_nil)
      (pss_cons (ps_if (pt_cmpR op_eq (pv 0) pe_int (nomark _)) (pss_one (ps_ret (pe_exoK (g := fun ws => ws) (gV := fun vs => vs) (S.c 7 (by decide)).o (S.c 7 (by decide)).i (S.c 7 (by decide)).t ((S.c 7 (by decide)).ini P w base) hr (S.c 7 (by decide)).bK (fun r => r) (by rfl) (S.c 7 (by decide)).g (pk_cons (pv 1) pk_nil)))) pss_nil)
      (pss_cons (ps_if (pt_cmpR op_eq (pv 0) pe_int (nomark _)) (pss_one (ps_ret (pe_exoK (g := fun ws => ws) (gV := fun vs => vs) (S.c 8 (by decide)).o (S.c 8 (by decide)).i (S.c 8 (by decide)).t ((S.c 8 (by decide)).ini P w base) hr (S.c 8 (by decide)).bK (fun r => r) (by rfl) (S.c 8 (by decide)).g (pk_cons (pv 1) pk_nil)))) pss_nil)
      (pss_cons (ps_if (pt_cmpR op_eq (pv 0) pe_int (nomark _)) (pss_one (ps_ret (pe_exoK (g := fun ws => ws) (gV := fun vs => vs) (S.c 9 (by decide)).o (S.c 9 (by decide)).i (S.c 9 (by decide)).t ((S.c 9 (by decide)).ini P w base) hr (S.c 9 (by decide)).bK (fun r => r) (by rfl) (S.c 9 (by decide)).g (pk_cons (pv 1) pk_nil)))) pss_nil)
      (pss_cons (ps_if (pt_cmpR op_eq (pv 0) pe_int (nomark _)) (pss_one (ps_ret (pe_exoK (g := fun ws => ws) (gV := fun vs => vs) (S.c 10 (by decide)).o (S.c 10 (by decide)).i (S.c 10 (by decide)).t ((S.c 10 (by decide)).ini P w base) hr (S.c 10 (by decide)).bK (fun r => r) (by rfl) (S.c 10 (by decide)).g (pk_cons (pv 1) pk_nil)))) pss_nil)
      (pss_cons (ps_if (pt_cmpR op_eq (pv 0) pe_int (nomark _)) (pss_one (ps_ret (pe_exoK (g := fun ws => ws) (gV := fun vs => vs) (S.c 11 (by decide)).o (S.c 11 (by decide)).i (S.c 11 (by decide)).t ((S.c 11 (by decide)).ini P w base) hr (S.c 11 (by decide)).bK (fun r => r) (by rfl) (S.c 11 (by decide)).g (pk_cons (pv 1) pk_nil)))) pss_nil)
      (pss_cons (ps_if (pt_cmpR op_eq (pv 0) pe_int (nomark _)) (pss_one (ps_ret (pe_exoK (g := fun ws => ws) (gV := fun vs => vs) (S.c 12 (by decide)).o (S.c 12 (by decide)).i (S.c 12 (by decide)).t ((S.c 12 (by decide)).ini P w base) hr (S.c 12 (by decide)).bK (fun r => r) (by rfl) (S.c 12 (by decide)).g (pk_cons (pv 1) pk_nil)))) pss_nil)
      (pss_cons (ps_if (pt_cmpR op_eq (pv 0) pe_int (nomark _)) (pss_one (ps_ret (pe_exoK (g := fun ws => ws) (gV := fun vs => vs) (S.c 13 (by decide)).o (S.c 13 (by decide)).i (S.c 13 (by decide)).t ((S.c 13 (by decide)).ini P w base) hr (S.c 13 (by decide)).bK (fun r => r) (by rfl) (S.c 13 (by decide)).g (pk_cons (pv 1) pk_nil)))) pss_nil)
      (pss_cons (ps_if (pt_cmpR op_eq (pv 0) pe_int (nomark _)) (pss_one (ps_ret (pe_exoK (g := fun ws => ws) (gV := fun vs => vs) (S.c 14 (by decide)).o (S.c 14 (by decide)).i (S.c 14 (by decide)).t ((S.c 14 (by decide)).ini P w base) hr (S.c 14 (by decide)).bK (fun r => r) (by rfl) (S.c 14 (by decide)).g (pk_cons (pv 1) pk_nil)))) pss_nil)
      (pss_cons (ps_if (pt_cmpR op_eq (pv 0) pe_int (nomark _)) (pss_one (ps_ret (pe_exoK (g := fun ws => ws) (gV := fun vs => vs) (S.c 15 (by decide)).o (S.c 15 (by decide)).i (S.c 15 (by decide)).t ((S.c 15 (by decide)).ini P w base) hr (S.c 15 (by decide)).bK (fun r => r) (by rfl) (S.c 15 (by decide)).g (pk_cons (pv 1) pk_nil)))) pss_nil)
      (pss_cons (ps_if (pt_cmpR op_eq (pv 0) pe_int (nomark _)) (pss_one (ps_ret (pe_exoK (g := fun ws => ws) (gV := fun vs => vs) (S.c 16 (by decide)).o (S.c 16 (by decide)).i (S.c 16 (by decide)).t ((S.c 16 (by decide)).ini P w base) hr (S.c 16 (by decide)).bK (fun r => r) (by rfl) (S.c 16 (by decide)).g (pk_cons (pv 1) pk_nil)))) pss_nil)
      (pss_cons (ps_if (pt_cmpR op_eq (pv 0) pe_int (nomark _)) (pss_one (ps_ret (pe_ex0 PySem.F.excBase_ValueError S.z17.q S.z17.g S.z17.k (by rfl)))) pss_nil)
      (pss_cons (ps_if (pt_cmpR op_eq (pv 0) pe_int (nomark _)) (pss_one (ps_ret (pe_ex0 PySem.F.excBase_ValueError S.z18.q S.z18.g S.z18.k (by rfl)))) pss_nil)
      (pss_one (ps_ret (pe_exoK (g := sw) (gV := sw) S.t.o S.t.i S.t.t (S.t.ini P w base) hr S.t.bK (fun r => swap2 r) (by rfl) S.t.g (pk_cons (pv 2) (pk_cons (pv 1) pk_nil))))))))))))))))))))))), ?_⟩
    have at1 : ∀ {k : Nat}, k < 17 → (n : Int) = (k : Int) → ∀ (e : Addr) (G : Hp), Kp (fun _ => False) H G → H e = none → Er G e (C k) [(fld k, u)] → Q (.ref e) G := fun {k} hk e a G kp na er => q a G kp na (by
      obtain rfl : n = k := by omega
      show Er G a (C n) (fsE n u v)
      rw [show fsE n u v = [(fld n, u)] from if_pos hk]
      exact er)
    refine step rfl (fun e => ⟨u, rfl, by show 1 ≤ 1000; decide, made1 (at1 (k := 0) (by decide) e)⟩) (fun ne0 => ?_)
    refine step rfl (fun e => ⟨u, rfl, by show 1 ≤ 1000; decide, made1 (at1 (k := 1) (by decide) e)⟩) (fun ne1 => ?_)
    refine step rfl (fun e => ⟨u, rfl, by show 1 ≤ 1000; decide, made1 (at1 (k := 2) (by decide) e)⟩) (fun ne2 => ?_)
    refine step rfl (fun e => ⟨u, rfl, by show 1 ≤ 1000; decide, made1 (at1 (k := 3) (by decide) e)⟩) (fun ne3 => ?_)
    refine step rfl (fun e => ⟨u, rfl, by show 1 ≤ 1000; decide, made1 (at1 (k := 4) (by decide) e)⟩) (fun ne4 => ?_)
    refine step rfl (fun e => ⟨u, rfl, by show 1 ≤ 1000; decide, made1 (at1 (k := 5) (by decide) e)⟩) (fun ne5 => ?_)
    refine step rfl (fun e => ⟨u, rfl, by show 1 ≤ 1000; decide, made1 (at1 (k := 6) (by decide) e)⟩) (fun ne6 => ?_)
    refine step rfl (fun e => ⟨u, rfl, by show 1 ≤ 1000; decide, made1 (at1 (k := 7) (by decide) e)⟩) (fun ne7 => ?_)
    refine step rfl (fun e => ⟨u, rfl, by show 1 ≤ 1000; decide, made1 (at1 (k := 8) (by decide) e)⟩) (fun ne8 => ?_)
    refine step rfl (fun e => ⟨u, rfl, by show 1 ≤ 1000; decide, made1 (at1 (k := 9) (by decide) e)⟩) (fun ne9 => ?_)
    refine step rfl (fun e => ⟨u, rfl, by show 1 ≤ 1000; decide, made1 (at1 (k := 10) (by decide) e)⟩) (fun ne10 => ?_)
    refine step rfl (fun e => ⟨u, rfl, by show 1 ≤ 1000; decide, made1 (at1 (k := 11) (by decide) e)⟩) (fun ne11 => ?_)
    refine step rfl (fun e => ⟨u, rfl, by show 1 ≤ 1000; decide, made1 (at1 (k := 12) (by decide) e)⟩) (fun ne12 => ?_)
    refine step rfl (fun e => ⟨u, rfl, by show 1 ≤ 1000; decide, made1 (at1 (k := 13) (by decide) e)⟩) (fun ne13 => ?_)
    refine step rfl (fun e => ⟨u, rfl, by show 1 ≤ 1000; decide, made1 (at1 (k := 14) (by decide) e)⟩) (fun ne14 => ?_)
    refine step rfl (fun e => ⟨u, rfl, by show 1 ≤ 1000; decide, made1 (at1 (k := 15) (by decide) e)⟩) (fun ne15 => ?_)
    refine step rfl (fun e => ⟨u, rfl, by show 1 ≤ 1000; decide, made1 (at1 (k := 16) (by decide) e)⟩) (fun ne16 => ?_)
    refine step rfl (fun e => made0 fun a G kp na er => q a G kp na (by
      obtain rfl : n = 17 := by omega
      exact er)) (fun ne17 => ?_)
    refine step rfl (fun e => made0 fun a G kp na er => q a G kp na (by
      obtain rfl : n = 18 := by omega
      exact er)) (fun ne18 => ?_)
    exact ⟨v, rfl, u, rfl, by show 2 ≤ 1000; decide, made2 fun a G kp na er => q a G kp na (by
      obtain rfl : n = 19 := by omega
      exact er)⟩
end
end K1

namespace K1
open PySem PySem.Spec PyProof.Rows L2 KL
theorem rr (a : Addr) : RelV (.ref a) (Value.ref a) := rfl
theorem rt (n : String) : RelV (.ty n) (Value.type n) := rfl
/-- names that no one has bound -/
structure Nb (mg : Str → Option Value) : Prop where
  isi : mg "isinstance" = none
  ve : mg "ValueError" = none
  ae : mg "ArithmeticError" = none
  le : mg "LookupError" = none
  te : mg "TypeError" = none
  re : mg "RuntimeError" = none
  rng : mg "range" = none
  rep : mg "repr" = none
  zip : mg "zip" = none
  all : mg "all" = none
  max : mg "max" = none
  min : mg "min" = none
  len : mg "len" = none
  int : mg "int" = none
abbrev sKept : Stmt := topS 30
abbrev sClasses : Stmt := topS 31
abbrev sIsOf : Stmt := topS 32
abbrev sDue : Stmt := topS 33
theorem scKept : FnScope ["number", "error"] ["number", "error"] (defScope sKept) := ⟨rfl, rfl, rfl, by decide +kernel, rfl, by decide +kernel, by decide +kernel⟩
theorem scClasses : FnScope ["error", "found"] ["error"] (defScope sClasses) := ⟨rfl, rfl, rfl, by decide +kernel, rfl, by decide +kernel, by decide +kernel⟩
theorem scIsOf : FnScope ["number", "error", "at"] ["number", "error"] (defScope sIsOf) := ⟨rfl, rfl, rfl, by decide +kernel, rfl, by decide +kernel, by decide +kernel⟩
theorem scDue : FnScope ["number", "one", "two"] ["number", "one", "two"] (defScope sDue) := ⟨rfl, rfl, rfl, by decide +kernel, rfl, by decide +kernel, by decide +kernel⟩
def kept (n : Nat) (u v : V) : List V := if n < 17 then [u] else if n < 19 then [] else [u, v]
section
variable {P : Program} {w : World} {K : PySem.W.Frag} {mg : Str → Option Value} {base : Heap} {C fI : Nat → Addr} {fdE : Nat → FuncData} {B : Addr}
/-! ### _law_due -/
def spDue : Sp := fun vs H Q _ => ∃ (n : Nat) (u v : V), vs = [.int (n : Int), u, v] ∧ n < 20 ∧ ∀ (p : Addr) (G : Hp), Kp (fun _ => False) H G → H p = none → p ≠ sysModules → G p = some (.lst (kept n u v)) → Q (.ref p) G
theorem ok_due {f : Addr} {fd : FuncData} (F : Fun K "_law_due" "_law_due" sDue f fd) : FnOk P w K mg base CX0 1 f fd ["number", "one", "two"] spDue := by
  refine F.ok scDue (fun vs H Q E h => ?_) (fun cdv A outer s H vs Q E hr h => ?_)
  · obtain ⟨n, u, v, rfl, _⟩ := h
    rfl
  · obtain ⟨n, u, v, rfl, hn, q⟩ := h
    refine ⟨_, pss_one (ps_ret (pe_ifExp (pt_cmpR op_lt (pv 0) pe_int (nomark _)) (pe_lstM (pa_cons (pv 1) pa_nil)) (pe_ifExp (pt_cmpR op_lt (pv 0) pe_int (nomark _)) (pe_lstM pa_nil) (pe_lstM (pa_cons (pv 1) (pa_cons (pv 2) pa_nil)))))), ?_⟩
    have go : ∀ {l : List V}, kept n u v = l → ∀ p, H p = none → p ≠ sysModules → Q (.ref p) (upd H p (.lst l)) := fun e p np ms => q p _ (Kp.new np) np ms (by rw [e]; exact upd_same)
    refine ⟨_, rfl, n, 17, rfl, rfl, _, rfl, ite2 (fun c => ?_) (fun c => ?_)⟩
    · exact ⟨u, rfl, by show 1 ≤ sizeLine; decide, go (if_pos (by have := of_decide_eq_true c; omega))⟩
    · have c1 : ¬ n < 17 := fun z => c (decide_eq_true (by omega))
      refine ⟨_, rfl, n, 19, rfl, rfl, _, rfl, ite2 (fun c2 => ?_) (fun c2 => ?_)⟩
      · exact ⟨Nat.zero_le _, go ((if_neg c1).trans (if_pos (by have := of_decide_eq_true c2; omega)))⟩
      · have c3 : ¬ n < 19 := fun z => c2 (decide_eq_true (by omega))
        exact ⟨u, rfl, v, rfl, by show 2 ≤ sizeLine; decide, go ((if_neg c1).trans (if_neg c3))⟩
/-! ### _law_kept -/
def spKept (C : Nat → Addr) : Sp := fun vs H Q _ => ∃ (n : Nat) (e : Addr) (u v : V), vs = [.int (n : Int), .ref e] ∧ n < 20 ∧ ErN C H e n u v ∧ ∀ (p : Addr) (G : Hp), Kp (fun _ => False) H G → H p = none → p ≠ sysModules → G p = some (.lst (kept n u v)) → Q (.ref p) G
theorem ok_kept {f : Addr} {fd : FuncData} (F : Fun K "_law_kept" "_law_kept" sKept f fd) (S : Es K mg C fI fdE B) : FnOk P w K mg base CX0 1 f fd ["number", "error"] (spKept C) := by
  refine F.ok scKept (fun vs H Q E h => ?_) (fun cdv A outer s H vs Q E hr h => ?_)
  · obtain ⟨n, e, u, v, rfl, _⟩ := h
    rfl
  · obtain ⟨n, e, u, v, rfl, hn, er, q⟩ := h
    refine ⟨_, pss_cons (ps_if (pt_cmpR op_lt (pv 0) pe_int (nomark _)) (pss_one (ps_ret (pe_lstM (pa_cons (pe_ef (pv 1)) pa_nil)))) pss_nil)
      (pss_cons (ps_if (pt_cmpR op_lt (pv 0) pe_int (nomark _)) (pss_one (ps_ret (pe_lstM (pa_cons (pe_ef (pv 1)) pa_nil)))) pss_nil)
      (pss_cons (ps_if (pt_cmpR op_eq (pv 0) pe_int (nomark _)) (pss_one (ps_ret (pe_lstM (pa_cons (pe_ef (pv 1)) pa_nil)))) pss_nil)
      (pss_one (ps_ret (pe_ifExp (pt_cmpR op_lt (pv 0) pe_int (nomark _)) (pe_lstM pa_nil) (pe_lstM (pa_cons (pe_ef (pv 1)) (pa_cons (pe_ef (pv 1)) pa_nil)))))))), ?_⟩
    have go : ∀ {l : List V}, kept n u v = l → ∀ p, H p = none → p ≠ sysModules → Q (.ref p) (upd H p (.lst l)) := fun e p np ms => q p _ (Kp.new np) np ms (by rw [e]; exact upd_same)
    have fs : n < 17 → fsE n u v = [(fld n, u)] := fun h => if_pos h
    have look : ∀ {f : Str} {u : V}, List.lookup f [(f, u)] = some u := fun {f u} => by simp [List.lookup]
    have one : ∀ {f : Str}, n < 17 → fld n = f → ∃ fs, Er H e (C n) fs ∧ fs.lookup f = some u := fun h z => ⟨_, er, by rw [fs h, z]; exact look⟩
    have no : ∀ {f : Str} (h : n < 17), fld n = f → PySem.W.findIn K (.ref (C n)) f = some none := fun h z => z ▸ (S.c n h).no
    have k1 : n < 17 → kept n u v = [u] := fun h => if_pos h
    have c0 : ∀ {k : Int}, decide ((n : Int) < k) = true → (n : Int) < k := fun h => of_decide_eq_true h
    refine ⟨_, rfl, n, 13, rfl, rfl, _, rfl, ite2 (fun c => ?_) (fun c => ?_)⟩
    · have h : n < 13 := by have := c0 c; omega
      obtain ⟨l, e1, e2⟩ := one (f := "given") (by omega) (if_pos h)
      exact ⟨.ref e, rfl, e, C n, l, u, rfl, (S.c n (by omega)).x, no (by omega) (if_pos h), e1, e2, by show 1 ≤ sizeLine; decide, go (k1 (by omega))⟩
    have d1 : ¬ n < 13 := fun z => c (decide_eq_true (by omega))
    refine ⟨_, rfl, n, 16, rfl, rfl, _, rfl, ite2 (fun c => ?_) (fun c => ?_)⟩
    · have h : n < 16 := by have := c0 c; omega
      have hf : fld n = "index" := (if_neg d1).trans (if_pos h)
      obtain ⟨l, e1, e2⟩ := one (f := "index") (by omega) hf
      exact ⟨.ref e, rfl, e, C n, l, u, rfl, (S.c n (by omega)).x, no (by omega) hf, e1, e2, by show 1 ≤ sizeLine; decide, go (k1 (by omega))⟩
    have d2 : ¬ n < 16 := fun z => c (decide_eq_true (by omega))
    refine ⟨_, rfl, rfl, _, rfl, ite2 (fun c => ?_) (fun c => ?_)⟩
    · have h : n = 16 := by have := V.int.inj (of_decide_eq_true c); omega
      have hf : fld n = "lot" := (if_neg d1).trans (if_neg d2)
      obtain ⟨l, e1, e2⟩ := one (f := "lot") (by omega) hf
      exact ⟨.ref e, rfl, e, C n, l, u, rfl, (S.c n (by omega)).x, no (by omega) hf, e1, e2, by show 1 ≤ sizeLine; decide, go (k1 (by omega))⟩
    have d3 : ¬ n = 16 := fun z => c (decide_eq_true (by rw [z]; rfl))
    have d4 : ¬ n < 17 := by omega
    refine ⟨_, rfl, n, 19, rfl, rfl, _, rfl, ite2 (fun c => ?_) (fun c => ?_)⟩
    · exact ⟨Nat.zero_le _, go ((if_neg d4).trans (if_pos (by have := c0 c; omega)))⟩
    · have d5 : ¬ n < 19 := fun z => c (decide_eq_true (by omega))
      obtain rfl : n = 19 := by omega
      exact ⟨.ref e, rfl, e, C 19, _, u, rfl, S.t.x, S.t.n1, er, rfl, .ref e, rfl, e, C 19, _, v, rfl, S.t.x, S.t.n2, er, rfl, by show 2 ≤ sizeLine; decide, go rfl⟩
/-! ### _law_of_classes -/
def spClasses (K : PySem.W.Frag) (C : Nat → Addr) : Sp := fun vs H Q _ => ∃ (e D : Addr) (fs : List (Str × V)) (g : Nat → Bool), vs = [.ref e] ∧ Er H e D fs ∧ ExcC K D ∧ (∀ m, m < 20 → PySem.W.kitOne K (.ref D) (.ref (C m)) = some (g m)) ∧
  ∀ (p : Addr) (G : Hp), Kp (fun _ => False) H G → H p = none → G p = some (.lst ((List.range 20).map fun m => .bl (g m))) → Q (.ref p) G
theorem kp_free {H G : Hp} {p : Addr} (k : Kp (fun _ => False) H G) (n : G p = none) : H p = none := by
  cases z : H p with
  | none => rfl
  | some o =>
    rw [k p o (fun z => z) z] at n
    cases n
theorem er_kp {H G : Hp} {e D : Addr} {fs : List (Str × V)} (h : Er H e D fs) (k : Kp (fun _ => False) H G) : Er G e D fs := h.kp k fun _ z => z.elim
theorem ok_classes {f : Addr} {fd : FuncData} (F : Fun K "_law_of_classes" "_law_of_classes" sClasses f fd) (S : Es K mg C fI fdE B) (Z : Nb mg) : FnOk P w K mg base CX0 1 f fd ["error"] (spClasses K C) := by
  refine F.ok scClasses (fun vs H Q E h => ?_) (fun cdv A outer s H vs Q E hr h => ?_)
  · obtain ⟨e, D, fs, g, rfl, _⟩ := h
    rfl
  · obtain ⟨e, D, fs, g, rfl, er, x, kit, q⟩ := h
    refine ⟨_, pss_cons (ps_set (i := 1) scClasses.nd rfl (.inl rfl) (pe_lst pa_nil)) (pss_cons (ps_set (i := 1) scClasses.nd rfl (.inl rfl) (pe_op op_cat (pv 1) (pe_lst (pa_cons (pe_callB call_isX (by rfl) Z.isi (by decide +kernel) (pa_cons (pv 0) (pa_cons (pe_glob (by rfl) (S.c 0 (by decide)).g (rr _)) pa_nil))) (pa_cons (pe_callB call_isX (by rfl) Z.isi (by decide +kernel) (pa_cons (pv 0) (pa_cons (pe_glob (by rfl) (S.c 1 (by decide)).g (rr _)) pa_nil))) pa_nil)))))
      (pss_cons (ps_set (i := 1) scClasses.nd rfl (.inl rfl) (pe_op op_cat (pv 1) (pe_lst (pa_cons (pe_callB call_isX (by rfl) Z.isi (by decide +kernel) (pa_cons (pv 0) (pa_cons (pe_glob (by rfl) (S.c 2 (by decide)).g (rr _)) pa_nil))) (pa_cons (pe_callB call_isX (by rfl) Z.isi (by decide +kernel) (pa_cons (pv 0) (pa_cons (pe_glob (by rfl) (S.c 3 (by decide)).g (rr _)) pa_nil))) pa_nil)))))
      (pss_cons (ps_set (i := 1) scClasses.nd rfl (.inl rfl) (pe_op op_cat (pv 1) (pe_lst (pa_cons (pe_callB call_isX (by rfl) Z.isi (by decide +kernel) (pa_cons (pv 0) (pa_cons (pe_glob (by rfl) (S.c 4 (by decide)).g (rr _)) pa_nil))) (pa_cons (pe_callB call_isX (by rfl) Z.isi (by decide +kernel) (pa_cons (pv 0) (pa_cons (pe_glob (by rfl) (S.c 5 (by decide)).g (rr _)) pa_nil))) pa_nil)))))
      (pss_cons (ps_set (i := 1) scClasses.nd rfl (.inl rfl) (pe_op op_cat (pv 1) (pe_lst (pa_cons (pe_callB call_isX (by rfl) Z.isi (by decide +kernel) (pa_cons (pv 0) (pa_cons (pe_glob (by rfl) (S.c 6 (by decide)).g (rr _)) pa_nil))) (pa_cons (pe_callB call_isX (by rfl) Z.isi (by decide +kernel) (pa_cons (pv 0) (pa_cons (pe_glob (by rfl) (S.c 7 (by decide)).g (rr _)) pa_nil))) pa_nil)))))
      (pss_cons (ps_set (i := 1) scClasses.nd rfl (.inl rfl) (pe_op op_cat (pv 1) (pe_lst (pa_cons (pe_callB call_isX (by rfl) Z.isi (by decide +kernel) (pa_cons (pv 0) (pa_cons (pe_glob (by rfl) (S.c 8 (by decide)).g (rr _)) pa_nil))) (pa_cons (pe_callB call_isX (by rfl) Z.isi (by decide +kernel) (pa_cons (pv 0) (pa_cons (pe_glob (by rfl) (S.c 9 (by decide)).g (rr _)) pa_nil))) pa_nil)))))
      (pss_cons (ps_set (i := 1) scClasses.nd rfl (.inl rfl) (pe_op op_cat (pv 1) (pe_lst (pa_cons (pe_callB call_isX (by rfl) Z.isi (by decide +kernel) (pa_cons (pv 0) (pa_cons (pe_glob (by rfl) (S.c 10 (by decide)).g (rr _)) pa_nil))) (pa_cons (pe_callB call_isX (by rfl) Z.isi (by decide +kernel) (pa_cons (pv 0) (pa_cons (pe_glob (by rfl) (S.c 11 (by decide)).g (rr _)) pa_nil))) pa_nil)))))
      (pss_cons (ps_set (i := 1) scClasses.nd rfl (.inl rfl) (pe_op op_cat (pv 1) (pe_lst (pa_cons (pe_callB call_isX (by rfl) Z.isi (by decide +kernel) (pa_cons (pv 0) (pa_cons (pe_glob (by rfl) (S.c 12 (by decide)).g (rr _)) pa_nil))) (pa_cons (pe_callB call_isX (by rfl) Z.isi (by decide +kernel) (pa_cons (pv 0) (pa_cons (pe_glob (by rfl) (S.c 13 (by decide)).g (rr _)) pa_nil))) pa_nil)))))
      (pss_cons (ps_set (i := 1) scClasses.nd rfl (.inl rfl) (pe_op op_cat (pv 1) (pe_lst (pa_cons (pe_callB call_isX (by rfl) Z.isi (by decide +kernel) (pa_cons (pv 0) (pa_cons (pe_glob (by rfl) (S.c 14 (by decide)).g (rr _)) pa_nil))) (pa_cons (pe_callB call_isX (by rfl) Z.isi (by decide +kernel) (pa_cons (pv 0) (pa_cons (pe_glob (by rfl) (S.c 15 (by decide)).g (rr _)) pa_nil))) pa_nil)))))
      (pss_cons (ps_set (i := 1) scClasses.nd rfl (.inl rfl) (pe_op op_cat (pv 1) (pe_lst (pa_cons (pe_callB call_isX (by rfl) Z.isi (by decide +kernel) (pa_cons (pv 0) (pa_cons (pe_glob (by rfl) (S.c 16 (by decide)).g (rr _)) pa_nil))) (pa_cons (pe_callB call_isX (by rfl) Z.isi (by decide +kernel) (pa_cons (pv 0) (pa_cons (pe_glob (by rfl) S.z17.g (rr _)) pa_nil))) pa_nil)))))
      (pss_cons (ps_set (i := 1) scClasses.nd rfl (.inl rfl) (pe_op op_cat (pv 1) (pe_lst (pa_cons (pe_callB call_isX (by rfl) Z.isi (by decide +kernel) (pa_cons (pv 0) (pa_cons (pe_glob (by rfl) S.z18.g (rr _)) pa_nil))) (pa_cons (pe_callB call_isX (by rfl) Z.isi (by decide +kernel) (pa_cons (pv 0) (pa_cons (pe_glob (by rfl) S.t.g (rr _)) pa_nil))) pa_nil)))))
      (pss_one (ps_ret (pv 1))))))))))))), ?_⟩
    refine ⟨Nat.zero_le _, fun p0 n0 => ?_⟩
    have k0 : Kp (fun _ => False) H (upd H p0 (.lst [])) := Kp.new n0
    have e0 : (upd H p0 (.lst [])) p0 = some (.lst []) := upd_same
    generalize upd H p0 (.lst []) = G0 at k0 e0
    have rel : ∀ (m : Nat) (u : Value), RelV (.ref (C m)) u → u = .ref (C m) := fun m u h => h
    refine ⟨.ref p0, rfl, .ref e, rfl, e, D, fs, _, _, g 0, rfl, rel 0, x, er_kp er k0, kit 0 (by decide), .ref e, rfl, e, D, fs, _, _, g 1, rfl, rel 1, x, er_kp er k0, kit 1 (by decide), by show 2 ≤ sizeLine; decide, fun y0 ny0 => ?_⟩
    refine ⟨p0, y0, _, _, rfl, rfl, (upd_ne (ne_of_none e0 ny0)).trans e0, upd_same, by show 0 + 2 ≤ sizeLine; decide, fun p1 n1 => ?_⟩
    have k1 : Kp (fun _ => False) H (upd (upd G0 y0 (.lst [.bl (g 0), .bl (g 1)])) p1 (.lst ([] ++ [.bl (g 0), .bl (g 1)]))) := (k0.tr (Kp.new ny0)).tr (Kp.new n1)
    have e1 : (upd (upd G0 y0 (.lst [.bl (g 0), .bl (g 1)])) p1 (.lst ([] ++ [.bl (g 0), .bl (g 1)]))) p1 = some (.lst [.bl (g 0), .bl (g 1)]) := upd_same
    generalize upd (upd G0 y0 (.lst [.bl (g 0), .bl (g 1)])) p1 (.lst ([] ++ [.bl (g 0), .bl (g 1)])) = G1 at k1 e1
    refine ⟨.ref p1, rfl, .ref e, rfl, e, D, fs, _, _, g 2, rfl, rel 2, x, er_kp er k1, kit 2 (by decide), .ref e, rfl, e, D, fs, _, _, g 3, rfl, rel 3, x, er_kp er k1, kit 3 (by decide), by show 2 ≤ sizeLine; decide, fun y1 ny1 => ?_⟩
    refine ⟨p1, y1, _, _, rfl, rfl, (upd_ne (ne_of_none e1 ny1)).trans e1, upd_same, by show 2 + 2 ≤ sizeLine; decide, fun p2 n2 => ?_⟩
    have k2 : Kp (fun _ => False) H (upd (upd G1 y1 (.lst [.bl (g 2), .bl (g 3)])) p2 (.lst ([.bl (g 0), .bl (g 1)] ++ [.bl (g 2), .bl (g 3)]))) := (k1.tr (Kp.new ny1)).tr (Kp.new n2)
    have e2 : (upd (upd G1 y1 (.lst [.bl (g 2), .bl (g 3)])) p2 (.lst ([.bl (g 0), .bl (g 1)] ++ [.bl (g 2), .bl (g 3)]))) p2 = some (.lst [.bl (g 0), .bl (g 1), .bl (g 2), .bl (g 3)]) := upd_same
    generalize upd (upd G1 y1 (.lst [.bl (g 2), .bl (g 3)])) p2 (.lst ([.bl (g 0), .bl (g 1)] ++ [.bl (g 2), .bl (g 3)])) = G2 at k2 e2
    refine ⟨.ref p2, rfl, .ref e, rfl, e, D, fs, _, _, g 4, rfl, rel 4, x, er_kp er k2, kit 4 (by decide), .ref e, rfl, e, D, fs, _, _, g 5, rfl, rel 5, x, er_kp er k2, kit 5 (by decide), by show 2 ≤ sizeLine; decide, fun y2 ny2 => ?_⟩
    refine ⟨p2, y2, _, _, rfl, rfl, (upd_ne (ne_of_none e2 ny2)).trans e2, upd_same, by show 4 + 2 ≤ sizeLine; decide, fun p3 n3 => ?_⟩
    have k3 : Kp (fun _ => False) H (upd (upd G2 y2 (.lst [.bl (g 4), .bl (g 5)])) p3 (.lst ([.bl (g 0), .bl (g 1), .bl (g 2), .bl (g 3)] ++ [.bl (g 4), .bl (g 5)]))) := (k2.tr (Kp.new ny2)).tr (Kp.new n3)
    have e3 : (upd (upd G2 y2 (.lst [.bl (g 4), .bl (g 5)])) p3 (.lst ([.bl (g 0), .bl (g 1), .bl (g 2), .bl (g 3)] ++ [.bl (g 4), .bl (g 5)]))) p3 = some (.lst [.bl (g 0), .bl (g 1), .bl (g 2), .bl (g 3), .bl (g 4), .bl (g 5)]) := upd_same
    generalize upd (upd G2 y2 (.lst [.bl (g 4), .bl (g 5)])) p3 (.lst ([.bl (g 0), .bl (g 1), .bl (g 2), .bl (g 3)] ++ [.bl (g 4), .bl (g 5)])) = G3 at k3 e3
    refine ⟨.ref p3, rfl, .ref e, rfl, e, D, fs, _, _, g 6, rfl, rel 6, x, er_kp er k3, kit 6 (by decide), .ref e, rfl, e, D, fs, _, _, g 7, rfl, rel 7, x, er_kp er k3, kit 7 (by decide), by show 2 ≤ sizeLine; decide, fun y3 ny3 => ?_⟩
    refine ⟨p3, y3, _, _, rfl, rfl, (upd_ne (ne_of_none e3 ny3)).trans e3, upd_same, by show 6 + 2 ≤ sizeLine; decide, fun p4 n4 => ?_⟩
    have k4 : Kp (fun _ => False) H (upd (upd G3 y3 (.lst [.bl (g 6), .bl (g 7)])) p4 (.lst ([.bl (g 0), .bl (g 1), .bl (g 2), .bl (g 3), .bl (g 4), .bl (g 5)] ++ [.bl (g 6), .bl (g 7)]))) := (k3.tr (Kp.new ny3)).tr (Kp.new n4)
    have e4 : (upd (upd G3 y3 (.lst [.bl (g 6), .bl (g 7)])) p4 (.lst ([.bl (g 0), .bl (g 1), .bl (g 2), .bl (g 3), .bl (g 4), .bl (g 5)] ++ [.bl (g 6), .bl (g 7)]))) p4 = some (.lst [.bl (g 0), .bl (g 1), .bl (g 2), .bl (g 3), .bl (g 4), .bl (g 5), .bl (g 6), .bl (g 7)]) := upd_same
    generalize upd (upd G3 y3 (.lst [.bl (g 6), .bl (g 7)])) p4 (.lst ([.bl (g 0), .bl (g 1), .bl (g 2), .bl (g 3), .bl (g 4), .bl (g 5)] ++ [.bl (g 6), .bl (g 7)])) = G4 at k4 e4
    refine ⟨.ref p4, rfl, .ref e, rfl, e, D, fs, _, _, g 8, rfl, rel 8, x, er_kp er k4, kit 8 (by decide), .ref e, rfl, e, D, fs, _, _, g 9, rfl, rel 9, x, er_kp er k4, kit 9 (by decide), by show 2 ≤ sizeLine; decide, fun y4 ny4 => ?_⟩
    refine ⟨p4, y4, _, _, rfl, rfl, (upd_ne (ne_of_none e4 ny4)).trans e4, upd_same, by show 8 + 2 ≤ sizeLine; decide, fun p5 n5 => ?_⟩
    have k5 : Kp (fun _ => False) H (upd (upd G4 y4 (.lst [.bl (g 8), .bl (g 9)])) p5 (.lst ([.bl (g 0), .bl (g 1), .bl (g 2), .bl (g 3), .bl (g 4), .bl (g 5), .bl (g 6), .bl (g 7)] ++ [.bl (g 8), .bl (g 9)]))) := (k4.tr (Kp.new ny4)).tr (Kp.new n5)
    have e5 : (upd (upd G4 y4 (.lst [.bl (g 8), .bl (g 9)])) p5 (.lst ([.bl (g 0), .bl (g 1), .bl (g 2), .bl (g 3), .bl (g 4), .bl (g 5), .bl (g 6), .bl (g 7)] ++ [.bl (g 8), .bl (g 9)]))) p5 = some (.lst [.bl (g 0), .bl (g 1), .bl (g 2), .bl (g 3), .bl (g 4), .bl (g 5), .bl (g 6), .bl (g 7), .bl (g 8), .bl (g 9)]) := upd_same
    generalize upd (upd G4 y4 (.lst [.bl (g 8), .bl (g 9)])) p5 (.lst ([.bl (g 0), .bl (g 1), .bl (g 2), .bl (g 3), .bl (g 4), .bl (g 5), .bl (g 6), .bl (g 7)] ++ [.bl (g 8), .bl (g 9)])) = G5 at k5 e5
    refine ⟨.ref p5, rfl, .ref e, rfl, e, D, fs, _, _, g 10, rfl, rel 10, x, er_kp er k5, kit 10 (by decide), .ref e, rfl, e, D, fs, _, _, g 11, rfl, rel 11, x, er_kp er k5, kit 11 (by decide), by show 2 ≤ sizeLine; decide, fun y5 ny5 => ?_⟩
    refine ⟨p5, y5, _, _, rfl, rfl, (upd_ne (ne_of_none e5 ny5)).trans e5, upd_same, by show 10 + 2 ≤ sizeLine; decide, fun p6 n6 => ?_⟩
    have k6 : Kp (fun _ => False) H (upd (upd G5 y5 (.lst [.bl (g 10), .bl (g 11)])) p6 (.lst ([.bl (g 0), .bl (g 1), .bl (g 2), .bl (g 3), .bl (g 4), .bl (g 5), .bl (g 6), .bl (g 7), .bl (g 8), .bl (g 9)] ++ [.bl (g 10), .bl (g 11)]))) := (k5.tr (Kp.new ny5)).tr (Kp.new n6)
    have e6 : (upd (upd G5 y5 (.lst [.bl (g 10), .bl (g 11)])) p6 (.lst ([.bl (g 0), .bl (g 1), .bl (g 2), .bl (g 3), .bl (g 4), .bl (g 5), .bl (g 6), .bl (g 7), .bl (g 8), .bl (g 9)] ++ [.bl (g 10), .bl (g 11)]))) p6 = some (.lst [.bl (g 0), .bl (g 1), .bl (g 2), .bl (g 3), .bl (g 4), .bl (g 5), .bl (g 6), .bl (g 7), .bl (g 8), .bl (g 9), .bl (g 10), .bl (g 11)]) := upd_same
    generalize upd (upd G5 y5 (.lst [.bl (g 10), .bl (g 11)])) p6 (.lst ([.bl (g 0), .bl (g 1), .bl (g 2), .bl (g 3), .bl (g 4), .bl (g 5), .bl (g 6), .bl (g 7), .bl (g 8), .bl (g 9)] ++ [.bl (g 10), .bl (g 11)])) = G6 at k6 e6
    refine ⟨.ref p6, rfl, .ref e, rfl, e, D, fs, _, _, g 12, rfl, rel 12, x, er_kp er k6, kit 12 (by decide), .ref e, rfl, e, D, fs, _, _, g 13, rfl, rel 13, x, er_kp er k6, kit 13 (by decide), by show 2 ≤ sizeLine; decide, fun y6 ny6 => ?_⟩
    refine ⟨p6, y6, _, _, rfl, rfl, (upd_ne (ne_of_none e6 ny6)).trans e6, upd_same, by show 12 + 2 ≤ sizeLine; decide, fun p7 n7 => ?_⟩
    have k7 : Kp (fun _ => False) H (upd (upd G6 y6 (.lst [.bl (g 12), .bl (g 13)])) p7 (.lst ([.bl (g 0), .bl (g 1), .bl (g 2), .bl (g 3), .bl (g 4), .bl (g 5), .bl (g 6), .bl (g 7), .bl (g 8), .bl (g 9), .bl (g 10), .bl (g 11)] ++ [.bl (g 12), .bl (g 13)]))) := (k6.tr (Kp.new ny6)).tr (Kp.new n7)
    have e7 : (upd (upd G6 y6 (.lst [.bl (g 12), .bl (g 13)])) p7 (.lst ([.bl (g 0), .bl (g 1), .bl (g 2), .bl (g 3), .bl (g 4), .bl (g 5), .bl (g 6), .bl (g 7), .bl (g 8), .bl (g 9), .bl (g 10), .bl (g 11)] ++ [.bl (g 12), .bl (g 13)]))) p7 = some (.lst [.bl (g 0), .bl (g 1), .bl (g 2), .bl (g 3), .bl (g 4), .bl (g 5), .bl (g 6), .bl (g 7), .bl (g 8), .bl (g 9), .bl (g 10), .bl (g 11), .bl (g 12), .bl (g 13)]) := upd_same
    generalize upd (upd G6 y6 (.lst [.bl (g 12), .bl (g 13)])) p7 (.lst ([.bl (g 0), .bl (g 1), .bl (g 2), .bl (g 3), .bl (g 4), .bl (g 5), .bl (g 6), .bl (g 7), .bl (g 8), .bl (g 9), .bl (g 10), .bl (g 11)] ++ [.bl (g 12), .bl (g 13)])) = G7 at k7 e7
    refine ⟨.ref p7, rfl, .ref e, rfl, e, D, fs, _, _, g 14, rfl, rel 14, x, er_kp er k7, kit 14 (by decide), .ref e, rfl, e, D, fs, _, _, g 15, rfl, rel 15, x, er_kp er k7, kit 15 (by decide), by show 2 ≤ sizeLine; decide, fun y7 ny7 => ?_⟩
    refine ⟨p7, y7, _, _, rfl, rfl, (upd_ne (ne_of_none e7 ny7)).trans e7, upd_same, by show 14 + 2 ≤ sizeLine; decide, fun p8 n8 => ?_⟩
    have k8 : Kp (fun _ => False) H (upd (upd G7 y7 (.lst [.bl (g 14), .bl (g 15)])) p8 (.lst ([.bl (g 0), .bl (g 1), .bl (g 2), .bl (g 3), .bl (g 4), .bl (g 5), .bl (g 6), .bl (g 7), .bl (g 8), .bl (g 9), .bl (g 10), .bl (g 11), .bl (g 12), .bl (g 13)] ++ [.bl (g 14), .bl (g 15)]))) := (k7.tr (Kp.new ny7)).tr (Kp.new n8)
    have e8 : (upd (upd G7 y7 (.lst [.bl (g 14), .bl (g 15)])) p8 (.lst ([.bl (g 0), .bl (g 1), .bl (g 2), .bl (g 3), .bl (g 4), .bl (g 5), .bl (g 6), .bl (g 7), .bl (g 8), .bl (g 9), .bl (g 10), .bl (g 11), .bl (g 12), .bl (g 13)] ++ [.bl (g 14), .bl (g 15)]))) p8 = some (.lst [.bl (g 0), .bl (g 1), .bl (g 2), .bl (g 3), .bl (g 4), .bl (g 5), .bl (g 6), .bl (g 7), .bl (g 8), .bl (g 9), .bl (g 10), .bl (g 11), .bl (g 12), .bl (g 13), .bl (g 14), .bl (g 15)]) := upd_same
    generalize upd (upd G7 y7 (.lst [.bl (g 14), .bl (g 15)])) p8 (.lst ([.bl (g 0), .bl (g 1), .bl (g 2), .bl (g 3), .bl (g 4), .bl (g 5), .bl (g 6), .bl (g 7), .bl (g 8), .bl (g 9), .bl (g 10), .bl (g 11), .bl (g 12), .bl (g 13)] ++ [.bl (g 14), .bl (g 15)])) = G8 at k8 e8
    refine ⟨.ref p8, rfl, .ref e, rfl, e, D, fs, _, _, g 16, rfl, rel 16, x, er_kp er k8, kit 16 (by decide), .ref e, rfl, e, D, fs, _, _, g 17, rfl, rel 17, x, er_kp er k8, kit 17 (by decide), by show 2 ≤ sizeLine; decide, fun y8 ny8 => ?_⟩
    refine ⟨p8, y8, _, _, rfl, rfl, (upd_ne (ne_of_none e8 ny8)).trans e8, upd_same, by show 16 + 2 ≤ sizeLine; decide, fun p9 n9 => ?_⟩
    have k9 : Kp (fun _ => False) H (upd (upd G8 y8 (.lst [.bl (g 16), .bl (g 17)])) p9 (.lst ([.bl (g 0), .bl (g 1), .bl (g 2), .bl (g 3), .bl (g 4), .bl (g 5), .bl (g 6), .bl (g 7), .bl (g 8), .bl (g 9), .bl (g 10), .bl (g 11), .bl (g 12), .bl (g 13), .bl (g 14), .bl (g 15)] ++ [.bl (g 16), .bl (g 17)]))) := (k8.tr (Kp.new ny8)).tr (Kp.new n9)
    have e9 : (upd (upd G8 y8 (.lst [.bl (g 16), .bl (g 17)])) p9 (.lst ([.bl (g 0), .bl (g 1), .bl (g 2), .bl (g 3), .bl (g 4), .bl (g 5), .bl (g 6), .bl (g 7), .bl (g 8), .bl (g 9), .bl (g 10), .bl (g 11), .bl (g 12), .bl (g 13), .bl (g 14), .bl (g 15)] ++ [.bl (g 16), .bl (g 17)]))) p9 = some (.lst [.bl (g 0), .bl (g 1), .bl (g 2), .bl (g 3), .bl (g 4), .bl (g 5), .bl (g 6), .bl (g 7), .bl (g 8), .bl (g 9), .bl (g 10), .bl (g 11), .bl (g 12), .bl (g 13), .bl (g 14), .bl (g 15), .bl (g 16), .bl (g 17)]) := upd_same
    generalize upd (upd G8 y8 (.lst [.bl (g 16), .bl (g 17)])) p9 (.lst ([.bl (g 0), .bl (g 1), .bl (g 2), .bl (g 3), .bl (g 4), .bl (g 5), .bl (g 6), .bl (g 7), .bl (g 8), .bl (g 9), .bl (g 10), .bl (g 11), .bl (g 12), .bl (g 13), .bl (g 14), .bl (g 15)] ++ [.bl (g 16), .bl (g 17)])) = G9 at k9 e9
    refine ⟨.ref p9, rfl, .ref e, rfl, e, D, fs, _, _, g 18, rfl, rel 18, x, er_kp er k9, kit 18 (by decide), .ref e, rfl, e, D, fs, _, _, g 19, rfl, rel 19, x, er_kp er k9, kit 19 (by decide), by show 2 ≤ sizeLine; decide, fun y9 ny9 => ?_⟩
    refine ⟨p9, y9, _, _, rfl, rfl, (upd_ne (ne_of_none e9 ny9)).trans e9, upd_same, by show 18 + 2 ≤ sizeLine; decide, fun p10 n10 => ?_⟩
    have k10 : Kp (fun _ => False) H (upd (upd G9 y9 (.lst [.bl (g 18), .bl (g 19)])) p10 (.lst ([.bl (g 0), .bl (g 1), .bl (g 2), .bl (g 3), .bl (g 4), .bl (g 5), .bl (g 6), .bl (g 7), .bl (g 8), .bl (g 9), .bl (g 10), .bl (g 11), .bl (g 12), .bl (g 13), .bl (g 14), .bl (g 15), .bl (g 16), .bl (g 17)] ++ [.bl (g 18), .bl (g 19)]))) := (k9.tr (Kp.new ny9)).tr (Kp.new n10)
    have e10 : (upd (upd G9 y9 (.lst [.bl (g 18), .bl (g 19)])) p10 (.lst ([.bl (g 0), .bl (g 1), .bl (g 2), .bl (g 3), .bl (g 4), .bl (g 5), .bl (g 6), .bl (g 7), .bl (g 8), .bl (g 9), .bl (g 10), .bl (g 11), .bl (g 12), .bl (g 13), .bl (g 14), .bl (g 15), .bl (g 16), .bl (g 17)] ++ [.bl (g 18), .bl (g 19)]))) p10 = some (.lst [.bl (g 0), .bl (g 1), .bl (g 2), .bl (g 3), .bl (g 4), .bl (g 5), .bl (g 6), .bl (g 7), .bl (g 8), .bl (g 9), .bl (g 10), .bl (g 11), .bl (g 12), .bl (g 13), .bl (g 14), .bl (g 15), .bl (g 16), .bl (g 17), .bl (g 18), .bl (g 19)]) := upd_same
    have f10 : H p10 = none := kp_free (k9.tr (Kp.new ny9)) n10
    generalize upd (upd G9 y9 (.lst [.bl (g 18), .bl (g 19)])) p10 (.lst ([.bl (g 0), .bl (g 1), .bl (g 2), .bl (g 3), .bl (g 4), .bl (g 5), .bl (g 6), .bl (g 7), .bl (g 8), .bl (g 9), .bl (g 10), .bl (g 11), .bl (g 12), .bl (g 13), .bl (g 14), .bl (g 15), .bl (g 16), .bl (g 17)] ++ [.bl (g 18), .bl (g 19)])) = G10 at k10 e10
    exact ⟨.ref p10, rfl, q p10 G10 k10 f10 e10⟩
end
end K1

namespace K1
open PySem PySem.Spec PyProof.Rows L2 KL
section
variable {P : Program} {w : World} {K : PySem.W.Frag} {mg : Str → Option Value} {base : Heap} {C fI : Nat → Addr} {fdE : Nat → FuncData} {B : Addr}
/-! ### _law_is_of -/
theorem es_x (S : Es K mg C fI fdE B) {n : Nat} (h : n < 20) : ExcC K (C n) := by
  by_cases h1 : n < 17
  · exact (S.c n h1).x
  · obtain rfl | rfl | rfl : n = 17 ∨ n = 18 ∨ n = 19 := by omega
    · exact S.z17.x
    · exact S.z18.x
    · exact S.t.x
theorem tyes {σ : L2.St} {H : Hp} {A A' : Hp → Prop} (h : A H) : tYes σ H (fun b G => if b = true then A G else A' G) := by
  show if true = true then A H else A' H
  rw [if_pos rfl]
  exact h
def bits (l : List Bool) : PyData := .list (l.map .bool)
theorem dp_bits {H : Hp} {p : Addr} {l : List Bool} (h : H p = some (.lst (l.map V.bl))) : Dp K H (.ref p) (bits l) := by
  refine .lst (.inl (.inl h)) ?_
  clear h
  induction l with
  | nil => exact .nil
  | cons b l ih => exact .cons (.bl b) ih
theorem lay_bits : ∀ l : List Bool, PyData.canLayAll0 (l.map .bool) = true
  | [] => rfl
  | b :: l => by simp [PyData.canLayAll0, PyData.canLay0, lay_bits l]
theorem depth_bits : ∀ l : List Bool, PyData.depthAll (l.map .bool) ≤ 1
  | [] => Nat.zero_le _
  | b :: l => by
    have := depth_bits l
    simp only [List.map_cons, PyData.depthAll, PyData.depth]
    omega
theorem shaped_bits (l : List Bool) : SeqAt.shaped (bits l) = true := by
  unfold SeqAt.shaped bits
  rw [Bool.and_eq_true]
  refine ⟨?_, decide_eq_true ?_⟩
  · simp only [PyData.canLay0]
    exact lay_bits l
  · have := depth_bits l
    simp only [PyData.depth]
    omega
theorem eqv_bits (l : List Bool) : PyData.eqv (bits l) (bits l) = true := SeqAt.eqv_refl _ (by
  unfold bits
  simp only [PyData.canLay0]
  exact lay_bits l)
def spIsOf (C : Nat → Addr) : Sp := fun vs H Q _ => ∃ (n : Nat) (e : Addr) (u v : V), vs = [.int (n : Int), .ref e] ∧ n < 20 ∧ ErN C H e n u v ∧ ∀ G : Hp, Kp (fun _ => False) H G → Q (.bl true) G
theorem ok_isof {f fC : Addr} {fd fdC : FuncData} (F : Fun K "_law_is_of" "_law_is_of" sIsOf f fd) (FC : Fun K "_law_of_classes" "_law_of_classes" sClasses fC fdC) (gC : mg "_law_of_classes" = some (.ref fC)) (bC : L2.Binds K fdC ["error"] []) (S : Es K mg C fI fdE B) (Z : Nb mg) :
    FnOk P w K mg base CX0 2 f fd ["number", "error"] (spIsOf C) := by
  have GC : FnOk P w K mg base CX0 1 fC fdC ["error"] (spClasses K C) := ok_classes FC S Z
  refine F.ok scIsOf (fun vs H Q E h => ?_) (fun cdv A outer s H vs Q E hr h => ?_)
  · obtain ⟨n, e, u, v, rfl, _⟩ := h
    rfl
  · obtain ⟨n, e, u, v, rfl, hn, er, q⟩ := h
    refine ⟨_, pss_cons (ps_if (PW.pt (pw_or (pt_cmpR (op_neD hr.units) (pe_call GC hr (by rfl) gC FC.kp bC .nil pass0 (pa_cons (pv 1) pa_nil))
          (pe_lc (own := [("at", 2)]) (g := gName 2) (tt := tYes) rfl scIsOf.nd (pi_range1 (by rfl) Z.rng (pa_cons pe_int pa_nil)) (blkOk_by (N := ["number", "error", "at"]) (sc := defScope sIsOf) (by decide +kernel)) (fun _ _ _ _ _ => pg_name (i := 2) scIsOf.nd rfl (Or.inl rfl)) (fun _ _ _ _ _ => pts_nil)
            (fun _ _ _ _ _ => pe_cmpR op_eq (pv 2) (pv 0) (nomark _))) (nomark _))
        (pw_or1 (pt_not (pt_val (pe_callB call_isX (by rfl) Z.isi (by decide +kernel) (pa_cons (pv 1) (pa_cons (pe_glob (by rfl) S.zB.g (rr _)) pa_nil)))))))) (pss_one (ps_ret pe_bl)) pss_nil)
      (pss_cons (ps_if (PW.pt (pw_or (pt_not (pt_val (pe_callB call_isX (by rfl) Z.isi (by decide +kernel) (pa_cons (pv 1) (pa_cons (pe_bltn (u := .type "ValueError") (by rfl) Z.ve (by decide +kernel) (rt "ValueError")) pa_nil)))))
          (pw_or (pt_val (pe_callB call_isX (by rfl) Z.isi (by decide +kernel) (pa_cons (pv 1) (pa_cons (pe_bltn (u := .type "ArithmeticError") (by rfl) Z.ae (by decide +kernel) (rt "ArithmeticError")) pa_nil))))
            (pw_or1 (pt_val (pe_callB call_isX (by rfl) Z.isi (by decide +kernel) (pa_cons (pv 1) (pa_cons (pe_bltn (u := .type "LookupError") (by rfl) Z.le (by decide +kernel) (rt "LookupError")) pa_nil)))))))) (pss_one (ps_ret pe_bl)) pss_nil)
      (pss_one (ps_ret (pe_and (pe_not (pe_callB call_isX (by rfl) Z.isi (by decide +kernel) (pa_cons (pv 1) (pa_cons (pe_bltn (u := .type "TypeError") (by rfl) Z.te (by decide +kernel) (rt "TypeError")) pa_nil))))
        (pe_one (pe_not (pe_callB call_isX (by rfl) Z.isi (by decide +kernel) (pa_cons (pv 1) (pa_cons (pe_bltn (u := .type "RuntimeError") (by rfl) Z.re (by decide +kernel) (rt "RuntimeError")) pa_nil))))))))), ?_⟩
    have hx := es_x S hn
    obtain ⟨kv, ka, kl, kt, kr⟩ := S.kitV n hn
    refine ⟨.ref e, rfl, e, C n, _, fun m => decide (n = m), rfl, er, hx, fun m hm => S.kit n m hn hm, fun p G k np hp => ?_⟩
    refine ⟨20, rfl, by decide, by decide, fun D nD => ?_⟩
    refine lc_range (lo := 0) (n := 20) (fun i J => J = upd G D (.lst ((List.range i).map fun m => V.bl (decide (n = m))))) rfl ?_ ?_
    · rintro i J hi rfl
      refine ⟨rfl, tyes ?_⟩
      refine ⟨_, rfl, _, rfl, rfl, (List.range i).map fun m => V.bl (decide (n = m)), upd_same, by rw [List.length_map, List.length_range]; exact small1000 (by omega), ?_⟩
      rw [upd_upd]
      have hd : decide (V.int (0 + (i : Int)) = V.int (n : Int)) = decide (n = i) := by
        by_cases z : n = i
        · rw [decide_eq_true z, decide_eq_true (by rw [z]; congr 1; omega)]
        · rw [decide_eq_false z, decide_eq_false (fun y => z (by have := V.int.inj y; omega))]
      show upd G D _ = upd G D _
      rw [List.range_succ, List.map_append]
      show upd G D (.lst (_ ++ [V.bl (decide (V.int (0 + (i : Int)) = V.int (n : Int)))])) = upd G D (.lst (_ ++ [V.bl (decide (n = i))]))
      rw [hd]
    · rintro J rfl
      have pD : p ≠ D := ne_of_none hp nD
      have e1 : ((List.range 20).map fun m => V.bl (decide (n = m))) = ((List.range 20).map fun m => decide (n = m)).map V.bl := by rw [List.map_map]; rfl
      have k2 : Kp (fun _ => False) H (upd G D (.lst ((List.range 20).map fun m => V.bl (decide (n = m))))) := k.tr (Kp.new nD)
      have er2 := er_kp er k2
      refine ⟨bits ((List.range 20).map fun m => decide (n = m)), bits ((List.range 20).map fun m => decide (n = m)), dp_bits (by rw [upd_ne pD, hp, e1]), dp_bits (by rw [upd_same, e1]), shaped_bits _, shaped_bits _, ?_⟩
      rw [eqv_bits]
      refine ⟨_, rfl, iteF ⟨.ref e, rfl, e, C n, _, _, _, true, rfl, fun u h => h, hx, er2, S.kitB n hn, true, rfl, iteF ?_⟩⟩
      refine ⟨.ref e, rfl, e, C n, _, _, _, true, rfl, fun u h => h, hx, er2, kv, true, rfl, iteF ⟨.ref e, rfl, e, C n, _, _, _, false, rfl, fun u h => h, hx, er2, ka, false, rfl, iteF ⟨.ref e, rfl, e, C n, _, _, _, false, rfl, fun u h => h, hx, er2, kl, false, rfl, iteF ?_⟩⟩⟩
      refine ⟨.ref e, rfl, e, C n, _, _, _, false, rfl, fun u h => h, hx, er2, kt, false, rfl, true, rfl, iteT ⟨.ref e, rfl, e, C n, _, _, _, false, rfl, fun u h => h, hx, er2, kr, false, rfl, q _ k2⟩⟩
end
end K1

/-! Own layer, part L: try with several clauses, named or not; the caught exception read, asked, handed to a def. -/
namespace KL
open PySem PySem.Spec PyProof.Rows L2

/-- a clause: its class, the slot of its name, the reading of its suite -/
structure Cl where
  c : Value
  i : Option Nat
  ts : Addr → Value → Option Addr → TS
/-- where the name goes behind the suite -/
def off (i : Nat) (D : Ends) : Ends := { nx := fun σ H => D.nx (σ.set i none) H, rt := D.rt, bk := fun σ H => D.bk (σ.set i none) H, ct := fun σ H => D.ct (σ.set i none) H }
def inSuite (l : Cl) (a : Addr) (cls : Value) (d : Option Addr) (D : Ends) (σ : L2.St) (H : Hp) : Prop := match l.i with
  | none => l.ts a cls d D σ H
  | some i => l.ts a cls d (off i D) (σ.set i (some (.ref a))) H
/-- what clauses wish of an exception, the first ones first -/
def wMix (K : PySem.W.Frag) (W : WX) (D : Ends) : List Cl → WX
  | [] => W
  | l :: r => fun cls d σ H => ∃ b, PySem.W.exmOne K cls l.c = some b ∧ (b = true → ∀ a, H a = none → inSuite l a cls d D σ H) ∧ (b = false → wMix K W D r cls d σ H)
abbrev SuiteOk (X : Cx) (st : List Stmt) (ts : Addr → Value → Option Addr → TS) : Prop := ∀ (a : Addr) (oe : Obj) (cls : Value) (d : Option Addr) (pn : List (Addr × Obj)), Zc cls d oe → (∃ vs, oe.data = .fields vs) → PSs (X.suite a ((a, oe) :: pn)) st (ts a cls d)
inductive Cls (X : Cx) : List ExceptHandler → List Cl → Prop
  | nil : Cls X [] []
  | plain {x : Str} {c : Value} {ts : Addr → Value → Option Addr → TS} {b : Stmt} {st : List Stmt} {np po : Pos} {hs : List ExceptHandler} {l : List Cl} (hc : Names X x c) (h : SuiteOk X (b :: st) ts) (r : Cls X hs l) : Cls X (.ExceptHandler (some (.Name x np)) none (b :: st) po :: hs) (⟨c, none, ts⟩ :: l)
  | named {x n : Str} {i : Nat} {c : Value} {ts : Addr → Value → Option Addr → TS} {b : Stmt} {st : List Stmt} {np po : Pos} {hs : List ExceptHandler} {l : List Cl} (hc : Names X x c) (hi : X.N[i]? = some n) (hn : X.env.kindOf n = some .local) (h : SuiteOk X (b :: st) ts) (r : Cls X hs l) :
      Cls X (.ExceptHandler (some (.Name x np)) (some n) (b :: st) po :: hs) (⟨c, some i, ts⟩ :: l)
section
variable {X : Cx} {body : List Stmt} {h₀ : ExceptHandler} {hds : List ExceptHandler} {l : List Cl} {pos : Pos} {tb : WX → TS} {Wo : WX}
theorem try_body {pins : List (Addr × Obj)} {D : Ends} {xe : Value → Shared → Prop} {fl : Flow} {s1 : Shared} (ok : X.Ok) (h : SP (X.tr (X.pn ++ pins) xe) [] D fl s1) : SP X pins D fl s1 := by
  cases fl with
  | next => exact let ⟨σ, H, J, q⟩ := h; ⟨σ, H, J.ofTry ok, q⟩
  | brk => exact let ⟨σ, H, J, q⟩ := h; ⟨σ, H, J.ofTry ok, q⟩
  | cont => exact let ⟨σ, H, J, q⟩ := h; ⟨σ, H, J.ofTry ok, q⟩
  | ret u => exact let ⟨v, σ, H, J, r, q⟩ := h; ⟨v, σ, H, J.ofTry ok, r, q⟩
theorem ps_try_mix (hs : X.stack = X.env :: X.outer) (hf : X.env.frame = some X.env.locals) (hN : X.N.Nodup) (tk : Takes X Wo) (hb : ∀ (W : WX) (pn : List (Addr × Obj)) (xe : Value → Shared → Prop), Takes (X.tr pn xe) W → PassesOwn (model X.prog X.w) X.A X.env xe → PSs (X.tr pn xe) body (tb W))
    (hh : Cls X (h₀ :: hds) l) : PS X (.Try body (h₀ :: hds) [] [] pos) (fun D σ H => tb (wMix X.K Wo D l) D σ H) := by
  constructor
  intro pins s σ H D I hyp
  have ok := I.ok
  have frames : X.A.frames = some (X.env :: X.outer) := hs ▸ ok.frames
  refine wpAny_Try_except ?_
  have ct : Takes (X.tr (X.pn ++ pins) fun e s₁ => wpAny (model X.prog X.w) X.A (noteFrame e X.env) (fun _ s₂ => wpAny (model X.prog X.w) X.A (setFlight e none) (fun _ s₃ => wpAny (model X.prog X.w) X.A (handleBy e X.env (h₀ :: hds)) (SP X pins D) X.xe s₃) X.xe s₂) X.xe s₁) (wMix X.K Wo D l) := by
    rintro u s' ⟨a, B, sI, pins', σ', H', cls, d, rfl, J', nb, up, sky, na, os, ag, w⟩
    have J : Inv X pins σ' H' sI := J'.ofTry ok
    rw [show (X.tr (X.pn ++ pins) _).stack = X.env :: X.outer from hs] at sky
    show wpAny _ _ _ _ _ _
    refine Sky.land Zc.steady frames hf sky fun h3 fl3 up3 => ?_
    have upA := up.trans up3
    have J3 : Inv X pins σ' H' { s' with heap := h3 } := J.landed nb fl3.1 upA os ag
    obtain ⟨o3, v3, g3, z3, d3⟩ := fl3.there
    have offF : a ∉ frs (X.env :: X.outer) := fun hm => by
      obtain ⟨_, o', e', nf⟩ := fl3.2.2.1.mem hm
      rw [g3] at e'
      cases e'
      exact nf _ d3
    have offL : a ≠ X.env.locals := fun z => offF (List.mem_filterMap.mpr ⟨X.env, List.mem_cons_self, z ▸ hf⟩)
    have offO : a ∉ X.fs := fun hm => by
      obtain ⟨e, he, q⟩ := List.mem_filterMap.mp hm
      exact offF (List.mem_filterMap.mpr ⟨e, List.mem_cons_of_mem _ he, q⟩)
    have S3 := J3.suite g3 d3 na offL offO
    have LT : PySem.W.Looks (model X.prog X.w) h3 (typeOf (.ref a)) cls := fun A Q E s k q => wpAny_typeOf_ref (k _ _ g3) (by rw [z3.1]; exact q)
    have test : ∀ {x : Str} {c : Value} {np : Pos} {Q : Value → Shared → Prop} {E : Value → Shared → Prop}, Names X x c → Q c { s' with heap := h3 } → wpAny (model X.prog X.w) (X.A.mark (some (.ref a))) (eval (.Name x np) X.env) Q E { s' with heap := h3 } := by
      rintro x c np Q E ⟨hg, hdb, hm | ⟨hm, hv, hnn⟩⟩ q
      · exact ld_glob (X := X.suite a ((a, o3) :: (X.pn ++ pins))) S3 hg hm q hdb
      · exact ld_blt (X := X.suite a ((a, o3) :: (X.pn ++ pins))) S3 hg hm hv q hnn hdb
    have back : ∀ {o4 : Obj} {D' : Ends} {fl : Flow} {s6 : Shared}, SP (X.suite a ((a, o4) :: (X.pn ++ pins))) [] D' fl s6 → SP X pins D' fl s6 := by
      intro o4 D' fl s6 q
      cases fl with
      | next => exact let ⟨σ, H, K, z⟩ := q; ⟨σ, H, K.unsuite ok, z⟩
      | brk => exact let ⟨σ, H, K, z⟩ := q; ⟨σ, H, K.unsuite ok, z⟩
      | cont => exact let ⟨σ, H, K, z⟩ := q; ⟨σ, H, K.unsuite ok, z⟩
      | ret u => exact let ⟨v, σ, H, K, r, z⟩ := q; ⟨v, σ, H, K.unsuite ok, r, z⟩
    clear hyp
    generalize h₀ :: hds = hands at hh
    induction hh with
    | nil =>
      refine wpAny_handleBy_nil ?_
      obtain ⟨_, _, _, oe, vs, T, oT, ts', he, hz, hd, h1, hr⟩ := id fl3
      unfold PySem.passOn
      refine wpAny_bind (wpAny_field he hd h1 ?_)
      rw [if_neg (show ¬ ((Value.ref T == Value.none) = true) from by simp)]
      have fin : wpAny (model X.prog X.w) X.A (setFlight (.ref a) X.env.frame) (fun _ s4 => wpAny (model X.prog X.w) X.A (throw (.ref a) : Sem Flow) (SP X pins D) X.xe s4) X.xe { s' with heap := h3 } := by
        rw [hf]
        refine HandSPX.setFlight_upZ fl3 fun h4 hh4 up4 => wpAny_throw (tk _ _ ⟨a, B, sI, pins, σ', H', cls, d, rfl, J, nb, upA.trans up4, .inr (.inr (by rw [hs]; exact hh4)), na, os, ag, w⟩)
      first
        | exact wpAny_bind (wpAny_pure (wpAny_bind fin))
        | exact wpAny_bind fin
    | @plain x c ts b st np po hs2 l2 hc hsu r ih =>
      obtain ⟨bb, m, yes, no⟩ := w
      refine wpAny_handleBy_cons (codeAny_handlers_test (test hc ((PySem.W.exm_one (M := model X.prog X.w) J3.kIn LT m).here ?_))) (fun q => nomatch q)
      cases bb with
      | false => exact ih (no rfl)
      | true =>
        refine codeAny_handlers_suite (HandSPX.lands_againZ fl3 fun h4 fl4 up4 => ?_)
        obtain ⟨o4, v4, g4, z4, d4⟩ := fl4.there
        have S4 := (J.landed nb fl4.1 (upA.trans up4) os ag : Inv X pins σ' H' { s' with heap := h4 }).suite g4 d4 na offL offO
        exact wpAny_mono ((hsu a o4 cls d (X.pn ++ pins) z4 ⟨_, d4⟩).run [] _ _ H' _ S4 (yes rfl a na)) (fun fl s6 q => back q) fun _ _ z => z.elim
    | @named x n i c ts b st np po hs2 l2 hc hi hn hsu r ih =>
      obtain ⟨bb, m, yes, no⟩ := w
      refine wpAny_handleBy_cons (codeAny_handlers_test (test hc ((PySem.W.exm_one (M := model X.prog X.w) J3.kIn LT m).here ?_))) (fun q => nomatch q)
      cases bb with
      | false => exact ih (no rfl)
      | true =>
        refine codeAny_handlers_suite_as (HandSPX.lands_againZ fl3 fun h4 fl4 up4 => ?_)
        obtain ⟨o4, v4, g4, z4, d4⟩ := fl4.there
        have S4 := (J.landed nb fl4.1 (upA.trans up4) os ag : Inv X pins σ' H' { s' with heap := h4 }).suite g4 d4 na offL offO
        refine store_ok (X := X.suite a ((a, o4) :: (X.pn ++ pins))) (v := .ref a) S4 hN hi (.inl hn) rfl (fun s5 S5 => ?_) (.inr hn)
        refine wpAny_mono ((hsu a o4 cls d (X.pn ++ pins) z4 ⟨_, d4⟩).run [] s5 _ H' _ S5 (yes rfl a na)) (fun fl s6 q => ?_) fun _ _ z => z.elim
        have q' := back q
        cases fl with
        | next => exact let ⟨_, _, K, z⟩ := q'; gone_ok K hN hi hn fun s7 J7 => ⟨_, _, J7, z⟩
        | brk => exact let ⟨_, _, K, z⟩ := q'; gone_ok K hN hi hn fun s7 J7 => ⟨_, _, J7, z⟩
        | cont => exact let ⟨_, _, K, z⟩ := q'; gone_ok K hN hi hn fun s7 J7 => ⟨_, _, J7, z⟩
        | ret u => exact let ⟨_, _, _, K, r, z⟩ := q'; gone_ok K hN hi hn fun s7 J7 => ⟨_, _, _, J7, r, z⟩
  refine wpAny_mono ((hb _ _ _ ct PassesOwn.looking).run [] s σ H D (I.toTry _) hyp) (fun fl s1 q => ?_) fun _ _ z => z
  have q' := try_body ok q
  cases fl with
  | next => exact let ⟨σ', H', J, z⟩ := q'; wpAny_execs_nil ⟨σ', H', J, z⟩
  | brk => exact q'
  | cont => exact q'
  | ret u => exact q'
end

/-! ### the caught exception, pinned -/
section
variable {X : Cx} {a : Addr} {oe : Obj}
theorem pin_inst {pins : List (Addr × Obj)} {σ : L2.St} {H : Hp} {s : Shared} {C : Addr} {d : Option Addr} {fs : List (Str × V)} (I : Inv X pins σ H s) (hp : (a, oe) ∈ X.pn) (hf : ∃ vs, oe.data = .fields vs) (hz : Zc (.ref C) d oe) (hd : ∀ b, d = some b → H b = some (.xd fs)) :
    ∃ od, PySem.W.InstAt s.heap a oe C od ∧ ∀ b, d = some b → ∃ (o : Obj) (mA : Str → Option Value), od = some o ∧ (∀ y : Str, PySem.W.lookIn y o = some (mA y)) ∧ ∀ y : Str, RelO (fs.lookup y) (mA y) := by
  obtain ⟨ha, _⟩ := I.pin (a, oe) (List.mem_append_left _ hp)
  obtain ⟨vs, hv⟩ := hf
  have nc : PySem.W.notCls oe := by
    unfold PySem.W.notCls
    rw [hv] <;> rfl
  cases d with
  | none => exact ⟨none, ⟨ha, hz.1, nc, by rw [hz.2]; exact True.intro⟩, fun b e => nomatch e⟩
  | some b =>
    obtain ⟨mA, ns, rel⟩ : ObjOk X.prog X.w H s.heap b (.xd fs) := I.hok b _ (hd b rfl)
    obtain ⟨od, ho, hl⟩ := lookIn_ns ns
    exact ⟨some od, ⟨ha, hz.1, nc, by rw [hz.2]; exact ho⟩, fun _ _ => ⟨od, mA, rfl, hl, rel⟩⟩
/-- isinstance(e, c), e the pinned exception -/
def rIsP (K : PySem.W.Frag) (a : Addr) (cls : Value) (d : Option Addr) : List V → Hp → VK → Prop := fun xs H Q => ∃ (C : Addr) (fs : List (Str × V)) (c : V) (cv : Value) (b : Bool), xs = [.ref a, c] ∧ (∀ u, RelV c u → u = cv) ∧ cls = .ref C ∧ (∀ b, d = some b → H b = some (.xd fs)) ∧ ExcC K C ∧
  PySem.W.kitOne K (.ref C) cv = some b ∧ Q (.bl b) H
theorem call_isP {cls : Value} {d : Option Addr} (hp : (a, oe) ∈ X.pn) (hz : Zc cls d oe) (hf : ∃ vs, oe.data = .fields vs) : CallR X (.builtin "isinstance") (rIsP X.K a cls d) := by
  intro pins s σ H xs us Q I r h
  obtain ⟨C, fs, c, cv, b, rfl, hcv, rfl, hd, T, kit, q⟩ := h
  obtain ⟨u1, u2, rfl, r1, r2⟩ := vals2 r
  obtain rfl : u1 = Value.ref a := r1
  obtain rfl := hcv _ r2
  obtain ⟨od, J, _⟩ := pin_inst I hp hf hz hd
  have isC : (PySem.W.clsIn X.K C).isSome = true := by
    obtain ⟨cd, hc, _⟩ := PySem.W.any_some T.hd
    rw [hc]
    rfl
  exact PySem.W.kia_one (PySem.W.kitx_exc isC T.hg T.hk T.hs T.ha T.hn T.ht T.hm) I.kIn J kit (fun z => nomatch z) fun tk => ⟨.bl b, H, I.tok tk, rfl, q⟩
/-- e.f, e the pinned exception -/
def tEfP (K : PySem.W.Frag) (a : Addr) (cls : Value) (dd : Option Addr) (f : Str) (te : TE) : TE := fun σ H Q => te σ H fun x H1 => ∃ (C d : Addr) (fs : List (Str × V)) (v : V), x = .ref a ∧ cls = .ref C ∧ dd = some d ∧ ExcC K C ∧ PySem.W.findIn K (.ref C) f = some none ∧ H1 d = some (.xd fs) ∧ fs.lookup f = some v ∧ Q v H1
theorem pe_efP {o : Expr} {te : TE} {f : Str} {pos : Pos} {cls : Value} {dd : Option Addr} (hp : (a, oe) ∈ X.pn) (hz : Zc cls dd oe) (hf : ∃ vs, oe.data = .fields vs) (he : PE X o te) (hb : attributeBase o f X.env (eval o X.env) = eval o X.env := by rfl) : PE X (.Attribute o f pos) (tEfP X.K a cls dd f te) := by
  refine ⟨fun pins s σ H Q I h => attr_of hb (thn (he.run pins s σ H _ I h) fun u s1 hh => ?_)⟩
  obtain ⟨x, H1, I1, rx, C, d, fs, v, rfl, rfl, rfl, T, no, hd, l, q⟩ := hh
  obtain rfl : u = Value.ref a := rx
  obtain ⟨od, J, k⟩ := pin_inst I1 hp hf hz (fun b e => Option.some.inj e ▸ hd)
  obtain ⟨o, mA, rfl, hl, rel⟩ := k d rfl
  obtain ⟨u, hu, ru⟩ := RelO.some_of (v := v) (o := mA f) (by rw [← l]; exact rel f)
  exact HandSPX.exc_get I1.kIn J T.hg T.hk T.hs (PySem.W.findObj_own T.hd no rfl (by rw [hl, hu])) (handed_of ru) ⟨v, H1, I1.tok _, ru, q⟩
end
/-- a def's promise where p is pinned, whatever is handled -/
structure FnP (P : Program) (w : World) (K : PySem.W.Frag) (mg : Str → Option Value) (base : Heap) (p : Addr × Obj) (k : Nat) (f : Addr) (fd : FuncData) (ps : List Str) (sp : Sp) : Prop where
  len : ∀ vs H Q E, sp vs H Q E → vs.length = ps.length
  run : ∀ (A : Around) (outer : List Env) (s : Shared) (H : Hp) (args : Args) (us : List Value) (vs : List V) (Q : VK) (E : XK), L2H.RoomH k A → L2H.PinOk outer H s p → Env0 P w K mg base A outer s H → BindsTo s fd args (ps.zip us) → Vals vs us → sp vs H Q E →
    codeAny (model P w) A (.call (.ref f) args) (CR CX0 outer P w H s Q E) s
section
variable {P : Program} {w : World} {K : PySem.W.Frag} {mg : Str → Option Value} {base : Heap} {p : Addr × Obj}
theorem okP {x qual : Str} {st : Stmt} {f : Addr} {fd : FuncData} {N ps : List Str} {k : Nat} {sp : Sp} (F : Fun K x qual st f fd) (S : FnScope N ps (defScope st)) (len : ∀ vs H Q E, sp vs H Q E → vs.length = ps.length)
    (hbody : ∀ (cdv : Value) (A : Around) (outer : List Env) (s : Shared) (H : Hp) (vs : List V) (Q : VK) (E : XK), L2H.RoomH k (A.deeper (envOfC qual (defScope st) s.heap.objs.size f cdv)) → sp vs H Q E →
      ∃ t, PSs (L2H.cxH CX0 P w K mg base N qual (defScope st) f cdv A outer s H E p).nox (defBody st) t ∧ t { nx := fun _ G => Q .non G, rt := Q } (start N vs) H) : FnP P w K mg base p (k + 1) f fd ps sp := by
  obtain ⟨oc, od, kV, doc, pm, an, cdv, ct, osl, rfl, lk, hcd⟩ := F.ex
  refine ⟨len, fun A outer s H args us vs Q E hr hpin e0 hb rv h => ?_⟩
  have hl := len _ _ _ _ h
  have up : ∀ b o, base.get? b = some o → s.heap.get? b = some o := fun b o e => (e0.bs b o e).1
  have inK : K.In s.heap := e0.mod.kin.keeps up
  obtain ⟨t, hp, ht⟩ := hbody cdv A outer s H vs Q E (hr.deeper _) h
  refine codeAny_call_function hr.depth (inK _ _ lk) rfl S.co S.gen rfl (PySem.W.codeRec_of inK hcd) (hb _ _ _ _ ?_)
  have kinds : ∀ y ∈ ps.zip us, (defScope st).names.lookup y.1 = some .local ∨ ((defScope st).names.lookup y.1 = some .cell ∧ ((cellsFrom (s.heap.objs.size + 1) (defScope st).names []).lookup y.1).isSome = true) := by
    rintro ⟨n, v⟩ hy
    exact (S.par n (List.of_mem_zip hy).1).imp id fun q => ⟨q, PySem.W.cellsFrom_some _ _ _ (.inl q)⟩
  refine wpAny_newFunctionEnv_cells S.kind kinds fun env he s1 x => ?_
  subst he
  refine ⟨(e0.mod.nolimit.keeps up).keeps x.toInCall.keep, codeAny_func ?_⟩
  refine wpAny_mono (hp.nox.run [] s1 (start N vs) H _ (L2H.inv_startH S hpin e0 hl rv x) ht) (fun fl s' hs => ?_) fun _ _ z => z
  cases fl with
  | ret u => exact let ⟨v, _, G, J, r, q⟩ := hs; ⟨v, G, J.os, J.bare, J.base, J.hok, r, q⟩
  | next => exact let ⟨_, G, J, q⟩ := hs; ⟨V.non, G, J.os, J.bare, J.base, J.hok, rfl, q⟩
  | brk => exact let ⟨_, _, _, q⟩ := hs; q.elim
  | cont => exact let ⟨_, _, _, q⟩ := hs; q.elim
end
section
variable {X : Cx} {k : Nat} {f : Addr} {fd : FuncData} {ps : List Str} {sp : Sp} {x : Str} {q pos : Pos} {e : Expr} {es : List Expr} {t : TA} {p : Addr × Obj}
theorem pe_callP (F : FnP X.prog X.w X.K X.mg X.base p k f fd ps sp) (hr : L2H.RoomH k X.A) (hp : p ∈ X.pn) (hg : Gl X x) (hm : X.mg x = some (.ref f)) (hk : PySem.W.keepIn X.K (.ref f) = true) (hb : L2.Binds X.K fd ps [])
    (ha : PA X (e :: es) t) (hdb : (x == ("__debug__" : Str)) = false := by decide) (he : starEach (e :: es) X.env = (false, eval e X.env) :: starEach es X.env := by rfl) (hpl : (backTo pos (starEach es X.env)).any (·.1) = false := by rfl) :
    PE X (.Call (.Name x q) (e :: es) [] pos) (tCall sp [] E0 t) := by
  refine ⟨fun pins s σ H Q I h => wpAny_Call_Name_kw (ld_glob I hg hm ?_ hdb)⟩
  refine PySem.W.callWith_K (h₀ := X.base) I.ok.mod.kin hk (thn (ha.run pos pins s σ H _ I h) fun us s1 ⟨vs, G, J, rv, z⟩ => ⟨J.kIn, wpAny_call ?_⟩) he hpl
  have z' : sp vs G Q E0 := by
    have y : sp (vs ++ []) G Q E0 := z
    rw [List.append_nil] at y
    exact y
  have hl : us.length = ps.length := rv.length.symm.trans (F.len _ _ _ _ z')
  have bt := hb s1 us J.kIn (by rw [List.append_nil]; exact hl)
  rw [List.append_nil] at bt
  obtain ⟨g1, g2, g3, g4, g5⟩ := J.pin p (List.mem_append_left _ hp)
  have pin : L2H.PinOk X.stack G s1 p := ⟨g1, g2, fun hm => (List.mem_cons.mp (J.stkSub _ hm)).elim g3 g4, g5⟩
  refine codeAny_mono (F.run X.A X.stack s1 G ⟨us, []⟩ us vs Q E0 hr pin J.env0 bt rv z') fun r s' y => ?_
  rcases r with er | (u | _ | _ | _)
  · exact False.elim y
  all_goals first | exact J.after y | exact False.elim y
end

/-! ### an own exception made to be raised -/
section
variable {X : Cx} {C fI : Addr} {k : Nat} {fd : FuncData} {ps : List Str} {sp : Sp}
/-- C(k = e, ..) -/
def tMkK (C : Addr) (sp : Sp) (g : List V → List V) (t : TA) : L2.St → Hp → XK → Prop := fun σ H Q => t σ H fun vs H1 => vs.length ≤ 1000 ∧ ∀ a, H1 a = none → sp (.ref a :: g vs) (upd H1 a (exo a C none))
  (fun v G => v = .non ∧ ∃ (d : Addr) (fs : List (Str × V)), G a = some (exo a C (some d)) ∧ G d = some (exd d fs) ∧ H1 d = none ∧ Q (.ref C) (some d) (upd (del G a) d (.xd fs))) E0
theorem pmk_oexK {x : Str} {kws : List Keyword} {t : TA} {p pos : Pos} {ks : List Str} {g : List Value → List Value} {gV : List V → List V} (T : OexC X.K C) (iC : PySem.W.findIn X.K (.ref C) "__init__" = some (some (.ref fI))) (tI : PySem.W.typeIn X.K (.ref fI) = some (.type "function")) (F : FnOk X.prog X.w X.K X.mg X.base CX0 k fI fd ps sp)
    (hr : Room (k + 1) X.A) (hb : ∀ (s : Shared) (x : Addr) (ws : List Value), X.K.In s.heap → (Value.ref x :: g ws).length = ps.length → BindsTo s fd ⟨[.ref x], ks.zip ws⟩ (ps.zip (.ref x :: g ws))) (rel : ∀ {zs : List V} {ws : List Value}, Vals zs ws → Vals (gV zs) (g ws))
    (hg : Gl X x) (hm : X.mg x = some (.ref C)) (ha : PK X kws t) (hdb : (x == ("__debug__" : Str)) = false := by decide) (hall : (backToKw pos (keywordEach kws X.env)).all (·.1.isSome) = true := by rfl) (hks : (backToKw pos (keywordEach kws X.env)).filterMap (·.1) = ks := by rfl)
    (hpl : ((backTo pos (starEach [] X.env)).any (·.1) || (backToKw pos (keywordEach kws X.env)).any (·.1.isNone)) = false := by rfl) : PMk X (.Call (.Name x p) [] kws pos) (tMkK C sp gV t) := by
  intro pins s σ H Q I h
  refine wpAny_Call_Name_kw (ld_glob I hg hm ?_ hdb)
  refine PySem.W.callWith_KW0 (h₀ := X.base) I.ok.mod.kin T.kC hall (thn (ha.run pos pins s σ H _ I h) fun ws s1 ⟨zs, H1, I1, rz, hz, q⟩ => ⟨I1.kIn, ?_⟩) hpl
  rw [hks]
  obtain ⟨nm, qq, N, bs, bm, sn, sub, ab, col, dd, k0, k1, k2, k3, k5, hC, hbm⟩ := T.cls
  obtain ⟨hp, gs, dr, tk, os⟩ := s1
  have big : hp.objs.size ≤ hp.objs.size + 1 := Nat.le_succ _
  have free : H1 (hp.objs.size + 1) = none := I1.hok.fresh big
  have keep : ∀ b o, hp.get? b = some o → ((hp.push (PySem.W.kdv_tup [])).push (PySem.HandSPX.excO C hp.objs.size)).get? b = some o := fun b o e => Heap.get?_push_of_some _ (Heap.get?_push_of_some _ e)
  have at1 : ((hp.push (PySem.W.kdv_tup [])).push (PySem.HandSPX.excO C hp.objs.size)).get? (hp.objs.size + 1) = some (PySem.HandSPX.excO C hp.objs.size) := by heap_get
  have J : Inv X pins σ (upd H1 (hp.objs.size + 1) (exo (hp.objs.size + 1) C none)) ⟨(hp.push (PySem.W.kdv_tup [])).push (PySem.HandSPX.excO C hp.objs.size), gs, dr, tk, os⟩ := I1.laid (t' := tk) keep big (exo_ok at1)
  have r2 : Vals (V.ref (hp.objs.size + 1) :: gV zs) (Value.ref (hp.objs.size + 1) :: g ws) := .cons rfl (rel rz)
  have want := q _ free
  have len := r2.length.symm.trans (F.len _ _ _ _ want)
  refine wpAny_call (KX.make_kw PySem.F.excBase_ValueError (fun Y => PySem.HandSPX.refsVE_contains Y bm hbm) (I1.kIn _ _ hC) (PySem.W.looks_findIn I1.kIn iC) (fun self => PySem.W.bind_fn I1.kIn self tI) (by rw [sizeLine_eq]; exact Nat.zero_le _) ?_)
  refine codeAny_mono (F.run _ X.stack _ _ ⟨[Value.ref (hp.objs.size + 1)], ks.zip ws⟩ _ _ _ E0 (hr.make C [] _) (J.env0.make C [] _) (hb _ _ ws J.kIn len) r2 want) fun r s' z => ?_
  cases r with
  | error er => exact z.elim
  | ok fl =>
    cases fl with
    | ret u =>
      obtain ⟨v, H2, os2, bare2, un2, hok2, rv, rfl, d, fs, ea, ed, hd1, q2⟩ := z
      obtain ⟨h2, g2, d2, t2, os'⟩ := s'
      exact ⟨rv, mk_end (raises_own T.exC T.tyC) I1 big keep un2 hok2 os2 bare2 ea ed hd1 q2⟩
    | next => exact False.elim z
    | brk => exact False.elim z
    | cont => exact False.elim z
/-- C(), without an __init__ -/
theorem pmk_ex0 {bmB : List Value} {B newId initId : String} {x : Str} {p pos : Pos} (F : ExcBaseFacts B newId initId bmB) (q : PySem.W.excIn X.K C bmB newId = true) (gC : X.mg x = some (.ref C)) (kC : PySem.W.keepIn X.K (.ref C) = true) (r : Raises X (.ref C)) (hg : Gl X x) (hdb : (x == ("__debug__" : Str)) = false := by decide) :
    PMk X (.Call (.Name x p) [] [] pos) (fun _ H Q => Q (.ref C) none H) := by
  intro pins s σ H Q I h
  refine wpAny_Call_Name_kw (ld_glob I hg gC (PySem.W.callWith_K0 I.kIn kC ?_) hdb)
  obtain ⟨bm, N, nm, qn, bs, hdct, sn, sub, ab, col, dd, k0, k1, k2, k3, k5, mN, hC, hN, hni, T⟩ := exc_obj I.kIn q
  exact wpAny_call_exc_subT (rest := []) F T hC hN hni (fun h' a hm => mk_of I hm r h (I.hok.gone hm.new)) (by rw [sizeLine_eq]; exact Nat.zero_le _)
end
end KL

namespace K1
open PySem PySem.Spec PyProof.Rows L2 KL
abbrev sMet : Stmt := topS 34
theorem scMet : FnScope ["number", "one", "two", "e"] ["number", "one", "two"] (defScope sMet) := ⟨rfl, rfl, rfl, by decide +kernel, rfl, by decide +kernel, by decide +kernel⟩
section
variable {P : Program} {w : World} {K : PySem.W.Frag} {mg : Str → Option Value} {base : Heap} {C fI : Nat → Addr} {fdE : Nat → FuncData} {B : Addr}
/-! ### _law_kept of the caught error -/
def spKeptP (C : Nat → Addr) (a : Addr) (cls : Value) (d : Option Addr) : Sp := fun vs H Q _ => ∃ (n : Nat) (dd : Addr) (u v : V), vs = [.int (n : Int), .ref a] ∧ (n = 15 ∨ n = 19) ∧ cls = .ref (C n) ∧ d = some dd ∧ H dd = some (.xd (fsE n u v)) ∧
  ∀ (p : Addr) (G : Hp), Kp (fun _ => False) H G → H p = none → p ≠ sysModules → G p = some (.lst (kept n u v)) → Q (.ref p) G
theorem ok_keptP {f : Addr} {fd : FuncData} {a : Addr} {oe : Obj} {cls : Value} {d : Option Addr} (F : Fun K "_law_kept" "_law_kept" sKept f fd) (S : Es K mg C fI fdE B) (hz : Zc cls d oe) (hf : ∃ vs, oe.data = .fields vs) : FnP P w K mg base (a, oe) 1 f fd ["number", "error"] (spKeptP C a cls d) := by
  refine okP F scKept (fun vs H Q E h => ?_) (fun cdv A outer s H vs Q E hr h => ?_)
  · obtain ⟨n, dd, u, v, rfl, _⟩ := h
    rfl
  · obtain ⟨n, dd, u, v, rfl, hn, hc, hd, hx, q⟩ := h
    have mem : (a, oe) ∈ [(a, oe)] := List.mem_cons_self
    refine ⟨_, pss_cons (ps_if (pt_cmpR op_lt (pv 0) pe_int (nomark _)) (pss_one (ps_ret (pe_lstM (pa_cons (pe_efP mem hz hf (pv 1)) pa_nil)))) pss_nil)
      (pss_cons (ps_if (pt_cmpR op_lt (pv 0) pe_int (nomark _)) (pss_one (ps_ret (pe_lstM (pa_cons (pe_efP mem hz hf (pv 1)) pa_nil)))) pss_nil)
      (pss_cons (ps_if (pt_cmpR op_eq (pv 0) pe_int (nomark _)) (pss_one (ps_ret (pe_lstM (pa_cons (pe_efP mem hz hf (pv 1)) pa_nil)))) pss_nil)
      (pss_one (ps_ret (pe_ifExp (pt_cmpR op_lt (pv 0) pe_int (nomark _)) (pe_lstM pa_nil) (pe_lstM (pa_cons (pe_efP mem hz hf (pv 1)) (pa_cons (pe_efP mem hz hf (pv 1)) pa_nil)))))))), ?_⟩
    have go : ∀ {l : List V}, kept n u v = l → ∀ p, H p = none → p ≠ sysModules → Q (.ref p) (upd H p (.lst l)) := fun e p np ms => q p _ (Kp.new np) np ms (by rw [e]; exact upd_same)
    have look : ∀ {f : Str} {u : V}, List.lookup f [(f, u)] = some u := fun {f u} => by simp [List.lookup]
    rcases hn with rfl | rfl
    · refine ⟨_, rfl, 15, 13, rfl, rfl, _, rfl, ite2 (fun c => absurd (of_decide_eq_true c) (by decide)) (fun c => ?_)⟩
      refine ⟨_, rfl, 15, 16, rfl, rfl, _, rfl, ite2 (fun c => ?_) (fun c => absurd (decide_eq_true (by decide)) c)⟩
      exact ⟨.ref a, rfl, C 15, dd, _, u, rfl, hc, hd, (S.c 15 (by decide)).x, (S.c 15 (by decide)).no, hx, look, by show 1 ≤ sizeLine; decide, go rfl⟩
    · refine ⟨_, rfl, 19, 13, rfl, rfl, _, rfl, ite2 (fun c => absurd (of_decide_eq_true c) (by decide)) (fun c => ?_)⟩
      refine ⟨_, rfl, 19, 16, rfl, rfl, _, rfl, ite2 (fun c => absurd (of_decide_eq_true c) (by decide)) (fun c => ?_)⟩
      refine ⟨_, rfl, rfl, _, rfl, ite2 (fun c => absurd (of_decide_eq_true c) (by decide)) (fun c => ?_)⟩
      refine ⟨_, rfl, 19, 19, rfl, rfl, _, rfl, ite2 (fun c => absurd (of_decide_eq_true c) (by decide)) (fun c => ?_)⟩
      exact ⟨.ref a, rfl, C 19, dd, _, u, rfl, hc, hd, S.t.x, S.t.n1, hx, rfl, .ref a, rfl, C 19, dd, _, v, rfl, hc, hd, S.t.x, S.t.n2, hx, rfl, by show 2 ≤ sizeLine; decide, go rfl⟩
/-! ### _law_met -/
/-- what is handed back -/
def metOf (n : Nat) (u v : V) : List V := if n = 0 then [.str "base", u] else if n = 1 then [.str "own", u] else if n = 2 then [.str "none"] else [.str "base", u, v]
def spMet : Sp := fun vs H Q _ => ∃ (n : Nat) (u v : V), vs = [.int (n : Int), u, v] ∧ n < 4 ∧ ∀ (p : Addr) (G : Hp), Kp (fun _ => False) H G → H p = none → p ≠ sysModules → G p = some (.lst (metOf n u v)) → Q (.ref p) G
def ts2 (K : PySem.W.Frag) : Addr → Value → Option Addr → TS := fun a cls d => tRet (tLstM (tCons (tC (.str "own")) (tCons (tEfP K a cls d "lot" (tVar 3)) tNil)))
def ts3 (K : PySem.W.Frag) (C : Nat → Addr) : Addr → Value → Option Addr → TS := fun a cls d => tSeq (tIfS (tTest (tCB (rIsP K a cls d) (tCons (tVar 3) (tCons (tC (.ref (C 18))) tNil)))) (tRet (tLstM (tCons (tC (.str "none")) tNil))) tNext)
  (tRet (tOp rCatM (tLst (tCons (tC (.str "base")) tNil)) (tCall (spKeptP C a cls d) [] E0 (tCons (tIf (tTest (tOp rEq (tVar 0) (tC (.int 0)))) (tC (.int 15)) (tC (.int 19))) (tCons (tVar 3) tNil)))))
theorem xd_kp {H : Hp} {a d : Addr} {o1 o2 o3 o4 : HO} (na : H a = none) (nd : H d = none) : Kp (fun _ => False) H (upd (del (upd (upd (upd H a o1) d o2) a o3) a) d o4) := fun b o _ e => by
  have ha : b ≠ a := ne_of_none e na
  have hd : b ≠ d := ne_of_none e nd
  rw [upd_ne hd, del_ne ha, upd_ne ha, upd_ne hd, upd_ne ha]
  exact e
theorem suite3 (S : Es K mg C fI fdE B) {H G : Hp} {m : Int} {n : Nat} {u v : V} {x d : Addr} {Q : VK} {D : Ends} (hD : D.rt = Q) (hmn : (m = 0 ∧ n = 15) ∨ (m = 3 ∧ n = 19)) (kp : Kp (fun _ => False) H G) (hd : G d = some (.xd (fsE n u v)))
    (q : ∀ (p : Addr) (J : Hp), Kp (fun _ => False) H J → H p = none → p ≠ sysModules → J p = some (.lst (.str "base" :: kept n u v)) → Q (.ref p) J) : ts3 K C x (.ref (C n)) (some d) D [some (.int m), some u, some v, some (.ref x)] G := by
  subst hD
  have hn : n < 20 := by omega
  have hn18 : decide (n = 18) = false := decide_eq_false (by omega)
  refine ⟨.ref x, rfl, C n, fsE n u v, .ref (C 18), .ref (C 18), false, rfl, (fun u h => h), rfl, (fun b e => Option.some.inj e ▸ hd), es_x S hn, (S.kit n 18 hn (by decide)).trans (by rw [hn18]), false, rfl, iteF ?_⟩
  refine ⟨by show 1 ≤ sizeLine; decide, fun l nl => ?_⟩
  have kl : Kp (fun _ => False) H (upd G l (.lst [.str "base"])) := kp.tr (Kp.new nl)
  have hd2 : (upd G l (.lst [.str "base"])) d = some (.xd (fsE n u v)) := (upd_ne (ne_of_none hd nl)).trans hd
  have call : spKeptP C x (.ref (C n)) (some d) [.int (n : Int), .ref x] (upd G l (.lst [.str "base"])) (fun w J => rCatM (.ref l) w J fun r J2 => D.rt r J2) E0 := by
    refine ⟨n, d, u, v, rfl, by omega, rfl, rfl, hd2, fun p J k np ms hp => ?_⟩
    refine ⟨l, p, _, _, rfl, rfl, k _ _ (fun z => z) upd_same, hp, ?_, fun r nr mr => q r _ ((kl.tr k).tr (Kp.new nr)) (kp_free (kl.tr k) nr) mr upd_same⟩
    have : (kept n u v).length ≤ 2 := by
      rcases hmn with ⟨_, rfl⟩ | ⟨_, rfl⟩
      · show 1 ≤ 2
        decide
      · show 2 ≤ 2
        decide
    show 1 + (kept n u v).length ≤ sizeLine
    rw [sizeLine_eq]
    omega
  refine ⟨.int m, rfl, rfl, _, rfl, ite2 (fun c => ?_) (fun c => ?_)⟩
  · have hm : m = 0 := V.int.inj (of_decide_eq_true c)
    obtain rfl : n = 15 := by omega
    exact ⟨.ref x, rfl, call⟩
  · have hm : m ≠ 0 := fun z => c (decide_eq_true (by rw [z]))
    obtain rfl : n = 19 := by omega
    exact ⟨.ref x, rfl, call⟩
theorem ok_met {f fK : Addr} {fd fdK : FuncData} (F : Fun K "_law_met" "_law_met" sMet f fd) (FK : Fun K "_law_kept" "_law_kept" sKept fK fdK) (gK : mg "_law_kept" = some (.ref fK)) (bK : L2.Binds K fdK ["number", "error"] []) (S : Es K mg C fI fdE B) (Z : Nb mg)
    (e0 : ∀ n, n < 20 → PySem.W.exmOne K (.ref (C n)) (.ref (C 0)) = some (decide (n = 0))) (e16 : ∀ n, n < 20 → PySem.W.exmOne K (.ref (C n)) (.ref (C 16)) = some (decide (n = 16))) (eB : ∀ n, n < 20 → PySem.W.exmOne K (.ref (C n)) (.ref B) = some true) (r18 : PySem.W.subIn K (.ref (C 18)) (.type "BaseException") = some true) (t18 : PySem.W.typeIn K (.ref (C 18)) = some (.type "type")) :
    FnOk P w K mg base CX0 4 f fd ["number", "one", "two"] spMet := by
  refine F.ok (k := 3) scMet (fun vs H Q E h => ?_) (fun cdv A outer s H vs Q E hr h => ?_)
  · obtain ⟨n, u, v, rfl, _⟩ := h
    rfl
  · obtain ⟨n, u, v, rfl, hn, q⟩ := h
    have hr2 : Room (1 + 1) _ := hr.mono (by decide)
    have hr1 : Room 1 _ := hr.mono (by decide)
    refine ⟨_, pss_one (ps_try_mix (Wo := fun _ _ _ _ => False) rfl rfl scMet.nd takes_none5 (fun W pn xe tk _ =>
        pss_cons (ps_if (pt_cmpR op_eq (pv 0) pe_int (nomark _)) (pss_one (ps_raise rfl tk (pmk_oex (S.c 15 (by decide)).o (S.c 15 (by decide)).i (S.c 15 (by decide)).t ((S.c 15 (by decide)).ini P w base) hr2 (S.c 15 (by decide)).bP .nil pass0 (by rfl) (S.c 15 (by decide)).g (pa_cons (pv 1) pa_nil)))) pss_nil)
        (pss_cons (ps_if (pt_cmpR op_eq (pv 0) pe_int (nomark _)) (pss_one (ps_raise rfl tk (pmk_oexK (g := fun ws => ws) (gV := fun vs => vs) (S.c 16 (by decide)).o (S.c 16 (by decide)).i (S.c 16 (by decide)).t ((S.c 16 (by decide)).ini P w base) hr2 (S.c 16 (by decide)).bK (fun r => r) (by rfl) (S.c 16 (by decide)).g (pk_cons (pv 1) pk_nil)))) pss_nil)
        (pss_cons (ps_if (pt_cmpR op_eq (pv 0) pe_int (nomark _)) (pss_one (ps_raise rfl tk (pmk_ex0 PySem.F.excBase_ValueError S.z18.q S.z18.g S.z18.k (raises_own r18 t18) (by rfl)))) pss_nil)
        (pss_one (ps_raise rfl tk (pmk_oex S.t.o S.t.i S.t.t (S.t.ini P w base) hr2 S.t.bP .nil pass0 (by rfl) S.t.g (pa_cons (pv 1) (pa_cons (pv 2) pa_nil))))))))
      (by refine' Cls.plain (c := .ref (C 0)) ?hc1 ?h1 ?r1; (case hc1 => exact ⟨by rfl, by decide, .inl (S.c 0 (by decide)).g⟩); (case h1 => exact (fun a oe cls d pn hz hf => pss_one (ps_ret (pe_lstM (pa_cons pe_str pa_nil))))); (case r1 => refine' Cls.named (i := 3) (c := .ref (C 16)) (ts := ts2 K) ?hc2 ?hi2 ?hn2 ?h2 ?r2; (case hc2 => exact ⟨by rfl, by decide, .inl (S.c 16 (by decide)).g⟩); (case hi2 => rfl); (case hn2 => rfl); (case h2 => exact (fun a oe cls d pn hz hf => pss_one (ps_ret (pe_lstM (pa_cons pe_str (pa_cons (pe_efP (by exact List.mem_cons_self) hz hf (pv 3)) pa_nil)))))); (case r2 => refine' Cls.named (i := 3) (c := .ref B) (ts := ts3 K C) ?hc3 ?hi3 ?hn3 ?h3 .nil; (case hc3 => exact ⟨by rfl, by decide, .inl S.zB.g⟩); (case hi3 => rfl); (case hn3 => rfl); (case h3 => exact (fun a oe cls d pn hz hf => pss_cons (ps_if (pt_val (pe_callB (call_isP (by exact List.mem_cons_self) hz hf) (by rfl) Z.isi (by decide +kernel) (pa_cons (pv 3) (pa_cons (pe_glob (by rfl) S.z18.g (rr _)) pa_nil)))) (pss_one (ps_ret (pe_lstM (pa_cons pe_str pa_nil)))) pss_nil) (pss_one (ps_ret (pe_op op_catM (pe_lst (pa_cons pe_str pa_nil)) (pe_callP (ok_keptP (a := a) FK S hz hf) ⟨hr1.dp, hr1.un⟩ (by exact List.mem_cons_self) (by rfl) gK FK.kp bK (pa_cons (pe_ifExp (pt_cmpR op_eq (pv 0) pe_int (nomark _)) pe_int pe_int) (pa_cons (pv 3) pa_nil)))))))))))), ?_⟩
    have no : ∀ {A : Prop}, false = true → A := fun z => absurd z Bool.false_ne_true
    have yes : ∀ {A : Prop}, true = false → A := fun z => absurd z (by decide)
    obtain rfl | rfl | rfl | rfl : n = 0 ∨ n = 1 ∨ n = 2 ∨ n = 3 := by omega
    · refine step rfl (fun e => ?_) (fun ne => absurd rfl ne)
      refine ⟨u, rfl, by show 1 ≤ 1000; decide, fun a na => ⟨a, u, rfl, upd_same, fun d nd nda => ⟨rfl, d, [("index", u)], upd_same, by rw [upd_ne nda]; exact upd_same, by rw [upd_ne nda] at nd; exact nd, ?_⟩⟩⟩
      rw [upd_ne nda] at nd
      refine ⟨false, e0 15 (by decide), no, fun _ => ⟨false, e16 15 (by decide), no, fun _ => ⟨true, eB 15 (by decide), fun _ x nx => ?_, yes⟩⟩⟩
      exact suite3 S rfl (.inl ⟨rfl, rfl⟩) (xd_kp na nd) upd_same q
    · refine step rfl (fun e => absurd e (by decide)) (fun _ => step rfl (fun e => ?_) (fun ne => absurd rfl ne))
      refine ⟨u, rfl, by show 1 ≤ 1000; decide, fun a na => ⟨a, u, rfl, upd_same, fun d nd nda => ⟨rfl, d, [("lot", u)], upd_same, by rw [upd_ne nda]; exact upd_same, by rw [upd_ne nda] at nd; exact nd, ?_⟩⟩⟩
      rw [upd_ne nda] at nd
      refine ⟨false, e0 16 (by decide), no, fun _ => ⟨true, e16 16 (by decide), fun _ x nx => ?_, yes⟩⟩
      refine ⟨.ref x, rfl, C 16, d, [("lot", u)], u, rfl, rfl, rfl, (S.c 16 (by decide)).x, (S.c 16 (by decide)).no, upd_same, by simp [List.lookup], by show 2 ≤ sizeLine; decide, fun p np ms => ?_⟩
      exact q p _ ((xd_kp na nd).tr (Kp.new np)) (kp_free (xd_kp na nd) np) ms upd_same
    · refine step rfl (fun e => absurd e (by decide)) (fun _ => step rfl (fun e => absurd e (by decide)) (fun _ => step rfl (fun e => ?_) (fun ne => absurd rfl ne)))
      refine ⟨false, e0 18 (by decide), no, fun _ => ⟨false, e16 18 (by decide), no, fun _ => ⟨true, eB 18 (by decide), fun _ x nx => ?_, yes⟩⟩⟩
      refine ⟨.ref x, rfl, C 18, [], .ref (C 18), .ref (C 18), true, rfl, (fun u h => h), rfl, (fun b e => nomatch e), S.z18.x, S.kit 18 18 (by decide) (by decide), true, rfl, iteT ?_⟩
      exact ⟨by show 1 ≤ sizeLine; decide, fun p np ms => q p _ (Kp.new np) np ms upd_same⟩
    · refine step rfl (fun e => absurd e (by decide)) (fun _ => step rfl (fun e => absurd e (by decide)) (fun _ => step rfl (fun e => absurd e (by decide)) (fun _ => ?_)))
      refine ⟨u, rfl, v, rfl, by show 2 ≤ 1000; decide, fun a na => ⟨a, u, v, rfl, upd_same, fun d nd nda => ⟨rfl, d, [("column", v), ("line", u)], upd_same, by rw [upd_ne nda]; exact upd_same, by rw [upd_ne nda] at nd; exact nd, ?_⟩⟩⟩
      rw [upd_ne nda] at nd
      refine ⟨false, e0 19 (by decide), no, fun _ => ⟨false, e16 19 (by decide), no, fun _ => ⟨true, eB 19 (by decide), fun _ x nx => ?_, yes⟩⟩⟩
      exact suite3 S rfl (.inr ⟨rfl, rfl⟩) (xd_kp na nd) upd_same q
end
end K1

/-! Own layer, part N: a loop over zip of a tuple, a tuple and a list. -/
namespace KL
open PySem PySem.Spec PyProof.Rows L2

def ItzM (K : PySem.W.Frag) (a b c : Addr) : It :=
  ⟨fun i H => ∃ (xs ys zs : List V) (x y z : V), SqT K H a xs ∧ SqT K H b ys ∧ SqL K H c zs ∧ xs[i]? = some x ∧ ys[i]? = some y ∧ zs[i]? = some z,
    fun i H v G => ∃ (T : Addr) (x y z : V), v = .ref T ∧ H T = none ∧ G = upd H T (.tup [x, y, z]) ∧ (∀ l, SqT K H a l → l[i]? = some x) ∧ (∀ l, SqT K H b l → l[i]? = some y) ∧ ∀ l, SqL K H c l → l[i]? = some z,
    fun i H => ∃ xs ys zs : List V, SqT K H a xs ∧ SqT K H b ys ∧ SqL K H c zs ∧ xs.length = i ∧ ys.length = i ∧ zs.length = i⟩
/-- how a zip over three stands at turn i, its cells from N on -/
def tnZ (N a b c : Addr) (i : Nat) (h : Heap) : Prop := IsZip h (N + 5) (N + 3) (N + 4) .none ∧ IsTupOf3 h (N + 3) (.ref N) (.ref (N + 1)) (.ref (N + 2)) ∧ (∃ a1 a2 a3, IsTupOf3 h (N + 4) a1 a2 a3) ∧ h.IsTupleIter N a i ∧ h.IsTupleIter (N + 1) b i ∧ h.IsListIter (N + 2) c i
abbrev fpZ (N : Addr) : List Addr := [N + 5, N + 3, N + 4, N, N + 1, N + 2]
section
variable {P : Program} {w : World} {K : PySem.W.Frag} {elts : List Expr} {kk : Nat} {tpos : Pos} {N a b c : Addr}
def goesZ {A : Around} (hh : A.handled = none) (la : a < N) (lb : b < N) (lc : c < N) (i1 i2 i3 : Array Value) :=
  GoesN.zip3 (prog := P) (w := w) (A := A) (elts := elts) (x1 := kk) (pos := tpos) (zip_sep3 (N := N) (fp1 := [a]) (fp2 := [b]) (fp3 := [c]) (fun d h => List.mem_singleton.mp h ▸ la) (fun d h => List.mem_singleton.mp h ▸ lb) (fun d h => List.mem_singleton.mp h ▸ lc))
    (Draws.tuple (A := A.in1) hh N a (Nat.ne_of_lt la) i1) (Draws.tuple (A := A.in1) hh (N + 1) b (Nat.ne_of_lt (Nat.lt_succ_of_lt lb)) i2) (Draws.list (A := A.in1) hh (N + 2) c (Nat.ne_of_lt (Nat.lt_succ_of_lt (Nat.lt_succ_of_lt lc))) i3)
theorem turnZ (la : a < N) (lb : b < N) (lc : c < N) : Turn P w K (.Tuple elts kk tpos) (ItzM K a b c) (fpZ N) (N + 5) (tnZ N a b c) where
  mem := List.mem_cons_self
  obj := fun i h ⟨hz, hI, ⟨x, y, u, hO⟩, ⟨o1, e1, _, d1⟩, ⟨o2, e2, _, d2⟩, ⟨o3, e3, _, d3⟩⟩ d hd => by
    have q : d = N + 5 ∨ d = N + 3 ∨ d = N + 4 ∨ d = N ∨ d = N + 1 ∨ d = N + 2 := by simpa using hd
    rcases q with rfl | rfl | rfl | rfl | rfl | rfl
    · exact ⟨_, hz, fun v q => nomatch q⟩
    · exact ⟨_, hI, fun v q => nomatch q⟩
    · exact ⟨_, hO, fun v q => nomatch q⟩
    · exact ⟨o1, e1, fun v q => by rw [d1] at q; cases q⟩
    · exact ⟨o2, e2, fun v q => by rw [d2] at q; cases q⟩
    · exact ⟨o3, e3, fun v q => by rw [d3] at q; cases q⟩
  keep := fun i h h' ⟨hz, hI, ⟨x, y, u, hO⟩, h1, h2, h3⟩ k => ⟨k _ (by simp) _ hz, k _ (by simp) _ hI, ⟨x, y, u, k _ (by simp) _ hO⟩, h1.at fun o q => k _ (by simp) o q, h2.at fun o q => k _ (by simp) o q, h3.at fun o q => k _ (by simp) o q⟩
  item := by
    intro X hP hw hK hc i pins s σ H E I hf st hg
    subst hP hw hK
    obtain ⟨hz, hI, hO, h1, h2, h3⟩ := st
    obtain ⟨xs, ys, zs, x, y, z, qx, qy, qz, gx, gy, gz⟩ := hg
    obtain ⟨l1, r1, p1, _⟩ := I.tuple qx
    obtain ⟨l2, r2, p2, _⟩ := I.tuple qy
    obtain ⟨l3, r3, p3, _⟩ := I.list qz
    obtain ⟨ux, hux, rx⟩ := r1.get gx
    obtain ⟨uy, huy, ry⟩ := r2.get gy
    obtain ⟨uz, huz, rz⟩ := r3.get gz
    have b1 : i < l1.length := (List.getElem?_eq_some_iff.mp hux).1
    have b2 : i < l2.length := (List.getElem?_eq_some_iff.mp huy).1
    have b3 : i < l3.length := (List.getElem?_eq_some_iff.mp huz).1
    refine (goesZ (I.ok.hd hc) la lb lc l1.toArray l2.toArray l3.toArray).goes i s _ E ?_ ⟨hz, hI, hO, ⟨h1, p1⟩, ⟨h2, p2⟩, ⟨h3, p3.isList⟩⟩ ?_
    · simp only [List.size_toArray]
      omega
    · rintro v h' tk ⟨T, x', y', u', rfl, big, e1, e2, e3, hT⟩ ⟨z1, z2, z3, ⟨t1, _⟩, ⟨t2, _⟩, ⟨t3, _⟩⟩ keep _
      obtain rfl : ux = x' := Option.some.inj (hux.symm.trans (by simpa using e1))
      obtain rfl : uy = y' := Option.some.inj (huy.symm.trans (by simpa using e2))
      obtain rfl : uz = u' := Option.some.inj (huz.symm.trans (by simpa using e3))
      have new : ObjOk X.prog X.w (upd H T (.tup [x, y, z])) h' T (.tup [x, y, z]) := ⟨by show 3 ≤ sizeLine; decide, [ux, uy, uz], .cons rx (.cons ry (.cons rz .nil)), hT⟩
      have J := I.turnedNew (t' := tk) (ch := fpZ N) (h' := h') (fun d o nd q => keep d o (fun hm => nd (by
        have q : d = N + 5 ∨ d = N + 4 ∨ d = N ∨ d = N + 1 ∨ d = N + 2 := by simpa using hm
        rcases q with rfl | rfl | rfl | rfl | rfl <;> simp)) q) hf big new
      refine ⟨.ref T, _, J, rfl, ⟨T, x, y, z, rfl, I.hok.fresh big, rfl, fun l hl => by rw [I.tuple_inj hl qx]; exact gx, fun l hl => by rw [I.tuple_inj hl qy]; exact gy, fun l hl => by rw [I.list_inj hl qz]; exact gz⟩, ⟨z1, z2, z3, t1, t2, t3⟩, fun d hd => ?_⟩
      have there : ∃ o, s.heap.get? d = some o := by
        have q : d = N + 5 ∨ d = N + 3 ∨ d = N + 4 ∨ d = N ∨ d = N + 1 ∨ d = N + 2 := by simpa using hd
        obtain ⟨a1, a2, a3, hO⟩ := hO
        obtain ⟨o1, w1, _⟩ := h1
        obtain ⟨o2, w2, _⟩ := h2
        obtain ⟨o3, w3, _⟩ := h3
        rcases q with rfl | rfl | rfl | rfl | rfl | rfl
        · exact ⟨_, hz⟩
        · exact ⟨_, hI⟩
        · exact ⟨_, hO⟩
        · exact ⟨_, w1⟩
        · exact ⟨_, w2⟩
        · exact ⟨_, w3⟩
      obtain ⟨o, ho⟩ := there
      rw [upd_ne (Nat.ne_of_lt (Nat.lt_of_lt_of_le (Heap.lt_size ho) big))]
      exact (hf d hd).1
  done := by
    intro X hP hw hK hc i pins s σ H E I hf st hg
    subst hP hw hK
    obtain ⟨hz, hI, hO, h1, h2, h3⟩ := st
    obtain ⟨xs, ys, zs, qx, qy, qz, n1, n2, n3⟩ := hg
    obtain ⟨l1, r1, p1, _⟩ := I.tuple qx
    obtain ⟨l2, r2, p2, _⟩ := I.tuple qy
    obtain ⟨l3, r3, p3, _⟩ := I.list qz
    have e : min (min l1.toArray.size l2.toArray.size) l3.toArray.size = i := by
      have k1 := r1.length
      have k2 := r2.length
      have k3 := r3.length
      simp only [List.size_toArray]
      omega
    have stop := (goesZ (P := X.prog) (w := X.w) (elts := elts) (kk := kk) (tpos := tpos) (I.ok.hd hc) la lb lc l1.toArray l2.toArray l3.toArray).stops s (fun s1 => Inv X pins σ H s1) E
    rw [e] at stop
    refine stop ⟨hz, hI, hO, ⟨h1, p1⟩, ⟨h2, p2⟩, ⟨h3, p3.isList⟩⟩ fun h' tk keep _ => I.turnedL (t' := tk) (ch := fpZ N) (fun d o nd q => keep d o (fun hm => nd (by
        have q : d = N + 5 ∨ d = N + 4 ∨ d = N ∨ d = N + 1 ∨ d = N + 2 := by simpa using hm
        rcases q with rfl | rfl | rfl | rfl | rfl <;> simp)) q) hf
  self := fun A i s Q E st h => wpAny_pyIter_zip st.1 h
end
def iZipM (K : PySem.W.Frag) (ta : TA) : TI := fun σ H R => ta σ H fun vs H1 => ∃ (a b c : Addr) (xs ys zs : List V), vs = [.ref a, .ref b, .ref c] ∧ SqT K H1 a xs ∧ SqT K H1 b ys ∧ SqL K H1 c zs ∧ R (ItzM K a b c) H1
theorem pi_zipM {X : Cx} {e1 e2 e3 : Expr} {ta : TA} {p pos tpos : Pos} {elts : List Expr} {kk : Nat} (hg : Gl X "zip") (hm : X.mg "zip" = none) (ha : PA X [e1, e2, e3] ta) (hs : starEach [e1, e2, e3] X.env = (false, eval e1 X.env) :: starEach [e2, e3] X.env := by rfl)
    (hpl : (backTo pos (starEach [e2, e3] X.env)).any (·.1) = false := by rfl) : PI X (.Tuple elts kk tpos) (.Call (.Name "zip" p) [e1, e2, e3] [] pos) (iZipM X.K ta) := by
  refine ⟨fun pins s σ H R I h => Call_ (ld_blt I hg hm PyProof.Rows.boot_zip (PyProof.Rows.callWith_type1 (thn (ha.run pos pins s σ H _ I h) fun us s1 ⟨vs, G, J, rv, q⟩ => ?_) hs hpl))⟩
  obtain ⟨a, b, c, xs, ys, zs, rfl, qx, qy, qz, q⟩ := q
  obtain ⟨l1, r1, p1, _⟩ := J.tuple qx
  obtain ⟨l2, r2, p2, _⟩ := J.tuple qy
  obtain ⟨l3, r3, p3, _⟩ := J.list qz
  obtain ⟨o1, g1, _⟩ := id p1
  obtain ⟨o2, g2, _⟩ := id p2
  cases rv with
  | cons ra rv =>
    cases rv with
    | cons rb rv =>
      cases rv with
      | cons rc rv =>
        cases rv
        cases ra
        cases rb
        cases rc
        refine zip_begins3 (begins_tuple a l1.toArray) (begins_tuple b l2.toArray) (begins_list c l3.toArray) p1 p2 p3.isList fun h' hz hI hO t1 t2 t3 hsz keep => ?_
        refine wpAny_pyIter_zip (s := { s1 with heap := h' }) hz ?_
        have J2 : Inv X pins σ G { s1 with heap := h' } := J.kept (t' := s1.toks) keep
        refine ⟨s1.heap.objs.size + 5, fpZ s1.heap.objs.size, tnZ s1.heap.objs.size a b c, ItzM X.K a b c, G, rfl, J2, turnZ (Heap.lt_size g1) (Heap.lt_size g2) p3.lt, ⟨hz, hI, ⟨_, _, _, hO⟩, ⟨_, t1, rfl, rfl⟩, ⟨_, t2, rfl, rfl⟩, ⟨_, t3, rfl, rfl⟩⟩, fun d hd => ?_, q⟩
        have big : s1.heap.objs.size ≤ d := by
          have y : d = s1.heap.objs.size + 5 ∨ d = s1.heap.objs.size + 3 ∨ d = s1.heap.objs.size + 4 ∨ d = s1.heap.objs.size ∨ d = s1.heap.objs.size + 1 ∨ d = s1.heap.objs.size + 2 := by simpa using hd
          rcases y with rfl | rfl | rfl | rfl | rfl | rfl <;> first | exact Nat.le_refl _ | exact Nat.le_add_right _ _
        exact J.fpOk big (J.hok.fresh big)
end KL

namespace KL
open PySem PySem.Spec PyProof.Rows L2
theorem for_zipM {K : PySem.W.Frag} {a b c : Addr} {xs ys zs : List V} {g : TG} {tb : TS} {D : Ends} {σ : L2.St} {H : Hp} (h1 : ys.length = xs.length) (h2 : zs.length = xs.length) (Pv : Nat → L2.St → Hp → Prop) (h0 : Pv 0 σ H) (hq : ∀ i σ H, Pv i σ H → SqT K H a xs ∧ SqT K H b ys ∧ SqL K H c zs)
    (hs : ∀ (i : Nat) (x y z : V) (T : Addr) (σ : L2.St) (H : Hp), xs[i]? = some x → ys[i]? = some y → zs[i]? = some z → Pv i σ H → H T = none → g (.ref T) σ (upd H T (.tup [x, y, z])) fun σ2 H2 => tb { D with nx := Pv (i + 1), ct := Pv (i + 1), bk := D.nx } σ2 H2) (hd : ∀ σ H, Pv xs.length σ H → D.nx σ H) :
    ∃ W : Nat → Nat → L2.St → Hp → Prop, (∃ m, W 0 m σ H) ∧ ∀ i m σ H, W i m σ H →
      ((ItzM K a b c).stop i H ∧ D.nx σ H) ∨ ((ItzM K a b c).go i H ∧ ∃ N : L2.St → Hp → Prop, (∀ σ' H', N σ' H' → ∃ m', m' < m ∧ W (i + 1) m' σ' H') ∧ ∀ v H', (ItzM K a b c).yld i H v H' → g v σ H' fun σ2 H2 => tb { D with nx := N, ct := N, bk := D.nx } σ2 H2) := by
  refine ⟨fun i m σ H => m = xs.length - i ∧ i ≤ xs.length ∧ Pv i σ H, ⟨xs.length, rfl, Nat.zero_le _, h0⟩, ?_⟩
  rintro i m σ H ⟨rfl, hi, p⟩
  obtain ⟨qx, qy, qz⟩ := hq i σ H p
  by_cases hlt : i < xs.length
  · have hx : xs[i]? = some xs[i] := List.getElem?_eq_getElem hlt
    have l1 : i < ys.length := by omega
    have l2 : i < zs.length := by omega
    have hy : ys[i]? = some ys[i] := List.getElem?_eq_getElem l1
    have hz : zs[i]? = some zs[i] := List.getElem?_eq_getElem l2
    refine .inr ⟨⟨xs, ys, zs, _, _, _, qx, qy, qz, hx, hy, hz⟩, Pv (i + 1), fun σ' H' p' => ⟨xs.length - (i + 1), by omega, rfl, hlt, p'⟩, fun v H' y => ?_⟩
    obtain ⟨T, x', y', z', rfl, hT, rfl, f1, f2, f3⟩ := y
    exact hs i x' y' z' T σ H (f1 xs qx) (f2 ys qy) (f3 zs qz) p hT
  · have e : i = xs.length := by omega
    subst e
    exact .inl ⟨⟨xs, ys, zs, qx, qy, qz, rfl, h1, h2⟩, hd σ H p⟩
end KL
namespace K1
open PySem PySem.Spec PyProof.Rows L2 KL
/-! ### what repr shows of what is kept -/
def keptD (n : Nat) (d e : PyData) : List PyData := if n < 17 then [d] else if n < 19 then [] else [d, e]
theorem kept_dq {Z : Addr → Prop} {H : Hp} {u v : V} {d e : PyData} (n : Nat) (hu : Dq Z H u d) (hv : Dq Z H v e) : DqL Z H (kept n u v) (keptD n d e) := by
  unfold kept keptD
  split
  · exact .cons hu .nil
  · split
    · exact .nil
    · exact .cons hu (.cons hv .nil)
/-- a list of data that may be shown -/
def Sh (ds : List PyData) : Prop := PyData.showableAll ds = true ∧ PyData.depthAll ds ≤ 60 ∧ (listText (PyData.shownAll ds)).length ≤ 1000000
theorem sh_of {n : Nat} {ds : List PyData} (hn : n ≤ 3) (h : ∀ d ∈ ds, Gd n d) (hl : ds.length ≤ 4) : Sh ds := by
  obtain ⟨h1, h2, h3, h4⟩ := gdAll h
  have z := listText_len_le (PyData.shownAll ds)
  have m : ds.length * lim n ≤ 4 * lim n := Nat.mul_le_mul_right _ hl
  have u : lim n ≤ lim 3 := by
    obtain rfl | rfl | rfl | rfl : n = 0 ∨ n = 1 ∨ n = 2 ∨ n = 3 := by omega
    all_goals decide
  have e : lim 3 = 1737 := by decide
  exact ⟨h1, by omega, by omega⟩
theorem kept_sh (n : Nat) {d e : PyData} (hd : Gd 2 d) (he : Gd 2 e) : Sh (keptD n d e) := by
  refine sh_of (n := 2) (by decide) (fun x hx => ?_) ?_
  · unfold keptD at hx
    split at hx
    · rw [List.mem_singleton.mp hx]
      exact hd
    · split at hx
      · exact absurd hx List.not_mem_nil
      · rcases List.mem_cons.mp hx with rfl | hx
        · exact hd
        · rw [List.mem_singleton.mp hx]
          exact he
  · unfold keptD
    split
    · exact Nat.le_of_ble_eq_true rfl
    · split <;> exact Nat.le_of_ble_eq_true rfl
theorem Gd.lst {n : Nat} {ds : List PyData} (h : ∀ d ∈ ds, Gd n d) (hl : ds.length ≤ 3) : Gd (n + 1) (.list ds) := by
  obtain ⟨h1, h2, h3, h4⟩ := gdAll h
  refine ⟨?_, ?_, ?_⟩
  · simp only [PyData.showable, h1]
  · simp only [PyData.depth]
    omega
  · simp only [PyData.shown]
    have := listText_len_le (PyData.shownAll ds)
    have m : ds.length * lim n ≤ 3 * lim n := Nat.mul_le_mul_right _ hl
    show _ ≤ 3 * lim n + 9
    omega
/-- what a caught error tells, as data -/
def metD (n : Nat) (d e : PyData) : List PyData := if n = 0 then [.str "base", d] else if n = 1 then [.str "own", d] else if n = 2 then [.str "none"] else [.str "base", d, e]
theorem met_dq {Z : Addr → Prop} {H : Hp} {u v : V} {d e : PyData} (n : Nat) (hu : Dq Z H u d) (hv : Dq Z H v e) : DqL Z H (metOf n u v) (metD n d e) := by
  unfold metOf metD
  split
  · exact .cons (.str _) (.cons hu .nil)
  · split
    · exact .cons (.str _) (.cons hu .nil)
    · split
      · exact .cons (.str _) .nil
      · exact .cons (.str _) (.cons hu (.cons hv .nil))
theorem met_gd (n : Nat) {d e : PyData} (hd : Gd 2 d) (he : Gd 2 e) : Gd 3 (.list (metD n d e)) := by
  have b : Gd 2 (.str "base") := Gd.of0 (gd_of (by decide +kernel))
  have o : Gd 2 (.str "own") := Gd.of0 (gd_of (by decide +kernel))
  have z : Gd 2 (.str "none") := Gd.of0 (gd_of (by decide +kernel))
  refine Gd.lst (n := 2) (fun x hx => ?_) ?_
  · unfold metD at hx
    split at hx
    · rcases List.mem_cons.mp hx with rfl | hx
      · exact b
      · rw [List.mem_singleton.mp hx]
        exact hd
    · split at hx
      · rcases List.mem_cons.mp hx with rfl | hx
        · exact o
        · rw [List.mem_singleton.mp hx]
          exact hd
      · split at hx
        · rw [List.mem_singleton.mp hx]
          exact z
        · rcases List.mem_cons.mp hx with rfl | hx
          · exact b
          · rcases List.mem_cons.mp hx with rfl | hx
            · exact hd
            · rw [List.mem_singleton.mp hx]
              exact he
  · unfold metD
    split
    · exact Nat.le_of_ble_eq_true rfl
    · split
      · exact Nat.le_of_ble_eq_true rfl
      · split <;> exact Nat.le_of_ble_eq_true rfl
theorem mets_sh {d e : PyData} (hd : Gd 2 d) (he : Gd 2 e) : Sh [.list (metD 0 d e), .list (metD 1 d e), .list (metD 2 d e), .list (metD 3 d e)] := by
  refine sh_of (n := 3) (by decide) (fun x hx => ?_) (Nat.le_of_ble_eq_true rfl)
  rcases List.mem_cons.mp hx with rfl | hx
  · exact met_gd 0 hd he
  rcases List.mem_cons.mp hx with rfl | hx
  · exact met_gd 1 hd he
  rcases List.mem_cons.mp hx with rfl | hx
  · exact met_gd 2 hd he
  rw [List.mem_singleton.mp hx]
  exact met_gd 3 hd he
abbrev sRight : Stmt := topS 35
theorem scRight : FnScope ["well", "begin", "turn", "number", "mate", "one", "two", "three", "first", "second", "third", "due", "at", "error", "kept", "base"] ["well"] (defScope sRight) := ⟨rfl, rfl, rfl, by decide +kernel, rfl, by decide +kernel, by decide +kernel⟩
end K1

namespace K1
open PySem PySem.Spec PyProof.Rows L2 KL
/-- what the law's parts stand on -/
structure Wh (K : PySem.W.Frag) (mg : Str → Option Value) (aT aO aN aD aP aM aK aC aI aU aE : Addr) (fdT fdO fdN fdD fdP fdM fdK fdC fdI fdU fdX : FuncData) (C fI : Nat → Addr) (fdE : Nat → FuncData) (B : Addr) : Prop where
  dr : Dr K mg aT aO aN aD fdT fdO fdN fdD
  es : Es K mg C fI fdE B
  nb : Nb mg
  P : Fun K "_law_by_place" "_law_by_place" sPlace aP fdP
  M : Fun K "_law_by_name" "_law_by_name" sName aM fdM
  Kp : Fun K "_law_kept" "_law_kept" sKept aK fdK
  cl : Fun K "_law_of_classes" "_law_of_classes" sClasses aC fdC
  I : Fun K "_law_is_of" "_law_is_of" sIsOf aI fdI
  U : Fun K "_law_due" "_law_due" sDue aU fdU
  E : Fun K "_law_met" "_law_met" sMet aE fdX
  gP : mg "_law_by_place" = some (.ref aP)
  gM : mg "_law_by_name" = some (.ref aM)
  gK : mg "_law_kept" = some (.ref aK)
  gC : mg "_law_of_classes" = some (.ref aC)
  gI : mg "_law_is_of" = some (.ref aI)
  gU : mg "_law_due" = some (.ref aU)
  gE : mg "_law_met" = some (.ref aE)
  bP : L2.Binds K fdP ["number", "one", "two"] []
  bM : L2.Binds K fdM ["number", "one", "two"] []
  bK : L2.Binds K fdK ["number", "error"] []
  bC : L2.Binds K fdC ["error"] []
  bI : L2.Binds K fdI ["number", "error"] []
  bU : L2.Binds K fdU ["number", "one", "two"] []
  bE : L2.Binds K fdX ["number", "one", "two"] []
  e0 : ∀ n, n < 20 → PySem.W.exmOne K (.ref (C n)) (.ref (C 0)) = some (decide (n = 0))
  e16 : ∀ n, n < 20 → PySem.W.exmOne K (.ref (C n)) (.ref (C 16)) = some (decide (n = 16))
  eB : ∀ n, n < 20 → PySem.W.exmOne K (.ref (C n)) (.ref B) = some true
  r18 : PySem.W.subIn K (.ref (C 18)) (.type "BaseException") = some true
  t18 : PySem.W.typeIn K (.ref (C 18)) = some (.type "type")
  xB : ExcC K B
theorem Mv.kp {a : Addr} {H G J : Hp} (h : Mv a H G) (k : Kp (fun _ => False) G J) : Mv a H J := by
  refine ⟨h.1.tr (k.wk fun _ z => z.elim), ?_⟩
  obtain ⟨x, y, z, q⟩ := h.2
  exact ⟨x, y, z, k a _ (fun z => z) q⟩
theorem dq_thing {a : Addr} {H G : Hp} {v : V} {d : PyData} (hW : Wl H a) (h : Dq (tracked H) G v d) : Dq (fun b => b = a) G v d := h.wk fun b e n => by
  obtain ⟨x, y, z, q⟩ := hW
  rw [e, q] at n
  cases n
section
variable {Z : Addr → Prop} {H : Hp} {p : Addr}
mutual
theorem dq_off (n : H p = none) : ∀ (d : PyData) (v : V), Dq Z H v d → Dq (fun b => Z b ∨ b = p) H v d
  | .none, _, h => by cases h; exact .non
  | .bool _, _, h => by cases h; exact .bl _
  | .int _, _, h => by cases h; exact .int _
  | .str _, _, h => by cases h; exact .str _
  | .list ds, _, h => by
    cases h with
    | lst e z m h => exact .lst e (fun q => q.elim z fun r => by rw [r, n] at e; cases e) m (dql_off n ds _ h)
  | .tuple ds, _, h => by
    cases h with
    | tup e z h => exact .tup e (fun q => q.elim z fun r => by rw [r, n] at e; cases e) (dql_off n ds _ h)
  | .dict kvs, _, h => by
    cases h with
    | dct e z m => exact .dct e (fun q => q.elim z fun r => by rw [r, n] at e; cases e) m
theorem dql_off (n : H p = none) : ∀ (ds : List PyData) (vs : List V), DqL Z H vs ds → DqL (fun b => Z b ∨ b = p) H vs ds
  | [], _, h => by cases h; exact .nil
  | d :: ds, _, h => by
    cases h with
    | cons h t => exact .cons (dq_off n d _ h) (dql_off n ds _ t)
end
end
def mD (d1 d2 : PyData) (i : Nat) : List PyData := (List.range i).map fun m => PyData.list (metD m d1 d2)
def spRight : Sp := fun vs H Q _ => ∃ a : Addr, vs = [.ref a] ∧ Wl H a ∧ ∀ G : Hp, Mv a H G → Q (.bl true) G
section
variable {P : Program} {w : World} {K : PySem.W.Frag} {mg : Str → Option Value} {base : Heap} {aT aO aN aD aP aM aK aC aI aU aE : Addr} {fdT fdO fdN fdD fdP fdM fdK fdC fdI fdU fdX : FuncData} {C fI : Nat → Addr} {fdE : Nat → FuncData} {B : Addr}
theorem ok_right {f : Addr} {fd : FuncData} (F : Fun K "_law_right" "_law_right" sRight f fd) (S : Wh K mg aT aO aN aD aP aM aK aC aI aU aE fdT fdO fdN fdD fdP fdM fdK fdC fdI fdU fdX C fI fdE B) : FnG P w K mg base CX0 7 f fd ["well"] spRight := by
  have GD : FnOk P w K mg base CX0 1 aD fdD ["well", "few"] spDraw := ok_draw S.dr.D S.dr.md S.dr.mi
  have GT : ∀ n : Nat, FnOk P w K mg base CX0 (4 + n) aT fdT ["well", "deep"] (spThing n) := ok_thing S.dr
  have GP : FnOk P w K mg base CX0 3 aP fdP ["number", "one", "two"] (spMk C) := ok_place S.P S.es
  have GM : FnOk P w K mg base CX0 3 aM fdM ["number", "one", "two"] (spMk C) := ok_name S.M S.es
  have GK : FnOk P w K mg base CX0 1 aK fdK ["number", "error"] (spKept C) := ok_kept S.Kp S.es
  have GC : FnOk P w K mg base CX0 1 aC fdC ["error"] (spClasses K C) := ok_classes S.cl S.es S.nb
  have GI : FnOk P w K mg base CX0 2 aI fdI ["number", "error"] (spIsOf C) := ok_isof S.I S.cl S.gC S.bC S.es S.nb
  have GU : FnOk P w K mg base CX0 1 aU fdU ["number", "one", "two"] spDue := ok_due S.U
  have GE : FnOk P w K mg base CX0 4 aE fdX ["number", "one", "two"] spMet := ok_met S.E S.Kp S.gK S.bK S.es S.nb S.e0 S.e16 S.eB S.r18 S.t18
  refine okG F (k := 6) scRight (fun vs H Q E h => ?_) (fun cdv A outer s H vs Q E hgd hr h => ?_)
  · obtain ⟨a, rfl, _⟩ := h
    rfl
  · obtain ⟨a, rfl, hW, q⟩ := h
    have r1 : Room 1 _ := hr.mono (by decide)
    have r2 : Room 2 _ := hr.mono (by decide)
    have r3 : Room 3 _ := hr.mono (by decide)
    have r4 : Room 4 _ := hr.mono (by decide)
    have r5 : Room (4 + 1) _ := hr.mono (by decide)
    have r6 : Room (4 + 2) _ := hr
    refine ⟨_, pss_cons (ps_set (i := 1) scRight.nd rfl (.inl rfl) (pe_call GD r1 (by rfl) S.dr.gD S.dr.D.kp S.dr.bD .nil pass0 (pa_cons (pv 0) (pa_cons (pe_int) pa_nil))))
      (pss_cons (ps_for PassesOwn.never rfl (pi_range1 (by rfl) S.nb.rng (pa_cons (pe_int) pa_nil)) (pg_name (i := 2) scRight.nd rfl (.inl rfl))
      (pss_cons (ps_par (i := 3) (j := 4) rfl scRight.nd rfl rfl (by decide) (by rfl) (by rfl) (pa_cons (pe_op op_mod (pe_callTy call_int1 (by rfl) S.nb.int (by decide +kernel) (pa_cons (pe_op op_add (pv 1) (pv 2)) pa_nil)) pe_int) (pa_cons (pe_call GD r1 (by rfl) S.dr.gD S.dr.D.kp S.dr.bD .nil pass0 (pa_cons (pv 0) (pa_cons (pe_int) pa_nil))) pa_nil)) (by rfl))
      (pss_cons (ps_asg (pe_tup (pa_cons (pe_call (GT 2) r6 (by rfl) S.dr.gT S.dr.T.kp S.dr.bT .nil pass0 (pa_cons (pv 0) (pa_cons (pe_int) pa_nil))) (pa_cons (pe_call (GT 1) r5 (by rfl) S.dr.gT S.dr.T.kp S.dr.bT .nil pass0 (pa_cons (pv 0) (pa_cons (pe_int) pa_nil))) (pa_cons (pe_call (GT 1) r5 (by rfl) S.dr.gT S.dr.T.kp S.dr.bT .nil pass0 (pa_cons (pv 0) (pa_cons (pe_int) pa_nil))) pa_nil)))) (pg_tup rfl (pgs_cons (pg_name (i := 5) scRight.nd rfl (.inr rfl)) (pgs_cons (pg_name (i := 6) scRight.nd rfl (.inr rfl)) (pgs_cons (pg_name (i := 7) scRight.nd rfl (.inl rfl)) pgs_nil)))))
      (pss_cons (ps_par (i := 8) (j := 9) rfl scRight.nd rfl rfl (by decide) (by rfl) (by rfl) (pa_cons (pe_call GP r3 (by rfl) S.gP S.P.kp S.bP .nil pass0 (pa_cons (pv 3) (pa_cons (pv 5) (pa_cons (pv 6) pa_nil)))) (pa_cons (pe_call GM r3 (by rfl) S.gM S.M.kp S.bM .nil pass0 (pa_cons (pv 4) (pa_cons (pv 6) (pa_cons (pv 7) pa_nil)))) pa_nil)) (by rfl))
      (pss_cons (ps_set (i := 10) scRight.nd rfl (.inl rfl) (pe_call GM r3 (by rfl) S.gM S.M.kp S.bM .nil pass0 (pa_cons (pv 3) (pa_cons (pv 7) (pa_cons (pv 5) pa_nil)))))
      (pss_cons (ps_set (i := 11) scRight.nd rfl (.inl rfl) (pe_lstM (pa_cons (pe_call GU r1 (by rfl) S.gU S.U.kp S.bU .nil pass0 (pa_cons (pv 3) (pa_cons (pv 5) (pa_cons (pv 6) pa_nil)))) (pa_cons (pe_call GU r1 (by rfl) S.gU S.U.kp S.bU .nil pass0 (pa_cons (pv 4) (pa_cons (pv 6) (pa_cons (pv 7) pa_nil)))) (pa_cons (pe_call GU r1 (by rfl) S.gU S.U.kp S.bU .nil pass0 (pa_cons (pv 3) (pa_cons (pv 7) (pa_cons (pv 5) pa_nil)))) pa_nil)))))
      (pss_one (ps_for PassesOwn.never rfl (pi_zipM (by rfl) S.nb.zip (pa_cons (pe_tup (pa_cons (pv 3) (pa_cons (pv 4) (pa_cons (pv 3) pa_nil)))) (pa_cons (pe_tup (pa_cons (pv 8) (pa_cons (pv 9) (pa_cons (pv 10) pa_nil)))) (pa_cons (pv 11) pa_nil)))) (pg_tup rfl (pgs_cons (pg_name (i := 12) scRight.nd rfl (.inl rfl)) (pgs_cons (pg_name (i := 13) scRight.nd rfl (.inl rfl)) (pgs_cons (pg_name (i := 14) scRight.nd rfl (.inl rfl)) pgs_nil))))
      (pss_one (ps_if (PW.pt (pw_or (pt_not (pt_val (pe_call GI r2 (by rfl) S.gI S.I.kp S.bI .nil pass0 (pa_cons (pv 12) (pa_cons (pv 13) pa_nil))))) (pw_or1 (pt_cmpR op_ne (pe_callB (call_repr hgd hr.units) (by rfl) S.nb.rep (by decide +kernel) (pa_cons (pe_call GK r1 (by rfl) S.gK S.Kp.kp S.bK .nil pass0 (pa_cons (pv 12) (pa_cons (pv 13) pa_nil))) pa_nil)) (pe_callB (call_repr hgd hr.units) (by rfl) S.nb.rep (by decide +kernel) (pa_cons (pv 14) pa_nil)) (nomark _))))) (pss_one (ps_ret (pe_bl))) pss_nil))))))))))
      (pss_cons (ps_asg (pe_tup (pa_cons (pe_call (GT 2) r6 (by rfl) S.dr.gT S.dr.T.kp S.dr.bT .nil pass0 (pa_cons (pv 0) (pa_cons (pe_int) pa_nil))) (pa_cons (pe_call (GT 1) r5 (by rfl) S.dr.gT S.dr.T.kp S.dr.bT .nil pass0 (pa_cons (pv 0) (pa_cons (pe_int) pa_nil))) (pa_cons (pe_ex0 PySem.F.excBase_ValueError S.es.zB.q S.es.zB.g S.es.zB.k (by rfl)) pa_nil)))) (pg_tup rfl (pgs_cons (pg_name (i := 5) scRight.nd rfl (.inr rfl)) (pgs_cons (pg_name (i := 6) scRight.nd rfl (.inr rfl)) (pgs_cons (pg_name (i := 15) scRight.nd rfl (.inl rfl)) pgs_nil)))))
      (pss_cons (ps_set (i := 11) scRight.nd rfl (.inl rfl) (pe_lstM (pa_cons (pe_lstM (pa_cons (pe_str) (pa_cons (pv 5) pa_nil))) (pa_cons (pe_lstM (pa_cons (pe_str) (pa_cons (pv 5) pa_nil))) (pa_cons (pe_lstM (pa_cons (pe_str) pa_nil)) (pa_cons (pe_lstM (pa_cons (pe_str) (pa_cons (pv 5) (pa_cons (pv 6) pa_nil)))) pa_nil))))))
      (pss_cons (ps_if (pt_cmpR op_ne (pe_callB (call_repr hgd hr.units) (by rfl) S.nb.rep (by decide +kernel) (pa_cons (pe_lc (own := [("number", 3)]) (g := gName 3) (tt := tYes) rfl scRight.nd (pi_range1 (by rfl) S.nb.rng (pa_cons (pe_int) pa_nil)) (blkOk_by (N := ["well", "begin", "turn", "number", "mate", "one", "two", "three", "first", "second", "third", "due", "at", "error", "kept", "base"]) (sc := defScope sRight) (by decide +kernel)) (fun _ _ _ _ _ => pg_name (i := 3) scRight.nd rfl (Or.inl rfl)) (fun _ _ _ _ _ => pts_nil) (fun _ _ _ _ _ => pe_call GE r4 (by rfl) S.gE S.E.kp S.bE .nil pass0 (pa_cons (pv 3) (pa_cons (pv 5) (pa_cons (pv 6) pa_nil))))) pa_nil)) (pe_callB (call_repr hgd hr.units) (by rfl) S.nb.rep (by decide +kernel) (pa_cons (pv 11) pa_nil)) (nomark _)) (pss_one (ps_ret (pe_bl))) pss_nil)
      (pss_one (ps_ret (pe_and (pe_callB call_isX (by rfl) S.nb.isi (by decide +kernel) (pa_cons (pv 15) (pa_cons (pe_bltn (u := .type "ValueError") (by rfl) S.nb.ve (by decide +kernel) (rt "ValueError")) pa_nil))) (pe_one (pe_cmpR op_notIn_seq pe_bl (pe_call GC r1 (by rfl) S.gC S.cl.kp S.bC .nil pass0 (pa_cons (pv 15) pa_nil)) (by with_unfolding_all rfl)))))))))), ?_⟩
    refine ⟨.ref a, rfl, a, 20, rfl, hW, by decide, by decide, fun b G0 b0 b1 mv0 => ?_⟩
    refine ⟨20, rfl, by decide, by decide, ?_⟩
    refine for_range (lo := 0) (n := 20) (fun i σ G => ∃ y2 y3 y4 y5 y6 y7 y8 y9 y10 y11 y12 y13 y14 : Option V, σ = [some (.ref a), some (.int b), y2, y3, y4, y5, y6, y7, y8, y9, y10, y11, y12, y13, y14, none] ∧ Mv a H G)
      ⟨none, none, none, none, none, none, none, none, none, none, none, none, none, rfl, mv0⟩ ?_ ?_
    · rintro i σ G hi ⟨y2, y3, y4, y5, y6, y7, y8, y9, y10, y11, y12, y13, y14, rfl, mv⟩
      obtain ⟨n, en, hn⟩ : ∃ n : Nat, (b + (0 + (i : Int))) % 20 = (n : Int) ∧ n < 20 := by
        have z0 : 0 ≤ (b + (0 + (i : Int))) % 20 := Int.emod_nonneg _ (by decide)
        have z1 : (b + (0 + (i : Int))) % 20 < 20 := Int.emod_lt_of_pos _ (by decide)
        exact ⟨_, (Int.toNat_of_nonneg z0).symm, by omega⟩
      refine ⟨.int b, rfl, .int (0 + (i : Int)), rfl, b, 0 + (i : Int), rfl, rfl, .inl ⟨_, rfl, _, 20, rfl, rfl, (by show (0 : Int) < 20; decide), .ref a, rfl, a, 20, rfl, mv.2, by decide, by decide, fun m0 G1 m1 m2 mv1 => ⟨.int (n : Int), .int m0, congrArg (fun z => [V.int z, V.int m0]) en, ?_⟩⟩⟩
      obtain ⟨m, rfl⟩ : ∃ m : Nat, m0 = (m : Int) := ⟨_, (Int.toNat_of_nonneg m1).symm⟩
      have hm : m < 20 := by omega
      refine ⟨.ref a, rfl, a, rfl, mv1.2, fun u1 d1 G2 mv2 dq1 gd1 => ⟨.ref a, rfl, a, rfl, mv2.2, fun u2 d2 G3 mv3 dq2 gd2 => ⟨.ref a, rfl, a, rfl, mv3.2, fun u3 d3 G4 mv4 dq3 gd3 => ⟨by show 3 ≤ sizeLine; decide, fun p np => ?_⟩⟩⟩⟩
      refine ⟨p, _, rfl, .inl (.inl upd_same), rfl, u1, _, rfl, u2, _, rfl, u3, _, rfl, rfl, ?_⟩
      have k5 : Kp (fun _ => False) G4 (upd G4 p (.tup [u1, u2, u3])) := Kp.new np
      have D1 : Dq (fun b => b = a) (upd G4 p (.tup [u1, u2, u3])) u1 d1 := ((dq_thing mv1.2 dq1).kp ((mv3.tr mv4).1)).kp (k5.wk fun _ z => z.elim)
      have D2 : Dq (fun b => b = a) (upd G4 p (.tup [u1, u2, u3])) u2 d2 := ((dq_thing mv2.2 dq2).kp mv4.1).kp (k5.wk fun _ z => z.elim)
      have D3 : Dq (fun b => b = a) (upd G4 p (.tup [u1, u2, u3])) u3 d3 := (dq_thing mv3.2 dq3).kp (k5.wk fun _ z => z.elim)
      have mv5 : Mv a H (upd G4 p (.tup [u1, u2, u3])) := ((((mv.tr mv1).tr mv2).tr mv3).tr mv4).kp k5
      have gd2' : Gd 2 d2 := gd2.up
      have gd3' : Gd 2 d3 := gd3.up
      generalize upd G4 p (.tup [u1, u2, u3]) = G5 at D1 D2 D3 mv5
      refine ⟨.int (n : Int), rfl, u1, rfl, u2, rfl, n, u1, u2, rfl, hn, fun e1 G6 k6 ne1 er1 => ⟨.int (m : Int), rfl, u2, rfl, u3, rfl, m, u2, u3, rfl, hm, fun e2 G7 k7 ne2 er2 => ⟨_, _, rfl, ?_⟩⟩⟩
      refine ⟨.int (n : Int), rfl, u3, rfl, u1, rfl, n, u3, u1, rfl, hn, fun e3 G8 k8 ne3 er3 => ?_⟩
      refine ⟨.int (n : Int), rfl, u1, rfl, u2, rfl, n, u1, u2, rfl, hn, fun q1 G9 k9 nq1 ms1 hq1 => ⟨.int (m : Int), rfl, u2, rfl, u3, rfl, m, u2, u3, rfl, hm, fun q2 G10 k10 nq2 ms2 hq2 => ⟨.int (n : Int), rfl, u3, rfl, u1, rfl, n, u3, u1, rfl, hn, fun q3 G11 k11 nq3 ms3 hq3 => ⟨by show 3 ≤ sizeLine; decide, fun pd npd mpd => ?_⟩⟩⟩⟩
      refine ⟨.int (n : Int), rfl, .int (m : Int), rfl, .int (n : Int), rfl, by show 3 ≤ sizeLine; decide, fun T1 nT1 => ⟨.ref e1, rfl, .ref e2, rfl, .ref e3, rfl, by show 3 ≤ sizeLine; decide, fun T2 nT2 => ?_⟩⟩
      have k14 : Kp (fun _ => False) G11 (upd (upd (upd G11 pd (.lst [.ref q1, .ref q2, .ref q3])) T1 (.tup [.int (n : Int), .int (m : Int), .int (n : Int)])) T2 (.tup [.ref e1, .ref e2, .ref e3])) := ((Kp.new npd).tr (Kp.new nT1)).tr (Kp.new nT2)
      have hpd : (upd (upd (upd G11 pd (.lst [.ref q1, .ref q2, .ref q3])) T1 (.tup [.int (n : Int), .int (m : Int), .int (n : Int)])) T2 (.tup [.ref e1, .ref e2, .ref e3])) pd = some (.lst [.ref q1, .ref q2, .ref q3]) := Kp.new (Z := fun _ => False) nT2 _ _ (fun z => z) (Kp.new (Z := fun _ => False) nT1 _ _ (fun z => z) upd_same)
      have hT1 : (upd (upd (upd G11 pd (.lst [.ref q1, .ref q2, .ref q3])) T1 (.tup [.int (n : Int), .int (m : Int), .int (n : Int)])) T2 (.tup [.ref e1, .ref e2, .ref e3])) T1 = some (.tup [.int (n : Int), .int (m : Int), .int (n : Int)]) := Kp.new (Z := fun _ => False) nT2 _ _ (fun z => z) upd_same
      have hT2 : (upd (upd (upd G11 pd (.lst [.ref q1, .ref q2, .ref q3])) T1 (.tup [.int (n : Int), .int (m : Int), .int (n : Int)])) T2 (.tup [.ref e1, .ref e2, .ref e3])) T2 = some (.tup [.ref e1, .ref e2, .ref e3]) := upd_same
      generalize upd (upd (upd G11 pd (.lst [.ref q1, .ref q2, .ref q3])) T1 (.tup [.int (n : Int), .int (m : Int), .int (n : Int)])) T2 (.tup [.ref e1, .ref e2, .ref e3]) = G14 at k14 hpd hT1 hT2
      refine ⟨.ref pd, rfl, T1, T2, pd, _, _, _, rfl, .inl (.inl hT1), .inl (.inl hT2), .inl (.inl hpd), ?_⟩
      have k8' : Kp (fun _ => False) G8 G14 := ((k9.tr k10).tr k11).tr k14
      have er1' : ErN C G14 e1 n u1 u2 := er_kp er1 ((k7.tr k8).tr k8')
      have er2' : ErN C G14 e2 m u2 u3 := er_kp er2 (k8.tr k8')
      have er3' : ErN C G14 e3 n u3 u1 := er_kp er3 k8'
      have hq1' : G14 q1 = some (.lst (kept n u1 u2)) := ((k10.tr k11).tr k14) _ _ (fun z => z) hq1
      have hq2' : G14 q2 = some (.lst (kept m u2 u3)) := (k11.tr k14) _ _ (fun z => z) hq2
      have hq3' : G14 q3 = some (.lst (kept n u3 u1)) := k14 _ _ (fun z => z) hq3
      have kk : Kp (fun _ => False) G5 G14 := ((k6.tr k7).tr k8).tr k8'
      have D1' : Dq (fun b => b = a) G14 u1 d1 := D1.kp (kk.wk fun _ z => z.elim)
      have D2' : Dq (fun b => b = a) G14 u2 d2 := D2.kp (kk.wk fun _ z => z.elim)
      have D3' : Dq (fun b => b = a) G14 u3 d3 := D3.kp (kk.wk fun _ z => z.elim)
      have mv14 : Mv a H G14 := mv5.kp kk
      refine for_zipM (xs := [.int (n : Int), .int (m : Int), .int (n : Int)]) (ys := [.ref e1, .ref e2, .ref e3]) (zs := [.ref q1, .ref q2, .ref q3]) rfl rfl (fun j σ J => ∃ y12 y13 y14 : Option V, σ = [some (.ref a), some (.int b), some (.int (0 + (i : Int))), some (.int (n : Int)), some (.int (m : Int)), some u1, some u2, some u3, some (.ref e1), some (.ref e2), some (.ref e3), some (.ref pd), y12, y13, y14, none] ∧ Kp (fun _ => False) G14 J)
        ⟨_, _, _, rfl, Kp.rfl'⟩ (fun j σ J ⟨_, _, _, _, k⟩ => ⟨.inl (.inl (k _ _ (fun z => z) hT1)), .inl (.inl (k _ _ (fun z => z) hT2)), .inl (.inl (k _ _ (fun z => z) hpd))⟩) ?_ ?_
      · rintro j x y z T σ J hx hy hz ⟨z12, z13, z14, rfl, kJ⟩ nT
        obtain ⟨nn, ee, qq, v1, v2, c1, c2, rfl, rfl, rfl, hnn, er, hq, E1, E2, g1, g2⟩ : ∃ (nn : Nat) (ee qq : Addr) (v1 v2 : V) (c1 c2 : PyData), x = .int (nn : Int) ∧ y = .ref ee ∧ z = .ref qq ∧ nn < 20 ∧ ErN C G14 ee nn v1 v2 ∧ G14 qq = some (.lst (kept nn v1 v2)) ∧ Dq (fun b => b = a) G14 v1 c1 ∧ Dq (fun b => b = a) G14 v2 c2 ∧ Gd 2 c1 ∧ Gd 2 c2 := by
          match j, hx, hy, hz with
          | 0, hx, hy, hz => exact ⟨n, e1, q1, u1, u2, d1, d2, (Option.some.inj hx).symm, (Option.some.inj hy).symm, (Option.some.inj hz).symm, hn, er1', hq1', D1', D2', gd1, gd2'⟩
          | 1, hx, hy, hz => exact ⟨m, e2, q2, u2, u3, d2, d3, (Option.some.inj hx).symm, (Option.some.inj hy).symm, (Option.some.inj hz).symm, hm, er2', hq2', D2', D3', gd2', gd3'⟩
          | 2, hx, hy, hz => exact ⟨n, e3, q3, u3, u1, d3, d1, (Option.some.inj hx).symm, (Option.some.inj hy).symm, (Option.some.inj hz).symm, hn, er3', hq3', D3', D1', gd3', gd1⟩
          | j + 3, hx, hy, hz => cases hx
        refine ⟨T, _, rfl, .inl (.inl upd_same), rfl, .int (nn : Int), _, rfl, .ref ee, _, rfl, .ref qq, _, rfl, rfl, ?_⟩
        have kT : Kp (fun _ => False) G14 (upd J T (.tup [.int (nn : Int), .ref ee, .ref qq])) := kJ.tr (Kp.new nT)
        refine ⟨.int (nn : Int), rfl, .ref ee, rfl, nn, ee, v1, v2, rfl, hnn, er_kp er kT, fun J1 kJ1 => ⟨true, rfl, iteF ?_⟩⟩
        have k1 := kT.tr kJ1
        have sh := kept_sh nn g1 g2
        refine ⟨.int (nn : Int), rfl, .ref ee, rfl, nn, ee, v1, v2, rfl, hnn, er_kp er k1, fun pk J2 kJ2 npk ms hpk => ?_⟩
        have k2 := k1.tr kJ2
        have dk : DqL (fun b => b = a) J2 (kept nn v1 v2) (keptD nn c1 c2) := kept_dq nn (E1.kp (k2.wk fun _ z => z.elim)) (E2.kp (k2.wk fun _ z => z.elim))
        refine ⟨_, pk, _, keptD nn c1 c2, rfl, hpk, dk, sh.1, sh.2.1, sh.2.2, .ref qq, rfl, _, qq, _, keptD nn c1 c2, rfl, k2 _ _ (fun z => z) hq, dk, sh.1, sh.2.1, sh.2.2, rfl, _, rfl, ?_⟩
        refine ite2 (fun c => ?_) (fun c => ⟨_, _, _, rfl, k2⟩)
        simp at c
      · rintro σ J ⟨z12, z13, z14, rfl, kJ⟩
        exact ⟨_, _, _, _, _, _, _, _, _, _, _, _, _, rfl, mv14.kp kJ⟩
    · rintro σ G ⟨y2, y3, y4, y5, y6, y7, y8, y9, y10, y11, y12, y13, y14, rfl, mv⟩
      refine ⟨.ref a, rfl, a, rfl, mv.2, fun u1 d1 G1 mv1 dq1 gd1 => ⟨.ref a, rfl, a, rfl, mv1.2, fun u2 d2 G2 mv2 dq2 gd2 => ?_⟩⟩
      intro eb neb
      refine ⟨by show 3 ≤ sizeLine; decide, fun p np => ?_⟩
      refine ⟨p, _, rfl, .inl (.inl upd_same), rfl, u1, _, rfl, u2, _, rfl, .ref eb, _, rfl, rfl, ?_⟩
      have k3 : Kp (fun _ => False) G2 (upd (upd G2 eb (ExO (.ref B) eb)) p (.tup [u1, u2, .ref eb])) := (Kp.new neb).tr (Kp.new np)
      have E1 : Er (upd (upd G2 eb (ExO (.ref B) eb)) p (.tup [u1, u2, .ref eb])) eb B [] := er_kp (.inr ⟨rfl, upd_same⟩) (Kp.new np)
      have D1 : Dq (fun b => b = a) (upd (upd G2 eb (ExO (.ref B) eb)) p (.tup [u1, u2, .ref eb])) u1 d1 := ((dq_thing mv.2 dq1).kp mv2.1).kp (k3.wk fun _ z => z.elim)
      have D2 : Dq (fun b => b = a) (upd (upd G2 eb (ExO (.ref B) eb)) p (.tup [u1, u2, .ref eb])) u2 d2 := (dq_thing mv1.2 dq2).kp (k3.wk fun _ z => z.elim)
      have mv3 : Mv a H (upd (upd G2 eb (ExO (.ref B) eb)) p (.tup [u1, u2, .ref eb])) := ((mv.tr mv1).tr mv2).kp k3
      have gd2' : Gd 2 d2 := gd2.up
      generalize upd (upd G2 eb (ExO (.ref B) eb)) p (.tup [u1, u2, .ref eb]) = G3 at E1 D1 D2 mv3
      refine ⟨u1, rfl, by show 2 ≤ sizeLine; decide, fun q0 n0 m0 => ⟨u1, rfl, by show 2 ≤ sizeLine; decide, fun q1 n1 m1 => ⟨by show 1 ≤ sizeLine; decide, fun q2 n2 m2 => ⟨u1, rfl, u2, rfl, by show 3 ≤ sizeLine; decide, fun q3 n3 m3 => ⟨by show 4 ≤ sizeLine; decide, fun pd npd mpd => ?_⟩⟩⟩⟩⟩
      have kA : Kp (fun _ => False) G3 (upd G3 q0 (.lst [.str "base", u1])) := Kp.new n0
      have eA : (upd G3 q0 (.lst [.str "base", u1])) q0 = some (.lst [.str "base", u1]) := upd_same
      generalize upd G3 q0 (.lst [.str "base", u1]) = GA at kA eA n1 n2 n3 npd
      have kB : Kp (fun _ => False) GA (upd GA q1 (.lst [.str "own", u1])) := Kp.new n1
      have eB : (upd GA q1 (.lst [.str "own", u1])) q1 = some (.lst [.str "own", u1]) := upd_same
      generalize upd GA q1 (.lst [.str "own", u1]) = GB at kB eB n2 n3 npd
      have kC : Kp (fun _ => False) GB (upd GB q2 (.lst [.str "none"])) := Kp.new n2
      have eC : (upd GB q2 (.lst [.str "none"])) q2 = some (.lst [.str "none"]) := upd_same
      generalize upd GB q2 (.lst [.str "none"]) = GC at kC eC n3 npd
      have kD : Kp (fun _ => False) GC (upd GC q3 (.lst [.str "base", u1, u2])) := Kp.new n3
      have eD : (upd GC q3 (.lst [.str "base", u1, u2])) q3 = some (.lst [.str "base", u1, u2]) := upd_same
      generalize upd GC q3 (.lst [.str "base", u1, u2]) = GD at kD eD npd
      have kE : Kp (fun _ => False) GD (upd GD pd (.lst [.ref q0, .ref q1, .ref q2, .ref q3])) := Kp.new npd
      have eE : (upd GD pd (.lst [.ref q0, .ref q1, .ref q2, .ref q3])) pd = some (.lst [.ref q0, .ref q1, .ref q2, .ref q3]) := upd_same
      generalize upd GD pd (.lst [.ref q0, .ref q1, .ref q2, .ref q3]) = GE at kE eE
      have kk : Kp (fun _ => False) G3 GE := (((kA.tr kB).tr kC).tr kD).tr kE
      have F1 := D1.kp (kk.wk fun _ z => z.elim)
      have F2 := D2.kp (kk.wk fun _ z => z.elim)
      have mvE : Mv a H GE := mv3.kp kk
      have f0 : GE q0 = some (.lst [.str "base", u1]) := (((kB.tr kC).tr kD).tr kE) _ _ (fun z => z) eA
      have f1 : GE q1 = some (.lst [.str "own", u1]) := ((kC.tr kD).tr kE) _ _ (fun z => z) eB
      have f2 : GE q2 = some (.lst [.str "none"]) := (kD.tr kE) _ _ (fun z => z) eC
      have f3 : GE q3 = some (.lst [.str "base", u1, u2]) := kE _ _ (fun z => z) eD
      have w0 : q0 ≠ a := fun z => (mv3.2.ne n0) z.symm
      have w1 : q1 ≠ a := fun z => ((mv3.kp kA).2.ne n1) z.symm
      have w2 : q2 ≠ a := fun z => ((mv3.kp (kA.tr kB)).2.ne n2) z.symm
      have w3 : q3 ≠ a := fun z => ((mv3.kp ((kA.tr kB).tr kC)).2.ne n3) z.symm
      have DL : DqL (fun b => b = a) GE [.ref q0, .ref q1, .ref q2, .ref q3] (mD d1 d2 4) := .cons (.lst f0 w0 m0 (met_dq 0 F1 F2)) (.cons (.lst f1 w1 m1 (met_dq 1 F1 F2)) (.cons (.lst f2 w2 m2 (met_dq 2 F1 F2)) (.cons (.lst f3 w3 m3 (met_dq 3 F1 F2)) .nil)))
      have sh : Sh (mD d1 d2 4) := mets_sh gd1 gd2'
      refine ⟨4, rfl, by decide, by decide, fun D nD => ?_⟩
      have up : ∀ {J : Hp} {l : List V}, Kp (fun _ => False) GE J → Kp (fun _ => False) GE (upd J D (.lst l)) := fun k b o z e => by
        rw [upd_ne (ne_of_none e nD)]
        exact k b o z e
      refine lc_range (lo := 0) (n := 4) (fun i J => ∃ l : List V, J D = some (.lst l) ∧ l.length = i ∧ Kp (fun _ => False) GE J ∧ DqL (fun b => b = a ∨ b = D) J l (mD d1 d2 i)) ⟨[], upd_same, rfl, Kp.new nD, .nil⟩ ?_ ?_
      · rintro i J hi ⟨l, eJ, len, kJ, L⟩
        refine ⟨rfl, tyes ?_⟩
        refine ⟨.int (0 + (i : Int)), rfl, u1, rfl, u2, rfl, i, u1, u2, (by show [V.int (0 + (i : Int)), u1, u2] = [V.int (i : Int), u1, u2]; rw [Int.zero_add]), hi, fun pk J2 kJ2 npk ms hpk => ?_⟩
        have eJ2 : J2 D = some (.lst l) := kJ2 _ _ (fun z => z) eJ
        have pD : pk ≠ D := fun z => by rw [z, eJ] at npk; cases npk
        have pa' : pk ≠ a := fun z => ((mvE.kp kJ).2.ne npk) z.symm
        refine ⟨l, eJ2, small1000 (by omega), l ++ [.ref pk], upd_same, by rw [List.length_append, len]; rfl, up (kJ.tr kJ2), ?_⟩
        have kz : Kp (fun b => b = a ∨ b = D) J (upd J2 D (.lst (l ++ [.ref pk]))) := (kJ2.wk fun _ z => z.elim).tr (Kp.at (.inr rfl))
        have kg : Kp (fun b => b = a ∨ b = D) GE (upd J2 D (.lst (l ++ [.ref pk]))) := (kJ.wk fun _ z => z.elim).tr kz
        have app := (L.kp kz).app (.cons (.lst (a := pk) (by rw [upd_ne pD]; exact hpk) (fun z => z.elim pa' pD) ms (met_dq i ((dq_off nD _ _ F1).kp kg) ((dq_off nD _ _ F2).kp kg))) .nil)
        have em : mD d1 d2 (i + 1) = mD d1 d2 i ++ [.list (metD i d1 d2)] := by
          unfold mD
          rw [List.range_succ, List.map_append]
          rfl
        rw [em]
        exact app
      · rintro J ⟨l, eJ, len, kJ, L⟩
        refine ⟨_, D, l, mD d1 d2 4, rfl, eJ, L, sh.1, sh.2.1, sh.2.2, .ref pd, rfl, _, pd, _, mD d1 d2 4, rfl, kJ _ _ (fun z => z) eE, DL.kp (kJ.wk fun _ z => z.elim), sh.1, sh.2.1, sh.2.2, rfl, _, rfl, ?_⟩
        refine ite2 (fun c => ?_) (fun c => ?_)
        · simp at c
        have er : Er J eb B [] := er_kp E1 (kk.tr kJ)
        refine ⟨.ref eb, rfl, eb, B, [], _, _, true, rfl, fun u h => h, S.xB, er, S.es.kitBV, true, rfl, iteT ?_⟩
        exact ⟨.ref eb, rfl, eb, B, [], fun _ => false, rfl, er, S.xB, fun m hm => S.es.kitBB m hm, fun pk J2 kJ2 npk hp => ⟨pk, _, rfl, .inl (.inl (.inl hp)), rfl, rfl, q J2 ((mvE.kp kJ).kp kJ2)⟩⟩
end
end K1

namespace K1
open PySem PySem.Spec PyProof.Rows L2 KL
abbrev sLaw : Stmt := topS 36
theorem scLaw : FnScope ["script", "lap"] ["script"] (defScope sLaw) := ⟨rfl, rfl, rfl, by decide +kernel, rfl, by decide +kernel, by decide +kernel⟩
def spLaw (K : PySem.W.Frag) : Sp := fun vs H Q _ => ∃ (a : Addr) (ns : List Int), vs = [.ref a] ∧ SqL K H a (ns.map V.int) ∧ ns.length ≤ 63 ∧ ∀ G : Hp, Q (.bl true) G
section
variable {P : Program} {w : World} {K : PySem.W.Frag} {mg : Str → Option Value} {base : Heap} {aT aO aN aD aP aM aK aC aI aU aE : Addr} {fdT fdO fdN fdD fdP fdM fdK fdC fdI fdU fdX : FuncData} {C fI : Nat → Addr} {fdE : Nat → FuncData} {B : Addr}
theorem ok_law {f fW fR : Addr} {fd fdW fdR : FuncData} (F : Fun K "law" "law" sLaw f fd) (FW : Fun K "_law_well" "_law_well" sWell fW fdW) (FR : Fun K "_law_right" "_law_right" sRight fR fdR) (gW : mg "_law_well" = some (.ref fW)) (gR : mg "_law_right" = some (.ref fR)) (bW : L2.Binds K fdW ["script", "lap"] []) (bR : L2.Binds K fdR ["well"] [])
    (S : Wh K mg aT aO aN aD aP aM aK aC aI aU aE fdT fdO fdN fdD fdP fdM fdK fdC fdI fdU fdX C fI fdE B) (ma : mg "abs" = none) : FnG P w K mg base CX0 8 f fd ["script"] (spLaw K) := by
  have GW : FnOk P w K mg base CX0 1 fW fdW ["script", "lap"] (spWell K) := ok_well FW S.nb.int S.nb.len ma
  have GR : FnG P w K mg base CX0 7 fR fdR ["well"] spRight := ok_right FR S
  refine okG F (k := 7) scLaw (fun vs H Q E h => ?_) (fun cdv A outer s H vs Q E hgd hr h => ?_)
  · obtain ⟨a, ns, rfl, _⟩ := h
    rfl
  · obtain ⟨a, ns, rfl, hS, hl, q⟩ := h
    refine ⟨_, pss_one (ps_ret (pe_callB (cr_all rfl) (by rfl) S.nb.all (by decide +kernel) (pa_cons
      (pe_lc (own := [("lap", 1)]) (g := gName 1) (tt := tYes) rfl scLaw.nd
        (pi_range1 (by rfl) S.nb.rng (pa_cons (pe_callB (call_max2 rfl) (by rfl) S.nb.max (by decide +kernel) (pa_cons pe_int (pa_cons (pe_callB (call_min2 rfl) (by rfl) S.nb.min (by decide +kernel) (pa_cons (pe_callB call_len_seq (by rfl) S.nb.len PySem.boot_len (pa_cons (pv 0) pa_nil)) (pa_cons pe_int pa_nil))) pa_nil))) pa_nil))
        (blkOk_by (N := ["script", "lap"]) (sc := defScope sLaw) (by decide +kernel)) (fun _ _ _ _ _ => pg_name (i := 1) scLaw.nd rfl (Or.inl rfl)) (fun _ _ _ _ _ => pts_nil)
        (fun _ _ _ _ _ => pe_callG GR hgd hr (by rfl) gR FR.kp bR (pa_cons (pe_call GW (hr.mono (by decide)) (by rfl) gW FW.kp bW .nil pass0 (pa_cons (pv 0) (pa_cons (pv 1) pa_nil))) pa_nil))) pa_nil))), ?_⟩
    refine ⟨.ref a, rfl, a, ns.map V.int, rfl, .inl hS, _, _, rfl, _, _, rfl, ?_⟩
    rw [List.length_map]
    obtain ⟨c, ec, hc⟩ : ∃ c : Nat, (if (if (3 : Int) < (ns.length : Int) then (3 : Int) else (ns.length : Int)) > 2 then (if (3 : Int) < (ns.length : Int) then (3 : Int) else (ns.length : Int)) else 2) = (c : Int) ∧ c ≤ 3 := by
      refine ⟨_, (Int.toNat_of_nonneg (a := if (if (3 : Int) < (ns.length : Int) then (3 : Int) else (ns.length : Int)) > 2 then (if (3 : Int) < (ns.length : Int) then (3 : Int) else (ns.length : Int)) else 2) ?_).symm, ?_⟩
      · split <;> split <;> omega
      · split <;> split <;> omega
    refine ⟨(c : Int), congrArg (fun z => [V.int z]) ec, by omega, by omega, fun D nD => ?_⟩
    refine lc_range (lo := 0) (n := c) (fun i J => J D = some (.lst ((List.replicate i true).map V.bl)) ∧ Kp (fun _ => False) H J) ⟨upd_same, Kp.new nD⟩ ?_ ?_
    · rintro i J hi ⟨eJ, kJ⟩
      refine ⟨rfl, tyes ?_⟩
      refine ⟨.ref a, rfl, .int (0 + (i : Int)), rfl, a, ns, i, (by show [V.ref a, V.int (0 + (i : Int))] = [V.ref a, V.int (i : Int)]; rw [Int.zero_add]), Same.seq (fun b o e => kJ b o (fun z => z) e) hS, hl, fun p G kG np hW => ?_⟩
      refine ⟨p, rfl, hW, fun G2 mv => ?_⟩
      have pD : D ≠ p := fun z => by rw [← z, eJ] at np; cases np
      have eG : G2 D = some (.lst ((List.replicate i true).map V.bl)) := mv.1 _ _ pD (kG _ _ (fun z => z) eJ)
      refine ⟨_, eG, small1000 (by rw [List.length_map, List.length_replicate]; omega), ?_, fun b o z e => ?_⟩
      · rw [upd_same, List.replicate_succ', List.map_append]
        rfl
      · have e1 := kJ b o z e
        have bp : b ≠ p := ne_of_none e1 np
        rw [upd_ne (ne_of_none e nD)]
        exact mv.1 _ _ bp (kG _ _ z e1)
    · rintro J ⟨eJ, kJ⟩
      refine ⟨D, List.replicate c true, rfl, .inl (.inl eJ), ?_⟩
      have e : (List.replicate c true).all id = true := by simp
      rw [e]
      exact q J
end
end K1

namespace K1
open PySem PySem.Spec PyProof.Rows L2 KL
/-! ### the texts of __init__ -/
def jx (n : Nat) : Nat := if n < 16 then n + 2 else if n = 16 then 19 else 18
abbrev stI (n : Nat) : Stmt := inClass (topS (jx n)) 0
structure IniTxt (f : Str) (st : Stmt) : Prop where
  b : ∃ q1 q2 q3 q4 : Pos, defBody st = [.Assign [.Attribute (.Name "self" q1) f q2] (.Name f q3) q4] ∧ ∀ env, swapsWith (.Name f q3) (some (.Attribute (.Name "self" q1) f q2)) q4.line env = pure false
  s : FnScope ["self", f] ["self", f] (defScope st)
  l1 : (defScope st).names.lookup f = some NameKind.local
  l2 : (defScope st).names.lookup ("self" : Str) = some NameKind.local
  d1 : (f == ("__debug__" : Str)) = false
  d2 : (f == ("__classdict__" : Str)) = false
  p : ∀ (qual : Str) (kV doc pm : Value) (an : Option Addr) (cdv ct : Value) (us : List Value), us.length = (["self", f] : List Str).length → bindArgs (PySem.W.fnOf "__init__" qual (defArgs st) (defBody st) (defScope st) .none kV doc pm an cdv ct) ⟨us, []⟩ = pure ((["self", f] : List Str).zip us)
  k : ∀ (qual : Str) (kV doc pm : Value) (an : Option Addr) (cdv ct : Value) (y u : Value), bindArgs (PySem.W.fnOf "__init__" qual (defArgs st) (defBody st) (defScope st) .none kV doc pm an cdv ct) ⟨[y], [(f, u)]⟩ = pure ([("self", y), (f, u)] : List (Str × Value))
theorem ini_txt : ∀ n, n < 17 → IniTxt (fld n) (stI n) := by
  intro n hn
  have c : n = 0 ∨ n = 1 ∨ n = 2 ∨ n = 3 ∨ n = 4 ∨ n = 5 ∨ n = 6 ∨ n = 7 ∨ n = 8 ∨ n = 9 ∨ n = 10 ∨ n = 11 ∨ n = 12 ∨ n = 13 ∨ n = 14 ∨ n = 15 ∨ n = 16 := by omega
  rcases c with rfl | rfl | rfl | rfl | rfl | rfl | rfl | rfl | rfl | rfl | rfl | rfl | rfl | rfl | rfl | rfl | rfl
  all_goals exact ⟨⟨_, _, _, _, rfl, fun _ => rfl⟩, ⟨rfl, rfl, rfl, by decide +kernel, rfl, by decide +kernel, by decide +kernel⟩, by decide +kernel, by decide +kernel, by decide +kernel, by decide +kernel, fun _ _ _ _ _ _ _ us hl => match us, hl with | [_, _], _ => rfl, fun _ _ _ _ _ _ _ _ _ => rfl⟩
end K1

namespace K1
open PySem PySem.Spec PyProof.Rows L2 KL
abbrev stT : Stmt := stI 19
theorem scT : FnScope ["self", "line", "column"] ["self", "line", "column"] (defScope stT) := ⟨rfl, rfl, rfl, by decide +kernel, rfl, by decide +kernel, by decide +kernel⟩
theorem upd_swap {H : Hp} {a d : Addr} {x y z : HO} (h : d ≠ a) : upd (upd (upd H d x) a y) d z = upd (upd H d z) a y := by
  funext b
  by_cases e : b = d
  · subst e
    rw [upd_same, upd_ne h, upd_same]
  · by_cases e2 : b = a
    · subst e2
      rw [upd_ne e, upd_same, upd_same]
    · rw [upd_ne e, upd_ne e2, upd_ne e, upd_ne e2, upd_ne e]
section
variable {P : Program} {w : World} {K : PySem.W.Frag} {mg : Str → Option Value} {base : Heap} {C fI : Addr} {fd : FuncData}
theorem ok_ini2 {qual : Str} (F : Fun K "__init__" qual stT fI fd) (T : OexC K C) (n1 : PySem.W.findIn K (.ref C) "line" = some none) (n2 : PySem.W.findIn K (.ref C) "column" = some none) : FnOk P w K mg base CX0 1 fI fd ["self", "line", "column"] (spIni2 C) := by
  refine F.ok scT (fun vs H Q E h => ?_) (fun cdv A outer s H vs Q E hr h => ?_)
  · obtain ⟨a, u, v, rfl, _⟩ := h
    rfl
  · obtain ⟨a, u, v, rfl, ha, q⟩ := h
    refine ⟨_, pss_cons (ps_ost (pv 0) (pv 1)) (pss_one (ps_ost (pv 0) (pv 2))), ?_⟩
    refine ⟨u, rfl, .ref a, rfl, a, C, rfl, T, n1, .inl ⟨ha, fun d nd ne => ?_⟩⟩
    refine ⟨v, rfl, .ref a, rfl, a, C, rfl, T, n2, .inr ⟨d, [("line", u)], upd_same, by rw [upd_ne ne]; exact upd_same, by show 1 ≤ 900; decide, ?_⟩⟩
    rw [upd_swap ne]
    exact q d nd ne
end
/-! ### what the written part says, by tests -/
def isB (o : Option (Option Value)) (s : String) : Bool := match o with
  | some (some (.builtin t)) => t == s
  | _ => false
theorem isB_of {o : Option (Option Value)} {s : String} (h : isB o s = true) : o = some (some (.builtin s)) := by
  unfold isB at h
  split at h
  · rw [beq_iff_eq.mp h]
  · cases h
def isN (o : Option (Option Value)) : Bool := match o with
  | some none => true
  | _ => false
theorem isN_of {o : Option (Option Value)} (h : isN o = true) : o = some none := by
  unfold isN at h
  split at h
  · rfl
  · cases h
def isT (o : Option Value) (s : String) : Bool := match o with
  | some (.type t) => t == s
  | _ => false
theorem isT_of {o : Option Value} {s : String} (h : isT o s = true) : o = some (.type s) := by
  unfold isT at h
  split at h
  · rw [beq_iff_eq.mp h]
  · cases h
def isO (o : Option Bool) (b : Bool) : Bool := match o with
  | some c => c == b
  | none => false
theorem isO_of {o : Option Bool} {b : Bool} (h : isO o b = true) : o = some b := by
  unfold isO at h
  split at h
  · rw [beq_iff_eq.mp h]
  · cases h
section
variable (K : PySem.W.Frag)
def ckCls (C : Addr) : Bool := isB (PySem.W.findIn K (.ref C) "__getattribute__") "BaseException.__getattribute__" && (isN (PySem.W.findIn K (.ref C) "__getattr__") && (isO (PySem.W.subIn K (.ref C) (.type "BaseException")) true && (PySem.W.hasDictIn K C &&
  (isB (PySem.W.findIn K (.ref C) "__class__") "object.__class__" && (isO (PySem.W.mroIn K C (.type "object")) true && (PySem.W.keepIn K (.ref C) && (isT (PySem.W.typeIn K (.ref C)) "type" && isB (PySem.W.findIn K (.ref C) "__setattr__") "object.__setattr__")))))))
def ck0 : Bool := isB (PySem.W.specialIn K (.builtin "object.__class__") "__get__") "getset_descriptor.__get__" && isO (PySem.W.takesIn K (.builtin "object.__class__")) true
variable (L : List Addr) (B : Addr)
def ckAll : Bool := (List.range 20).all (fun n => ckCls K (L.getD n 0)) && (ckCls K B && ck0 K)
def ckKit : Bool := (List.range 20).all fun n => (List.range 20).all fun m => isO (PySem.W.kitOne K (.ref (L.getD n 0)) (.ref (L.getD m 0))) (decide (n = m))
def ckKitB : Bool := (List.range 20).all (fun n => isO (PySem.W.kitOne K (.ref (L.getD n 0)) (.ref B)) true && isO (PySem.W.kitOne K (.ref B) (.ref (L.getD n 0))) false) && isO (PySem.W.kitOne K (.ref B) (.type "ValueError")) true
def ckKitV : Bool := (List.range 20).all fun n => isO (PySem.W.kitOne K (.ref (L.getD n 0)) (.type "ValueError")) true && (isO (PySem.W.kitOne K (.ref (L.getD n 0)) (.type "ArithmeticError")) false && (isO (PySem.W.kitOne K (.ref (L.getD n 0)) (.type "LookupError")) false &&
  (isO (PySem.W.kitOne K (.ref (L.getD n 0)) (.type "TypeError")) false && isO (PySem.W.kitOne K (.ref (L.getD n 0)) (.type "RuntimeError")) false)))
def ckExm : Bool := (List.range 20).all fun n => isO (PySem.W.exmOne K (.ref (L.getD n 0)) (.ref (L.getD 0 0))) (decide (n = 0)) && (isO (PySem.W.exmOne K (.ref (L.getD n 0)) (.ref (L.getD 16 0))) (decide (n = 16)) && isO (PySem.W.exmOne K (.ref (L.getD n 0)) (.ref B)) true)
def ckFld : Bool := (List.range 17).all (fun n => isN (PySem.W.findIn K (.ref (L.getD n 0)) (fld n))) && (isN (PySem.W.findIn K (.ref (L.getD 19 0)) "line") && isN (PySem.W.findIn K (.ref (L.getD 19 0)) "column"))
def ckNb : Bool := isN (PySem.W.nsIn K mainGlobals "isinstance") && (isN (PySem.W.nsIn K mainGlobals "ValueError") && (isN (PySem.W.nsIn K mainGlobals "ArithmeticError") && (isN (PySem.W.nsIn K mainGlobals "LookupError") && (isN (PySem.W.nsIn K mainGlobals "TypeError") && (isN (PySem.W.nsIn K mainGlobals "RuntimeError") &&
  (isN (PySem.W.nsIn K mainGlobals "range") && (isN (PySem.W.nsIn K mainGlobals "repr") && (isN (PySem.W.nsIn K mainGlobals "zip") && (isN (PySem.W.nsIn K mainGlobals "all") && (isN (PySem.W.nsIn K mainGlobals "max") && (isN (PySem.W.nsIn K mainGlobals "min") && (isN (PySem.W.nsIn K mainGlobals "len") &&
  (isN (PySem.W.nsIn K mainGlobals "int") && (isN (PySem.W.nsIn K mainGlobals "divmod") && (isN (PySem.W.nsIn K mainGlobals "tuple") && isN (PySem.W.nsIn K mainGlobals "abs"))))))))))))))))
end
theorem all_of {f : Nat → Bool} {N : Nat} (h : (List.range N).all f = true) : ∀ n, n < N → f n = true := fun n hn => List.all_eq_true.mp h n (List.mem_range.mpr hn)
section
variable {K : PySem.W.Frag} {mg : Str → Option Value} {h : Heap} {L : List Addr} {B : Addr}
theorem excC_of {C : Addr} (c : ckCls K C = true) (c0 : ck0 K = true) : ExcC K C := by
  unfold ckCls at c
  unfold ck0 at c0
  simp only [Bool.and_eq_true] at c c0
  obtain ⟨c1, c2, c3, c4, c5, c6, c7, c8, c9⟩ := c
  exact ⟨isB_of c1, isN_of c2, isO_of c3, c4, isB_of c5, isB_of c0.1, isO_of c0.2, isO_of c6⟩
/-- the class as it is written out -/
def Cw (K : PySem.W.Frag) (C : Addr) : Prop := ∃ nm q N bs bm sn sub ab col dd k0 k1 k2 k3 k5, K.lookup C = some (excClassObj nm q C N bs bm true sn sub ab col dd k0 k1 k2 k3 k5 "ValueError.__new__") ∧ PySem.HandSPX.refsVE bm = true
theorem oexC_of {C : Addr} (c : ckCls K C = true) (l : Cw K C) : OexC K C := by
  unfold ckCls at c
  simp only [Bool.and_eq_true] at c
  obtain ⟨c1, c2, c3, c4, c5, c6, c7, c8, c9⟩ := c
  exact ⟨l, isB_of c9, isO_of c3, isT_of c8, c7⟩
theorem ec_of {x f qual : Str} {st : Stmt} {C fI : Addr} {fd : FuncData} (T : IniTxt f st) (F : Fun K "__init__" qual st fI fd) (g : mg x = some (.ref C)) (c : ckCls K C = true) (c0 : ck0 K = true) (l : Cw K C) (i : PySem.W.findIn K (.ref C) "__init__" = some (some (.ref fI)))
    (t : PySem.W.typeIn K (.ref fI) = some (.type "function")) (no : PySem.W.findIn K (.ref C) f = some none) : Ec K mg x f C fI fd := by
  obtain ⟨q1, q2, q3, q4, hb, hs⟩ := T.b
  refine ⟨g, excC_of c c0, oexC_of c l, i, t, no, fun P w base => ok_ini F T.s hb (oexC_of c l) no T.l1 T.l2 T.d1 T.d2 hs, ?_, ?_⟩
  · exact F.binds (T.p qual)
  · obtain ⟨oc, od, kV, doc, pm, an, cdv, ct, osl, rfl, lk, hcd⟩ := F.ex
    intro s y ws _ hl
    match ws, hl with
    | [u], _ => exact BindsTo.of_eq (T.k qual kV doc pm an cdv ct (.ref y) u)
theorem et_of {C fI : Addr} {fd : FuncData} {qual : Str} (F : Fun K "__init__" qual stT fI fd) (g : mg "InvalidText" = some (.ref C)) (c : ckCls K C = true) (c0 : ck0 K = true) (l : Cw K C) (i : PySem.W.findIn K (.ref C) "__init__" = some (some (.ref fI)))
    (t : PySem.W.typeIn K (.ref fI) = some (.type "function")) (n1 : PySem.W.findIn K (.ref C) "line" = some none) (n2 : PySem.W.findIn K (.ref C) "column" = some none) : Et K mg C fI fd := by
  refine ⟨g, excC_of c c0, oexC_of c l, i, t, n1, n2, fun P w base => ok_ini2 F (oexC_of c l) n1 n2, ?_, ?_⟩
  · exact F.binds fun _ _ _ _ _ _ us hl => match us, hl with | [_, _, _], _ => rfl
  · obtain ⟨oc, od, kV, doc, pm, an, cdv, ct, osl, rfl, lk, hcd⟩ := F.ex
    intro s y ws _ hl
    match ws, hl with
    | [u, v], _ => exact BindsTo.of_eq rfl
    | [], hl => exact absurd hl (by show ¬ (1 : Nat) = 3; decide)
    | [u], hl => exact absurd hl (by show ¬ (1 : Nat) = 3; decide)
    | u :: v :: z :: r, hl => exact absurd hl (by show ¬ 1 = 3; decide)
theorem ez_of {x : Str} {C : Addr} (g : mg x = some (.ref C)) (c : ckCls K C = true) (c0 : ck0 K = true) (q : PySem.W.excIn K C PySem.HandSPX.veTail "ValueError.__new__" = true) : Ez K mg x C PySem.HandSPX.veTail := by
  have e := excC_of c c0
  unfold ckCls at c
  simp only [Bool.and_eq_true] at c
  obtain ⟨c1, c2, c3, c4, c5, c6, c7, c8, c9⟩ := c
  exact ⟨g, e, q, c7⟩
theorem nb_of (X : K.In h) (G : h.Ns mainGlobals mg) (c : ckNb K = true) : Nb mg ∧ mg "divmod" = none ∧ mg "tuple" = none ∧ mg "abs" = none := by
  unfold ckNb at c
  simp only [Bool.and_eq_true] at c
  obtain ⟨c1, c2, c3, c4, c5, c6, c7, c8, c9, c10, c11, c12, c13, c14, c15, c16, c17⟩ := c
  have m : ∀ {x : Str}, isN (PySem.W.nsIn K mainGlobals x) = true → mg x = none := fun z => PySem.W.mg_none_of X G (isN_of z)
  exact ⟨⟨m c1, m c2, m c3, m c4, m c5, m c6, m c7, m c8, m c9, m c10, m c11, m c12, m c13, m c14⟩, m c15, m c16, m c17⟩
end
end K1

namespace K1
open PySem PySem.Spec PyProof.Rows L2 KL
theorem refs_B (B : Addr) : PySem.HandSPX.refsVE [.ref B, .type "ValueError", .type "Exception", .type "BaseException", .type "object"] = true := (by decide +kernel : PySem.HandSPX.refsVE [.type "ValueError", .type "Exception", .type "BaseException", .type "object"] = true)
theorem all_mk {P : Program} {w : World} {K : PySem.W.Frag} {h : Heap} {mg : Str → Option Value} (X : K.In h) (G : h.Ns mainGlobals mg)
    {fa B : Addr} {C0 C1 C2 C3 C4 C5 C6 C7 C8 C9 C10 C11 C12 C13 C14 C15 C16 C17 C18 C19 : Addr} {f0 f1 f2 f3 f4 f5 f6 f7 f8 f9 f10 f11 f12 f13 f14 f15 f16 f19 : Addr} {w0 w1 w2 w3 w4 w5 w6 w7 w8 w9 w10 w11 w12 w13 : Addr}
    {nm0 qn0 : Str} {N0 : Addr} {bs0 : List Value} {sn0 : List Str} {sub0 : List Value} {ab0 : Bool} {col0 : Option Bool} {dd0 : Option Addr} {m00 m10 m20 m30 m50 : Option Value}
    {oci0 kVi0 dci0 pmi0 cdi0 cti0 : Value} {odi0 ani0 : Option Addr} {sli0 : Array (Option Value)}
    {nm1 qn1 : Str} {N1 : Addr} {bs1 : List Value} {sn1 : List Str} {sub1 : List Value} {ab1 : Bool} {col1 : Option Bool} {dd1 : Option Addr} {m01 m11 m21 m31 m51 : Option Value}
    {oci1 kVi1 dci1 pmi1 cdi1 cti1 : Value} {odi1 ani1 : Option Addr} {sli1 : Array (Option Value)}
    {nm2 qn2 : Str} {N2 : Addr} {bs2 : List Value} {sn2 : List Str} {sub2 : List Value} {ab2 : Bool} {col2 : Option Bool} {dd2 : Option Addr} {m02 m12 m22 m32 m52 : Option Value}
    {oci2 kVi2 dci2 pmi2 cdi2 cti2 : Value} {odi2 ani2 : Option Addr} {sli2 : Array (Option Value)}
    {nm3 qn3 : Str} {N3 : Addr} {bs3 : List Value} {sn3 : List Str} {sub3 : List Value} {ab3 : Bool} {col3 : Option Bool} {dd3 : Option Addr} {m03 m13 m23 m33 m53 : Option Value}
    {oci3 kVi3 dci3 pmi3 cdi3 cti3 : Value} {odi3 ani3 : Option Addr} {sli3 : Array (Option Value)}
    {nm4 qn4 : Str} {N4 : Addr} {bs4 : List Value} {sn4 : List Str} {sub4 : List Value} {ab4 : Bool} {col4 : Option Bool} {dd4 : Option Addr} {m04 m14 m24 m34 m54 : Option Value}
    {oci4 kVi4 dci4 pmi4 cdi4 cti4 : Value} {odi4 ani4 : Option Addr} {sli4 : Array (Option Value)}
    {nm5 qn5 : Str} {N5 : Addr} {bs5 : List Value} {sn5 : List Str} {sub5 : List Value} {ab5 : Bool} {col5 : Option Bool} {dd5 : Option Addr} {m05 m15 m25 m35 m55 : Option Value}
    {oci5 kVi5 dci5 pmi5 cdi5 cti5 : Value} {odi5 ani5 : Option Addr} {sli5 : Array (Option Value)}
    {nm6 qn6 : Str} {N6 : Addr} {bs6 : List Value} {sn6 : List Str} {sub6 : List Value} {ab6 : Bool} {col6 : Option Bool} {dd6 : Option Addr} {m06 m16 m26 m36 m56 : Option Value}
    {oci6 kVi6 dci6 pmi6 cdi6 cti6 : Value} {odi6 ani6 : Option Addr} {sli6 : Array (Option Value)}
    {nm7 qn7 : Str} {N7 : Addr} {bs7 : List Value} {sn7 : List Str} {sub7 : List Value} {ab7 : Bool} {col7 : Option Bool} {dd7 : Option Addr} {m07 m17 m27 m37 m57 : Option Value}
    {oci7 kVi7 dci7 pmi7 cdi7 cti7 : Value} {odi7 ani7 : Option Addr} {sli7 : Array (Option Value)}
    {nm8 qn8 : Str} {N8 : Addr} {bs8 : List Value} {sn8 : List Str} {sub8 : List Value} {ab8 : Bool} {col8 : Option Bool} {dd8 : Option Addr} {m08 m18 m28 m38 m58 : Option Value}
    {oci8 kVi8 dci8 pmi8 cdi8 cti8 : Value} {odi8 ani8 : Option Addr} {sli8 : Array (Option Value)}
    {nm9 qn9 : Str} {N9 : Addr} {bs9 : List Value} {sn9 : List Str} {sub9 : List Value} {ab9 : Bool} {col9 : Option Bool} {dd9 : Option Addr} {m09 m19 m29 m39 m59 : Option Value}
    {oci9 kVi9 dci9 pmi9 cdi9 cti9 : Value} {odi9 ani9 : Option Addr} {sli9 : Array (Option Value)}
    {nm10 qn10 : Str} {N10 : Addr} {bs10 : List Value} {sn10 : List Str} {sub10 : List Value} {ab10 : Bool} {col10 : Option Bool} {dd10 : Option Addr} {m010 m110 m210 m310 m510 : Option Value}
    {oci10 kVi10 dci10 pmi10 cdi10 cti10 : Value} {odi10 ani10 : Option Addr} {sli10 : Array (Option Value)}
    {nm11 qn11 : Str} {N11 : Addr} {bs11 : List Value} {sn11 : List Str} {sub11 : List Value} {ab11 : Bool} {col11 : Option Bool} {dd11 : Option Addr} {m011 m111 m211 m311 m511 : Option Value}
    {oci11 kVi11 dci11 pmi11 cdi11 cti11 : Value} {odi11 ani11 : Option Addr} {sli11 : Array (Option Value)}
    {nm12 qn12 : Str} {N12 : Addr} {bs12 : List Value} {sn12 : List Str} {sub12 : List Value} {ab12 : Bool} {col12 : Option Bool} {dd12 : Option Addr} {m012 m112 m212 m312 m512 : Option Value}
    {oci12 kVi12 dci12 pmi12 cdi12 cti12 : Value} {odi12 ani12 : Option Addr} {sli12 : Array (Option Value)}
    {nm13 qn13 : Str} {N13 : Addr} {bs13 : List Value} {sn13 : List Str} {sub13 : List Value} {ab13 : Bool} {col13 : Option Bool} {dd13 : Option Addr} {m013 m113 m213 m313 m513 : Option Value}
    {oci13 kVi13 dci13 pmi13 cdi13 cti13 : Value} {odi13 ani13 : Option Addr} {sli13 : Array (Option Value)}
    {nm14 qn14 : Str} {N14 : Addr} {bs14 : List Value} {sn14 : List Str} {sub14 : List Value} {ab14 : Bool} {col14 : Option Bool} {dd14 : Option Addr} {m014 m114 m214 m314 m514 : Option Value}
    {oci14 kVi14 dci14 pmi14 cdi14 cti14 : Value} {odi14 ani14 : Option Addr} {sli14 : Array (Option Value)}
    {nm15 qn15 : Str} {N15 : Addr} {bs15 : List Value} {sn15 : List Str} {sub15 : List Value} {ab15 : Bool} {col15 : Option Bool} {dd15 : Option Addr} {m015 m115 m215 m315 m515 : Option Value}
    {oci15 kVi15 dci15 pmi15 cdi15 cti15 : Value} {odi15 ani15 : Option Addr} {sli15 : Array (Option Value)}
    {nm16 qn16 : Str} {N16 : Addr} {bs16 : List Value} {sn16 : List Str} {sub16 : List Value} {ab16 : Bool} {col16 : Option Bool} {dd16 : Option Addr} {m016 m116 m216 m316 m516 : Option Value}
    {oci16 kVi16 dci16 pmi16 cdi16 cti16 : Value} {odi16 ani16 : Option Addr} {sli16 : Array (Option Value)}
    {nm19 qn19 : Str} {N19 : Addr} {bs19 : List Value} {sn19 : List Str} {sub19 : List Value} {ab19 : Bool} {col19 : Option Bool} {dd19 : Option Addr} {m019 m119 m219 m319 m519 : Option Value}
    {oci19 kVi19 dci19 pmi19 cdi19 cti19 : Value} {odi19 ani19 : Option Addr} {sli19 : Array (Option Value)}
    {ocw0 kVw0 dcw0 pmw0 cdw0 ctw0 : Value} {odw0 anw0 : Option Addr} {slw0 : Array (Option Value)}
    {ocw1 kVw1 dcw1 pmw1 cdw1 ctw1 : Value} {odw1 anw1 : Option Addr} {slw1 : Array (Option Value)}
    {ocw2 kVw2 dcw2 pmw2 cdw2 ctw2 : Value} {odw2 anw2 : Option Addr} {slw2 : Array (Option Value)}
    {ocw3 kVw3 dcw3 pmw3 cdw3 ctw3 : Value} {odw3 anw3 : Option Addr} {slw3 : Array (Option Value)}
    {ocw4 kVw4 dcw4 pmw4 cdw4 ctw4 : Value} {odw4 anw4 : Option Addr} {slw4 : Array (Option Value)}
    {ocw5 kVw5 dcw5 pmw5 cdw5 ctw5 : Value} {odw5 anw5 : Option Addr} {slw5 : Array (Option Value)}
    {ocw6 kVw6 dcw6 pmw6 cdw6 ctw6 : Value} {odw6 anw6 : Option Addr} {slw6 : Array (Option Value)}
    {ocw7 kVw7 dcw7 pmw7 cdw7 ctw7 : Value} {odw7 anw7 : Option Addr} {slw7 : Array (Option Value)}
    {ocw8 kVw8 dcw8 pmw8 cdw8 ctw8 : Value} {odw8 anw8 : Option Addr} {slw8 : Array (Option Value)}
    {ocw9 kVw9 dcw9 pmw9 cdw9 ctw9 : Value} {odw9 anw9 : Option Addr} {slw9 : Array (Option Value)}
    {ocw10 kVw10 dcw10 pmw10 cdw10 ctw10 : Value} {odw10 anw10 : Option Addr} {slw10 : Array (Option Value)}
    {ocw11 kVw11 dcw11 pmw11 cdw11 ctw11 : Value} {odw11 anw11 : Option Addr} {slw11 : Array (Option Value)}
    {ocw12 kVw12 dcw12 pmw12 cdw12 ctw12 : Value} {odw12 anw12 : Option Addr} {slw12 : Array (Option Value)}
    {ocw13 kVw13 dcw13 pmw13 cdw13 ctw13 : Value} {odw13 anw13 : Option Addr} {slw13 : Array (Option Value)}
    (hfa : mg "law" = some (.ref fa))
    (g0 : PySem.W.nsIn K mainGlobals "InvalidGraph" = some (some (.ref C0)))
    (g1 : PySem.W.nsIn K mainGlobals "InvalidName" = some (some (.ref C1)))
    (g2 : PySem.W.nsIn K mainGlobals "InvalidLot" = some (some (.ref C2)))
    (g3 : PySem.W.nsIn K mainGlobals "InvalidSizes" = some (some (.ref C3)))
    (g4 : PySem.W.nsIn K mainGlobals "InvalidModel" = some (some (.ref C4)))
    (g5 : PySem.W.nsIn K mainGlobals "InvalidAsked" = some (some (.ref C5)))
    (g6 : PySem.W.nsIn K mainGlobals "InvalidFormula" = some (some (.ref C6)))
    (g7 : PySem.W.nsIn K mainGlobals "TooMany" = some (some (.ref C7)))
    (g8 : PySem.W.nsIn K mainGlobals "InvalidLine" = some (some (.ref C8)))
    (g9 : PySem.W.nsIn K mainGlobals "NotWithin" = some (some (.ref C9)))
    (g10 : PySem.W.nsIn K mainGlobals "InvalidDerivation" = some (some (.ref C10)))
    (g11 : PySem.W.nsIn K mainGlobals "InvalidWeights" = some (some (.ref C11)))
    (g12 : PySem.W.nsIn K mainGlobals "NotBetween" = some (some (.ref C12)))
    (g13 : PySem.W.nsIn K mainGlobals "InvalidTold" = some (some (.ref C13)))
    (g14 : PySem.W.nsIn K mainGlobals "InvalidTables" = some (some (.ref C14)))
    (g15 : PySem.W.nsIn K mainGlobals "InvalidHedges" = some (some (.ref C15)))
    (g16 : PySem.W.nsIn K mainGlobals "NotIdentified" = some (some (.ref C16)))
    (g17 : PySem.W.nsIn K mainGlobals "Identified" = some (some (.ref C17)))
    (g18 : PySem.W.nsIn K mainGlobals "NoModel" = some (some (.ref C18)))
    (g19 : PySem.W.nsIn K mainGlobals "InvalidText" = some (some (.ref C19)))
    (gB : PySem.W.nsIn K mainGlobals "CausalError" = some (some (.ref B)))
    (x0 : K.lookup C0 = some (excClassObj nm0 qn0 C0 N0 bs0 [.ref B, .type "ValueError", .type "Exception", .type "BaseException", .type "object"] true sn0 sub0 ab0 col0 dd0 m00 m10 m20 m30 m50 "ValueError.__new__"))
    (i0 : PySem.W.findIn K (.ref C0) "__init__" = some (some (.ref f0)))
    (l0 : K.lookup f0 = some ⟨oci0, odi0, .func (PySem.W.fnOf "__init__" "InvalidGraph.__init__" (defArgs (stI 0)) (defBody (stI 0)) (defScope (stI 0)) .none kVi0 dci0 pmi0 ani0 cdi0 cti0), sli0⟩)
    (c0 : PySem.W.codeIn K cdi0 "InvalidGraph.__init__" = true)
    (t0 : PySem.W.typeIn K (.ref f0) = some (.type "function"))
    (k0 : PySem.W.keepIn K (.ref f0) = true)
    (x1 : K.lookup C1 = some (excClassObj nm1 qn1 C1 N1 bs1 [.ref B, .type "ValueError", .type "Exception", .type "BaseException", .type "object"] true sn1 sub1 ab1 col1 dd1 m01 m11 m21 m31 m51 "ValueError.__new__"))
    (i1 : PySem.W.findIn K (.ref C1) "__init__" = some (some (.ref f1)))
    (l1 : K.lookup f1 = some ⟨oci1, odi1, .func (PySem.W.fnOf "__init__" "InvalidName.__init__" (defArgs (stI 1)) (defBody (stI 1)) (defScope (stI 1)) .none kVi1 dci1 pmi1 ani1 cdi1 cti1), sli1⟩)
    (c1 : PySem.W.codeIn K cdi1 "InvalidName.__init__" = true)
    (t1 : PySem.W.typeIn K (.ref f1) = some (.type "function"))
    (k1 : PySem.W.keepIn K (.ref f1) = true)
    (x2 : K.lookup C2 = some (excClassObj nm2 qn2 C2 N2 bs2 [.ref B, .type "ValueError", .type "Exception", .type "BaseException", .type "object"] true sn2 sub2 ab2 col2 dd2 m02 m12 m22 m32 m52 "ValueError.__new__"))
    (i2 : PySem.W.findIn K (.ref C2) "__init__" = some (some (.ref f2)))
    (l2 : K.lookup f2 = some ⟨oci2, odi2, .func (PySem.W.fnOf "__init__" "InvalidLot.__init__" (defArgs (stI 2)) (defBody (stI 2)) (defScope (stI 2)) .none kVi2 dci2 pmi2 ani2 cdi2 cti2), sli2⟩)
    (c2 : PySem.W.codeIn K cdi2 "InvalidLot.__init__" = true)
    (t2 : PySem.W.typeIn K (.ref f2) = some (.type "function"))
    (k2 : PySem.W.keepIn K (.ref f2) = true)
    (x3 : K.lookup C3 = some (excClassObj nm3 qn3 C3 N3 bs3 [.ref B, .type "ValueError", .type "Exception", .type "BaseException", .type "object"] true sn3 sub3 ab3 col3 dd3 m03 m13 m23 m33 m53 "ValueError.__new__"))
    (i3 : PySem.W.findIn K (.ref C3) "__init__" = some (some (.ref f3)))
    (l3 : K.lookup f3 = some ⟨oci3, odi3, .func (PySem.W.fnOf "__init__" "InvalidSizes.__init__" (defArgs (stI 3)) (defBody (stI 3)) (defScope (stI 3)) .none kVi3 dci3 pmi3 ani3 cdi3 cti3), sli3⟩)
    (c3 : PySem.W.codeIn K cdi3 "InvalidSizes.__init__" = true)
    (t3 : PySem.W.typeIn K (.ref f3) = some (.type "function"))
    (k3 : PySem.W.keepIn K (.ref f3) = true)
    (x4 : K.lookup C4 = some (excClassObj nm4 qn4 C4 N4 bs4 [.ref B, .type "ValueError", .type "Exception", .type "BaseException", .type "object"] true sn4 sub4 ab4 col4 dd4 m04 m14 m24 m34 m54 "ValueError.__new__"))
    (i4 : PySem.W.findIn K (.ref C4) "__init__" = some (some (.ref f4)))
    (l4 : K.lookup f4 = some ⟨oci4, odi4, .func (PySem.W.fnOf "__init__" "InvalidModel.__init__" (defArgs (stI 4)) (defBody (stI 4)) (defScope (stI 4)) .none kVi4 dci4 pmi4 ani4 cdi4 cti4), sli4⟩)
    (c4 : PySem.W.codeIn K cdi4 "InvalidModel.__init__" = true)
    (t4 : PySem.W.typeIn K (.ref f4) = some (.type "function"))
    (k4 : PySem.W.keepIn K (.ref f4) = true)
    (x5 : K.lookup C5 = some (excClassObj nm5 qn5 C5 N5 bs5 [.ref B, .type "ValueError", .type "Exception", .type "BaseException", .type "object"] true sn5 sub5 ab5 col5 dd5 m05 m15 m25 m35 m55 "ValueError.__new__"))
    (i5 : PySem.W.findIn K (.ref C5) "__init__" = some (some (.ref f5)))
    (l5 : K.lookup f5 = some ⟨oci5, odi5, .func (PySem.W.fnOf "__init__" "InvalidAsked.__init__" (defArgs (stI 5)) (defBody (stI 5)) (defScope (stI 5)) .none kVi5 dci5 pmi5 ani5 cdi5 cti5), sli5⟩)
    (c5 : PySem.W.codeIn K cdi5 "InvalidAsked.__init__" = true)
    (t5 : PySem.W.typeIn K (.ref f5) = some (.type "function"))
    (k5 : PySem.W.keepIn K (.ref f5) = true)
    (x6 : K.lookup C6 = some (excClassObj nm6 qn6 C6 N6 bs6 [.ref B, .type "ValueError", .type "Exception", .type "BaseException", .type "object"] true sn6 sub6 ab6 col6 dd6 m06 m16 m26 m36 m56 "ValueError.__new__"))
    (i6 : PySem.W.findIn K (.ref C6) "__init__" = some (some (.ref f6)))
    (l6 : K.lookup f6 = some ⟨oci6, odi6, .func (PySem.W.fnOf "__init__" "InvalidFormula.__init__" (defArgs (stI 6)) (defBody (stI 6)) (defScope (stI 6)) .none kVi6 dci6 pmi6 ani6 cdi6 cti6), sli6⟩)
    (c6 : PySem.W.codeIn K cdi6 "InvalidFormula.__init__" = true)
    (t6 : PySem.W.typeIn K (.ref f6) = some (.type "function"))
    (k6 : PySem.W.keepIn K (.ref f6) = true)
    (x7 : K.lookup C7 = some (excClassObj nm7 qn7 C7 N7 bs7 [.ref B, .type "ValueError", .type "Exception", .type "BaseException", .type "object"] true sn7 sub7 ab7 col7 dd7 m07 m17 m27 m37 m57 "ValueError.__new__"))
    (i7 : PySem.W.findIn K (.ref C7) "__init__" = some (some (.ref f7)))
    (l7 : K.lookup f7 = some ⟨oci7, odi7, .func (PySem.W.fnOf "__init__" "TooMany.__init__" (defArgs (stI 7)) (defBody (stI 7)) (defScope (stI 7)) .none kVi7 dci7 pmi7 ani7 cdi7 cti7), sli7⟩)
    (c7 : PySem.W.codeIn K cdi7 "TooMany.__init__" = true)
    (t7 : PySem.W.typeIn K (.ref f7) = some (.type "function"))
    (k7 : PySem.W.keepIn K (.ref f7) = true)
    (x8 : K.lookup C8 = some (excClassObj nm8 qn8 C8 N8 bs8 [.ref B, .type "ValueError", .type "Exception", .type "BaseException", .type "object"] true sn8 sub8 ab8 col8 dd8 m08 m18 m28 m38 m58 "ValueError.__new__"))
    (i8 : PySem.W.findIn K (.ref C8) "__init__" = some (some (.ref f8)))
    (l8 : K.lookup f8 = some ⟨oci8, odi8, .func (PySem.W.fnOf "__init__" "InvalidLine.__init__" (defArgs (stI 8)) (defBody (stI 8)) (defScope (stI 8)) .none kVi8 dci8 pmi8 ani8 cdi8 cti8), sli8⟩)
    (c8 : PySem.W.codeIn K cdi8 "InvalidLine.__init__" = true)
    (t8 : PySem.W.typeIn K (.ref f8) = some (.type "function"))
    (k8 : PySem.W.keepIn K (.ref f8) = true)
    (x9 : K.lookup C9 = some (excClassObj nm9 qn9 C9 N9 bs9 [.ref B, .type "ValueError", .type "Exception", .type "BaseException", .type "object"] true sn9 sub9 ab9 col9 dd9 m09 m19 m29 m39 m59 "ValueError.__new__"))
    (i9 : PySem.W.findIn K (.ref C9) "__init__" = some (some (.ref f9)))
    (l9 : K.lookup f9 = some ⟨oci9, odi9, .func (PySem.W.fnOf "__init__" "NotWithin.__init__" (defArgs (stI 9)) (defBody (stI 9)) (defScope (stI 9)) .none kVi9 dci9 pmi9 ani9 cdi9 cti9), sli9⟩)
    (c9 : PySem.W.codeIn K cdi9 "NotWithin.__init__" = true)
    (t9 : PySem.W.typeIn K (.ref f9) = some (.type "function"))
    (k9 : PySem.W.keepIn K (.ref f9) = true)
    (x10 : K.lookup C10 = some (excClassObj nm10 qn10 C10 N10 bs10 [.ref B, .type "ValueError", .type "Exception", .type "BaseException", .type "object"] true sn10 sub10 ab10 col10 dd10 m010 m110 m210 m310 m510 "ValueError.__new__"))
    (i10 : PySem.W.findIn K (.ref C10) "__init__" = some (some (.ref f10)))
    (l10 : K.lookup f10 = some ⟨oci10, odi10, .func (PySem.W.fnOf "__init__" "InvalidDerivation.__init__" (defArgs (stI 10)) (defBody (stI 10)) (defScope (stI 10)) .none kVi10 dci10 pmi10 ani10 cdi10 cti10), sli10⟩)
    (c10 : PySem.W.codeIn K cdi10 "InvalidDerivation.__init__" = true)
    (t10 : PySem.W.typeIn K (.ref f10) = some (.type "function"))
    (k10 : PySem.W.keepIn K (.ref f10) = true)
    (x11 : K.lookup C11 = some (excClassObj nm11 qn11 C11 N11 bs11 [.ref B, .type "ValueError", .type "Exception", .type "BaseException", .type "object"] true sn11 sub11 ab11 col11 dd11 m011 m111 m211 m311 m511 "ValueError.__new__"))
    (i11 : PySem.W.findIn K (.ref C11) "__init__" = some (some (.ref f11)))
    (l11 : K.lookup f11 = some ⟨oci11, odi11, .func (PySem.W.fnOf "__init__" "InvalidWeights.__init__" (defArgs (stI 11)) (defBody (stI 11)) (defScope (stI 11)) .none kVi11 dci11 pmi11 ani11 cdi11 cti11), sli11⟩)
    (c11 : PySem.W.codeIn K cdi11 "InvalidWeights.__init__" = true)
    (t11 : PySem.W.typeIn K (.ref f11) = some (.type "function"))
    (k11 : PySem.W.keepIn K (.ref f11) = true)
    (x12 : K.lookup C12 = some (excClassObj nm12 qn12 C12 N12 bs12 [.ref B, .type "ValueError", .type "Exception", .type "BaseException", .type "object"] true sn12 sub12 ab12 col12 dd12 m012 m112 m212 m312 m512 "ValueError.__new__"))
    (i12 : PySem.W.findIn K (.ref C12) "__init__" = some (some (.ref f12)))
    (l12 : K.lookup f12 = some ⟨oci12, odi12, .func (PySem.W.fnOf "__init__" "NotBetween.__init__" (defArgs (stI 12)) (defBody (stI 12)) (defScope (stI 12)) .none kVi12 dci12 pmi12 ani12 cdi12 cti12), sli12⟩)
    (c12 : PySem.W.codeIn K cdi12 "NotBetween.__init__" = true)
    (t12 : PySem.W.typeIn K (.ref f12) = some (.type "function"))
    (k12 : PySem.W.keepIn K (.ref f12) = true)
    (x13 : K.lookup C13 = some (excClassObj nm13 qn13 C13 N13 bs13 [.ref B, .type "ValueError", .type "Exception", .type "BaseException", .type "object"] true sn13 sub13 ab13 col13 dd13 m013 m113 m213 m313 m513 "ValueError.__new__"))
    (i13 : PySem.W.findIn K (.ref C13) "__init__" = some (some (.ref f13)))
    (l13 : K.lookup f13 = some ⟨oci13, odi13, .func (PySem.W.fnOf "__init__" "InvalidTold.__init__" (defArgs (stI 13)) (defBody (stI 13)) (defScope (stI 13)) .none kVi13 dci13 pmi13 ani13 cdi13 cti13), sli13⟩)
    (c13 : PySem.W.codeIn K cdi13 "InvalidTold.__init__" = true)
    (t13 : PySem.W.typeIn K (.ref f13) = some (.type "function"))
    (k13 : PySem.W.keepIn K (.ref f13) = true)
    (x14 : K.lookup C14 = some (excClassObj nm14 qn14 C14 N14 bs14 [.ref B, .type "ValueError", .type "Exception", .type "BaseException", .type "object"] true sn14 sub14 ab14 col14 dd14 m014 m114 m214 m314 m514 "ValueError.__new__"))
    (i14 : PySem.W.findIn K (.ref C14) "__init__" = some (some (.ref f14)))
    (l14 : K.lookup f14 = some ⟨oci14, odi14, .func (PySem.W.fnOf "__init__" "InvalidTables.__init__" (defArgs (stI 14)) (defBody (stI 14)) (defScope (stI 14)) .none kVi14 dci14 pmi14 ani14 cdi14 cti14), sli14⟩)
    (c14 : PySem.W.codeIn K cdi14 "InvalidTables.__init__" = true)
    (t14 : PySem.W.typeIn K (.ref f14) = some (.type "function"))
    (k14 : PySem.W.keepIn K (.ref f14) = true)
    (x15 : K.lookup C15 = some (excClassObj nm15 qn15 C15 N15 bs15 [.ref B, .type "ValueError", .type "Exception", .type "BaseException", .type "object"] true sn15 sub15 ab15 col15 dd15 m015 m115 m215 m315 m515 "ValueError.__new__"))
    (i15 : PySem.W.findIn K (.ref C15) "__init__" = some (some (.ref f15)))
    (l15 : K.lookup f15 = some ⟨oci15, odi15, .func (PySem.W.fnOf "__init__" "InvalidHedges.__init__" (defArgs (stI 15)) (defBody (stI 15)) (defScope (stI 15)) .none kVi15 dci15 pmi15 ani15 cdi15 cti15), sli15⟩)
    (c15 : PySem.W.codeIn K cdi15 "InvalidHedges.__init__" = true)
    (t15 : PySem.W.typeIn K (.ref f15) = some (.type "function"))
    (k15 : PySem.W.keepIn K (.ref f15) = true)
    (x16 : K.lookup C16 = some (excClassObj nm16 qn16 C16 N16 bs16 [.ref B, .type "ValueError", .type "Exception", .type "BaseException", .type "object"] true sn16 sub16 ab16 col16 dd16 m016 m116 m216 m316 m516 "ValueError.__new__"))
    (i16 : PySem.W.findIn K (.ref C16) "__init__" = some (some (.ref f16)))
    (l16 : K.lookup f16 = some ⟨oci16, odi16, .func (PySem.W.fnOf "__init__" "NotIdentified.__init__" (defArgs (stI 16)) (defBody (stI 16)) (defScope (stI 16)) .none kVi16 dci16 pmi16 ani16 cdi16 cti16), sli16⟩)
    (c16 : PySem.W.codeIn K cdi16 "NotIdentified.__init__" = true)
    (t16 : PySem.W.typeIn K (.ref f16) = some (.type "function"))
    (k16 : PySem.W.keepIn K (.ref f16) = true)
    (x19 : K.lookup C19 = some (excClassObj nm19 qn19 C19 N19 bs19 [.ref B, .type "ValueError", .type "Exception", .type "BaseException", .type "object"] true sn19 sub19 ab19 col19 dd19 m019 m119 m219 m319 m519 "ValueError.__new__"))
    (i19 : PySem.W.findIn K (.ref C19) "__init__" = some (some (.ref f19)))
    (l19 : K.lookup f19 = some ⟨oci19, odi19, .func (PySem.W.fnOf "__init__" "InvalidText.__init__" (defArgs (stI 19)) (defBody (stI 19)) (defScope (stI 19)) .none kVi19 dci19 pmi19 ani19 cdi19 cti19), sli19⟩)
    (c19 : PySem.W.codeIn K cdi19 "InvalidText.__init__" = true)
    (t19 : PySem.W.typeIn K (.ref f19) = some (.type "function"))
    (k19 : PySem.W.keepIn K (.ref f19) = true)
    (gw0 : PySem.W.nsIn K mainGlobals "_law_well" = some (some (.ref w0)))
    (lw0 : K.lookup w0 = some ⟨ocw0, odw0, .func (PySem.W.fnOf "_law_well" "_law_well" (defArgs sWell) (defBody sWell) (defScope sWell) .none kVw0 dcw0 pmw0 anw0 cdw0 ctw0), slw0⟩)
    (cw0 : PySem.W.codeIn K cdw0 "_law_well" = true)
    (kw0 : PySem.W.keepIn K (.ref w0) = true)
    (gw1 : PySem.W.nsIn K mainGlobals "_law_draw" = some (some (.ref w1)))
    (lw1 : K.lookup w1 = some ⟨ocw1, odw1, .func (PySem.W.fnOf "_law_draw" "_law_draw" (defArgs sDraw) (defBody sDraw) (defScope sDraw) .none kVw1 dcw1 pmw1 anw1 cdw1 ctw1), slw1⟩)
    (cw1 : PySem.W.codeIn K cdw1 "_law_draw" = true)
    (kw1 : PySem.W.keepIn K (.ref w1) = true)
    (gw2 : PySem.W.nsIn K mainGlobals "_law_one" = some (some (.ref w2)))
    (lw2 : K.lookup w2 = some ⟨ocw2, odw2, .func (PySem.W.fnOf "_law_one" "_law_one" (defArgs sOne) (defBody sOne) (defScope sOne) .none kVw2 dcw2 pmw2 anw2 cdw2 ctw2), slw2⟩)
    (cw2 : PySem.W.codeIn K cdw2 "_law_one" = true)
    (kw2 : PySem.W.keepIn K (.ref w2) = true)
    (gw3 : PySem.W.nsIn K mainGlobals "_law_odd" = some (some (.ref w3)))
    (lw3 : K.lookup w3 = some ⟨ocw3, odw3, .func (PySem.W.fnOf "_law_odd" "_law_odd" (defArgs sOdd) (defBody sOdd) (defScope sOdd) .none kVw3 dcw3 pmw3 anw3 cdw3 ctw3), slw3⟩)
    (cw3 : PySem.W.codeIn K cdw3 "_law_odd" = true)
    (kw3 : PySem.W.keepIn K (.ref w3) = true)
    (gw4 : PySem.W.nsIn K mainGlobals "_law_thing" = some (some (.ref w4)))
    (lw4 : K.lookup w4 = some ⟨ocw4, odw4, .func (PySem.W.fnOf "_law_thing" "_law_thing" (defArgs sThing) (defBody sThing) (defScope sThing) .none kVw4 dcw4 pmw4 anw4 cdw4 ctw4), slw4⟩)
    (cw4 : PySem.W.codeIn K cdw4 "_law_thing" = true)
    (kw4 : PySem.W.keepIn K (.ref w4) = true)
    (gw5 : PySem.W.nsIn K mainGlobals "_law_by_place" = some (some (.ref w5)))
    (lw5 : K.lookup w5 = some ⟨ocw5, odw5, .func (PySem.W.fnOf "_law_by_place" "_law_by_place" (defArgs sPlace) (defBody sPlace) (defScope sPlace) .none kVw5 dcw5 pmw5 anw5 cdw5 ctw5), slw5⟩)
    (cw5 : PySem.W.codeIn K cdw5 "_law_by_place" = true)
    (kw5 : PySem.W.keepIn K (.ref w5) = true)
    (gw6 : PySem.W.nsIn K mainGlobals "_law_by_name" = some (some (.ref w6)))
    (lw6 : K.lookup w6 = some ⟨ocw6, odw6, .func (PySem.W.fnOf "_law_by_name" "_law_by_name" (defArgs sName) (defBody sName) (defScope sName) .none kVw6 dcw6 pmw6 anw6 cdw6 ctw6), slw6⟩)
    (cw6 : PySem.W.codeIn K cdw6 "_law_by_name" = true)
    (kw6 : PySem.W.keepIn K (.ref w6) = true)
    (gw7 : PySem.W.nsIn K mainGlobals "_law_kept" = some (some (.ref w7)))
    (lw7 : K.lookup w7 = some ⟨ocw7, odw7, .func (PySem.W.fnOf "_law_kept" "_law_kept" (defArgs sKept) (defBody sKept) (defScope sKept) .none kVw7 dcw7 pmw7 anw7 cdw7 ctw7), slw7⟩)
    (cw7 : PySem.W.codeIn K cdw7 "_law_kept" = true)
    (kw7 : PySem.W.keepIn K (.ref w7) = true)
    (gw8 : PySem.W.nsIn K mainGlobals "_law_of_classes" = some (some (.ref w8)))
    (lw8 : K.lookup w8 = some ⟨ocw8, odw8, .func (PySem.W.fnOf "_law_of_classes" "_law_of_classes" (defArgs sClasses) (defBody sClasses) (defScope sClasses) .none kVw8 dcw8 pmw8 anw8 cdw8 ctw8), slw8⟩)
    (cw8 : PySem.W.codeIn K cdw8 "_law_of_classes" = true)
    (kw8 : PySem.W.keepIn K (.ref w8) = true)
    (gw9 : PySem.W.nsIn K mainGlobals "_law_is_of" = some (some (.ref w9)))
    (lw9 : K.lookup w9 = some ⟨ocw9, odw9, .func (PySem.W.fnOf "_law_is_of" "_law_is_of" (defArgs sIsOf) (defBody sIsOf) (defScope sIsOf) .none kVw9 dcw9 pmw9 anw9 cdw9 ctw9), slw9⟩)
    (cw9 : PySem.W.codeIn K cdw9 "_law_is_of" = true)
    (kw9 : PySem.W.keepIn K (.ref w9) = true)
    (gw10 : PySem.W.nsIn K mainGlobals "_law_due" = some (some (.ref w10)))
    (lw10 : K.lookup w10 = some ⟨ocw10, odw10, .func (PySem.W.fnOf "_law_due" "_law_due" (defArgs sDue) (defBody sDue) (defScope sDue) .none kVw10 dcw10 pmw10 anw10 cdw10 ctw10), slw10⟩)
    (cw10 : PySem.W.codeIn K cdw10 "_law_due" = true)
    (kw10 : PySem.W.keepIn K (.ref w10) = true)
    (gw11 : PySem.W.nsIn K mainGlobals "_law_met" = some (some (.ref w11)))
    (lw11 : K.lookup w11 = some ⟨ocw11, odw11, .func (PySem.W.fnOf "_law_met" "_law_met" (defArgs sMet) (defBody sMet) (defScope sMet) .none kVw11 dcw11 pmw11 anw11 cdw11 ctw11), slw11⟩)
    (cw11 : PySem.W.codeIn K cdw11 "_law_met" = true)
    (kw11 : PySem.W.keepIn K (.ref w11) = true)
    (gw12 : PySem.W.nsIn K mainGlobals "_law_right" = some (some (.ref w12)))
    (lw12 : K.lookup w12 = some ⟨ocw12, odw12, .func (PySem.W.fnOf "_law_right" "_law_right" (defArgs sRight) (defBody sRight) (defScope sRight) .none kVw12 dcw12 pmw12 anw12 cdw12 ctw12), slw12⟩)
    (cw12 : PySem.W.codeIn K cdw12 "_law_right" = true)
    (kw12 : PySem.W.keepIn K (.ref w12) = true)
    (gw13 : PySem.W.nsIn K mainGlobals "law" = some (some (.ref w13)))
    (lw13 : K.lookup w13 = some ⟨ocw13, odw13, .func (PySem.W.fnOf "law" "law" (defArgs sLaw) (defBody sLaw) (defScope sLaw) .none kVw13 dcw13 pmw13 anw13 cdw13 ctw13), slw13⟩)
    (cw13 : PySem.W.codeIn K cdw13 "law" = true)
    (kw13 : PySem.W.keepIn K (.ref w13) = true)
    (zA : ckAll K [C0, C1, C2, C3, C4, C5, C6, C7, C8, C9, C10, C11, C12, C13, C14, C15, C16, C17, C18, C19] B = true)
    (zK : ckKit K [C0, C1, C2, C3, C4, C5, C6, C7, C8, C9, C10, C11, C12, C13, C14, C15, C16, C17, C18, C19] = true)
    (zB : ckKitB K [C0, C1, C2, C3, C4, C5, C6, C7, C8, C9, C10, C11, C12, C13, C14, C15, C16, C17, C18, C19] B = true)
    (zV : ckKitV K [C0, C1, C2, C3, C4, C5, C6, C7, C8, C9, C10, C11, C12, C13, C14, C15, C16, C17, C18, C19] = true)
    (zE : ckExm K [C0, C1, C2, C3, C4, C5, C6, C7, C8, C9, C10, C11, C12, C13, C14, C15, C16, C17, C18, C19] B = true)
    (zF : ckFld K [C0, C1, C2, C3, C4, C5, C6, C7, C8, C9, C10, C11, C12, C13, C14, C15, C16, C17, C18, C19] = true)
    (zN : ckNb K = true)
    (e17 : PySem.W.excIn K C17 PySem.HandSPX.veTail "ValueError.__new__" = true)
    (e18 : PySem.W.excIn K C18 PySem.HandSPX.veTail "ValueError.__new__" = true)
    (eB : PySem.W.excIn K B PySem.HandSPX.veTail "ValueError.__new__" = true)
    : ∃ fd : FuncData, (∀ (s : Shared) (u : Value), BindsTo s fd ⟨[u], []⟩ [("script", u)]) ∧ ∀ base : Heap, K.In base → base.Ns mainGlobals mg → FnG P w K mg base CX0 8 fa fd ["script"] (spLaw K) := by
  have e := hfa.symm.trans (PySem.W.mg_of X G gw13)
  cases e
  obtain ⟨nb, nd, nt, na⟩ := nb_of X G zN
  unfold ckAll at zA
  rw [Bool.and_eq_true, Bool.and_eq_true] at zA
  obtain ⟨zA, zcB, cz⟩ := zA
  have zA := all_of zA
  unfold ckFld at zF
  rw [Bool.and_eq_true, Bool.and_eq_true] at zF
  obtain ⟨zF, zl, zc⟩ := zF
  have zF := all_of zF
  have F0 := fun_mk (st := stI 0) l0 c0 k0
  have W0 : Cw K C0 := ⟨_, _, _, _, _, _, _, _, _, _, _, _, _, _, _, x0, refs_B B⟩
  have E0 : Ec K mg (nm 0) (fld 0) C0 f0 _ := ec_of (ini_txt 0 (by decide)) F0 (PySem.W.mg_of X G g0) (zA 0 (by decide)) cz W0 i0 t0 (isN_of (zF 0 (by decide)))
  have F1 := fun_mk (st := stI 1) l1 c1 k1
  have W1 : Cw K C1 := ⟨_, _, _, _, _, _, _, _, _, _, _, _, _, _, _, x1, refs_B B⟩
  have E1 : Ec K mg (nm 1) (fld 1) C1 f1 _ := ec_of (ini_txt 1 (by decide)) F1 (PySem.W.mg_of X G g1) (zA 1 (by decide)) cz W1 i1 t1 (isN_of (zF 1 (by decide)))
  have F2 := fun_mk (st := stI 2) l2 c2 k2
  have W2 : Cw K C2 := ⟨_, _, _, _, _, _, _, _, _, _, _, _, _, _, _, x2, refs_B B⟩
  have E2 : Ec K mg (nm 2) (fld 2) C2 f2 _ := ec_of (ini_txt 2 (by decide)) F2 (PySem.W.mg_of X G g2) (zA 2 (by decide)) cz W2 i2 t2 (isN_of (zF 2 (by decide)))
  have F3 := fun_mk (st := stI 3) l3 c3 k3
  have W3 : Cw K C3 := ⟨_, _, _, _, _, _, _, _, _, _, _, _, _, _, _, x3, refs_B B⟩
  have E3 : Ec K mg (nm 3) (fld 3) C3 f3 _ := ec_of (ini_txt 3 (by decide)) F3 (PySem.W.mg_of X G g3) (zA 3 (by decide)) cz W3 i3 t3 (isN_of (zF 3 (by decide)))
  have F4 := fun_mk (st := stI 4) l4 c4 k4
  have W4 : Cw K C4 := ⟨_, _, _, _, _, _, _, _, _, _, _, _, _, _, _, x4, refs_B B⟩
  have E4 : Ec K mg (nm 4) (fld 4) C4 f4 _ := ec_of (ini_txt 4 (by decide)) F4 (PySem.W.mg_of X G g4) (zA 4 (by decide)) cz W4 i4 t4 (isN_of (zF 4 (by decide)))
  have F5 := fun_mk (st := stI 5) l5 c5 k5
  have W5 : Cw K C5 := ⟨_, _, _, _, _, _, _, _, _, _, _, _, _, _, _, x5, refs_B B⟩
  have E5 : Ec K mg (nm 5) (fld 5) C5 f5 _ := ec_of (ini_txt 5 (by decide)) F5 (PySem.W.mg_of X G g5) (zA 5 (by decide)) cz W5 i5 t5 (isN_of (zF 5 (by decide)))
  have F6 := fun_mk (st := stI 6) l6 c6 k6
  have W6 : Cw K C6 := ⟨_, _, _, _, _, _, _, _, _, _, _, _, _, _, _, x6, refs_B B⟩
  have E6 : Ec K mg (nm 6) (fld 6) C6 f6 _ := ec_of (ini_txt 6 (by decide)) F6 (PySem.W.mg_of X G g6) (zA 6 (by decide)) cz W6 i6 t6 (isN_of (zF 6 (by decide)))
  have F7 := fun_mk (st := stI 7) l7 c7 k7
  have W7 : Cw K C7 := ⟨_, _, _, _, _, _, _, _, _, _, _, _, _, _, _, x7, refs_B B⟩
  have E7 : Ec K mg (nm 7) (fld 7) C7 f7 _ := ec_of (ini_txt 7 (by decide)) F7 (PySem.W.mg_of X G g7) (zA 7 (by decide)) cz W7 i7 t7 (isN_of (zF 7 (by decide)))
  have F8 := fun_mk (st := stI 8) l8 c8 k8
  have W8 : Cw K C8 := ⟨_, _, _, _, _, _, _, _, _, _, _, _, _, _, _, x8, refs_B B⟩
  have E8 : Ec K mg (nm 8) (fld 8) C8 f8 _ := ec_of (ini_txt 8 (by decide)) F8 (PySem.W.mg_of X G g8) (zA 8 (by decide)) cz W8 i8 t8 (isN_of (zF 8 (by decide)))
  have F9 := fun_mk (st := stI 9) l9 c9 k9
  have W9 : Cw K C9 := ⟨_, _, _, _, _, _, _, _, _, _, _, _, _, _, _, x9, refs_B B⟩
  have E9 : Ec K mg (nm 9) (fld 9) C9 f9 _ := ec_of (ini_txt 9 (by decide)) F9 (PySem.W.mg_of X G g9) (zA 9 (by decide)) cz W9 i9 t9 (isN_of (zF 9 (by decide)))
  have F10 := fun_mk (st := stI 10) l10 c10 k10
  have W10 : Cw K C10 := ⟨_, _, _, _, _, _, _, _, _, _, _, _, _, _, _, x10, refs_B B⟩
  have E10 : Ec K mg (nm 10) (fld 10) C10 f10 _ := ec_of (ini_txt 10 (by decide)) F10 (PySem.W.mg_of X G g10) (zA 10 (by decide)) cz W10 i10 t10 (isN_of (zF 10 (by decide)))
  have F11 := fun_mk (st := stI 11) l11 c11 k11
  have W11 : Cw K C11 := ⟨_, _, _, _, _, _, _, _, _, _, _, _, _, _, _, x11, refs_B B⟩
  have E11 : Ec K mg (nm 11) (fld 11) C11 f11 _ := ec_of (ini_txt 11 (by decide)) F11 (PySem.W.mg_of X G g11) (zA 11 (by decide)) cz W11 i11 t11 (isN_of (zF 11 (by decide)))
  have F12 := fun_mk (st := stI 12) l12 c12 k12
  have W12 : Cw K C12 := ⟨_, _, _, _, _, _, _, _, _, _, _, _, _, _, _, x12, refs_B B⟩
  have E12 : Ec K mg (nm 12) (fld 12) C12 f12 _ := ec_of (ini_txt 12 (by decide)) F12 (PySem.W.mg_of X G g12) (zA 12 (by decide)) cz W12 i12 t12 (isN_of (zF 12 (by decide)))
  have F13 := fun_mk (st := stI 13) l13 c13 k13
  have W13 : Cw K C13 := ⟨_, _, _, _, _, _, _, _, _, _, _, _, _, _, _, x13, refs_B B⟩
  have E13 : Ec K mg (nm 13) (fld 13) C13 f13 _ := ec_of (ini_txt 13 (by decide)) F13 (PySem.W.mg_of X G g13) (zA 13 (by decide)) cz W13 i13 t13 (isN_of (zF 13 (by decide)))
  have F14 := fun_mk (st := stI 14) l14 c14 k14
  have W14 : Cw K C14 := ⟨_, _, _, _, _, _, _, _, _, _, _, _, _, _, _, x14, refs_B B⟩
  have E14 : Ec K mg (nm 14) (fld 14) C14 f14 _ := ec_of (ini_txt 14 (by decide)) F14 (PySem.W.mg_of X G g14) (zA 14 (by decide)) cz W14 i14 t14 (isN_of (zF 14 (by decide)))
  have F15 := fun_mk (st := stI 15) l15 c15 k15
  have W15 : Cw K C15 := ⟨_, _, _, _, _, _, _, _, _, _, _, _, _, _, _, x15, refs_B B⟩
  have E15 : Ec K mg (nm 15) (fld 15) C15 f15 _ := ec_of (ini_txt 15 (by decide)) F15 (PySem.W.mg_of X G g15) (zA 15 (by decide)) cz W15 i15 t15 (isN_of (zF 15 (by decide)))
  have F16 := fun_mk (st := stI 16) l16 c16 k16
  have W16 : Cw K C16 := ⟨_, _, _, _, _, _, _, _, _, _, _, _, _, _, _, x16, refs_B B⟩
  have E16 : Ec K mg (nm 16) (fld 16) C16 f16 _ := ec_of (ini_txt 16 (by decide)) F16 (PySem.W.mg_of X G g16) (zA 16 (by decide)) cz W16 i16 t16 (isN_of (zF 16 (by decide)))
  have F19 := fun_mk (st := stI 19) l19 c19 k19
  have W19 : Cw K C19 := ⟨_, _, _, _, _, _, _, _, _, _, _, _, _, _, _, x19, refs_B B⟩
  have E19 : Et K mg C19 f19 _ := et_of F19 (PySem.W.mg_of X G g19) (zA 19 (by decide)) cz W19 i19 t19 (isN_of zl) (isN_of zc)
  have S : Es K mg (fun n => ([C0, C1, C2, C3, C4, C5, C6, C7, C8, C9, C10, C11, C12, C13, C14, C15, C16, C17, C18, C19] : List Addr).getD n 0) (fun n => ([f0, f1, f2, f3, f4, f5, f6, f7, f8, f9, f10, f11, f12, f13, f14, f15, f16, 0, 0, f19] : List Addr).getD n 0) (fun n => ([(PySem.W.fnOf "__init__" "InvalidGraph.__init__" (defArgs (stI 0)) (defBody (stI 0)) (defScope (stI 0)) .none kVi0 dci0 pmi0 ani0 cdi0 cti0), (PySem.W.fnOf "__init__" "InvalidName.__init__" (defArgs (stI 1)) (defBody (stI 1)) (defScope (stI 1)) .none kVi1 dci1 pmi1 ani1 cdi1 cti1), (PySem.W.fnOf "__init__" "InvalidLot.__init__" (defArgs (stI 2)) (defBody (stI 2)) (defScope (stI 2)) .none kVi2 dci2 pmi2 ani2 cdi2 cti2), (PySem.W.fnOf "__init__" "InvalidSizes.__init__" (defArgs (stI 3)) (defBody (stI 3)) (defScope (stI 3)) .none kVi3 dci3 pmi3 ani3 cdi3 cti3), (PySem.W.fnOf "__init__" "InvalidModel.__init__" (defArgs (stI 4)) (defBody (stI 4)) (defScope (stI 4)) .none kVi4 dci4 pmi4 ani4 cdi4 cti4), (PySem.W.fnOf "__init__" "InvalidAsked.__init__" (defArgs (stI 5)) (defBody (stI 5)) (defScope (stI 5)) .none kVi5 dci5 pmi5 ani5 cdi5 cti5), (PySem.W.fnOf "__init__" "InvalidFormula.__init__" (defArgs (stI 6)) (defBody (stI 6)) (defScope (stI 6)) .none kVi6 dci6 pmi6 ani6 cdi6 cti6), (PySem.W.fnOf "__init__" "TooMany.__init__" (defArgs (stI 7)) (defBody (stI 7)) (defScope (stI 7)) .none kVi7 dci7 pmi7 ani7 cdi7 cti7), (PySem.W.fnOf "__init__" "InvalidLine.__init__" (defArgs (stI 8)) (defBody (stI 8)) (defScope (stI 8)) .none kVi8 dci8 pmi8 ani8 cdi8 cti8), (PySem.W.fnOf "__init__" "NotWithin.__init__" (defArgs (stI 9)) (defBody (stI 9)) (defScope (stI 9)) .none kVi9 dci9 pmi9 ani9 cdi9 cti9), (PySem.W.fnOf "__init__" "InvalidDerivation.__init__" (defArgs (stI 10)) (defBody (stI 10)) (defScope (stI 10)) .none kVi10 dci10 pmi10 ani10 cdi10 cti10), (PySem.W.fnOf "__init__" "InvalidWeights.__init__" (defArgs (stI 11)) (defBody (stI 11)) (defScope (stI 11)) .none kVi11 dci11 pmi11 ani11 cdi11 cti11), (PySem.W.fnOf "__init__" "NotBetween.__init__" (defArgs (stI 12)) (defBody (stI 12)) (defScope (stI 12)) .none kVi12 dci12 pmi12 ani12 cdi12 cti12), (PySem.W.fnOf "__init__" "InvalidTold.__init__" (defArgs (stI 13)) (defBody (stI 13)) (defScope (stI 13)) .none kVi13 dci13 pmi13 ani13 cdi13 cti13), (PySem.W.fnOf "__init__" "InvalidTables.__init__" (defArgs (stI 14)) (defBody (stI 14)) (defScope (stI 14)) .none kVi14 dci14 pmi14 ani14 cdi14 cti14), (PySem.W.fnOf "__init__" "InvalidHedges.__init__" (defArgs (stI 15)) (defBody (stI 15)) (defScope (stI 15)) .none kVi15 dci15 pmi15 ani15 cdi15 cti15), (PySem.W.fnOf "__init__" "NotIdentified.__init__" (defArgs (stI 16)) (defBody (stI 16)) (defScope (stI 16)) .none kVi16 dci16 pmi16 ani16 cdi16 cti16)] : List FuncData).getD n (PySem.W.fnOf "__init__" "InvalidText.__init__" (defArgs (stI 19)) (defBody (stI 19)) (defScope (stI 19)) .none kVi19 dci19 pmi19 ani19 cdi19 cti19)) B := by
    refine ⟨fun n hn => ?_, E19, ez_of (PySem.W.mg_of X G g17) (zA 17 (by decide)) cz e17, ez_of (PySem.W.mg_of X G g18) (zA 18 (by decide)) cz e18, ez_of (PySem.W.mg_of X G gB) zcB cz eB, fun n m hn hm => isO_of (all_of (all_of zK n hn) m hm), fun n hn => ?_, fun n hn => ?_, fun n hn => ?_, ?_⟩
    · have c : n = 0 ∨ n = 1 ∨ n = 2 ∨ n = 3 ∨ n = 4 ∨ n = 5 ∨ n = 6 ∨ n = 7 ∨ n = 8 ∨ n = 9 ∨ n = 10 ∨ n = 11 ∨ n = 12 ∨ n = 13 ∨ n = 14 ∨ n = 15 ∨ n = 16 := by omega
      rcases c with rfl | rfl | rfl | rfl | rfl | rfl | rfl | rfl | rfl | rfl | rfl | rfl | rfl | rfl | rfl | rfl | rfl
      · exact E0
      · exact E1
      · exact E2
      · exact E3
      · exact E4
      · exact E5
      · exact E6
      · exact E7
      · exact E8
      · exact E9
      · exact E10
      · exact E11
      · exact E12
      · exact E13
      · exact E14
      · exact E15
      · exact E16
    · unfold ckKitB at zB
      rw [Bool.and_eq_true] at zB
      have z := all_of zB.1 n hn
      rw [Bool.and_eq_true] at z
      exact isO_of z.1
    · unfold ckKitB at zB
      rw [Bool.and_eq_true] at zB
      have z := all_of zB.1 n hn
      rw [Bool.and_eq_true] at z
      exact isO_of z.2
    · have z := all_of zV n hn
      simp only [Bool.and_eq_true] at z
      obtain ⟨z1, z2, z3, z4, z5⟩ := z
      exact ⟨isO_of z1, isO_of z2, isO_of z3, isO_of z4, isO_of z5⟩
    · unfold ckKitB at zB
      rw [Bool.and_eq_true] at zB
      exact isO_of zB.2
  have Fw0 := fun_mk (st := sWell) lw0 cw0 kw0
  have bw0 := Fw0.binds (ps := ["script", "lap"]) fun _ _ _ _ _ _ us hl => match us, hl with | [_, _], _ => rfl
  have mw0 := PySem.W.mg_of X G gw0
  have Fw1 := fun_mk (st := sDraw) lw1 cw1 kw1
  have bw1 := Fw1.binds (ps := ["well", "few"]) fun _ _ _ _ _ _ us hl => match us, hl with | [_, _], _ => rfl
  have mw1 := PySem.W.mg_of X G gw1
  have Fw2 := fun_mk (st := sOne) lw2 cw2 kw2
  have bw2 := Fw2.binds (ps := ["well", "some"]) fun _ _ _ _ _ _ us hl => match us, hl with | [_, _], _ => rfl
  have mw2 := PySem.W.mg_of X G gw2
  have Fw3 := fun_mk (st := sOdd) lw3 cw3 kw3
  have bw3 := Fw3.binds (ps := ["well"]) fun _ _ _ _ _ _ us hl => match us, hl with | [_], _ => rfl
  have mw3 := PySem.W.mg_of X G gw3
  have Fw4 := fun_mk (st := sThing) lw4 cw4 kw4
  have bw4 := Fw4.binds (ps := ["well", "deep"]) fun _ _ _ _ _ _ us hl => match us, hl with | [_, _], _ => rfl
  have mw4 := PySem.W.mg_of X G gw4
  have Fw5 := fun_mk (st := sPlace) lw5 cw5 kw5
  have bw5 := Fw5.binds (ps := ["number", "one", "two"]) fun _ _ _ _ _ _ us hl => match us, hl with | [_, _, _], _ => rfl
  have mw5 := PySem.W.mg_of X G gw5
  have Fw6 := fun_mk (st := sName) lw6 cw6 kw6
  have bw6 := Fw6.binds (ps := ["number", "one", "two"]) fun _ _ _ _ _ _ us hl => match us, hl with | [_, _, _], _ => rfl
  have mw6 := PySem.W.mg_of X G gw6
  have Fw7 := fun_mk (st := sKept) lw7 cw7 kw7
  have bw7 := Fw7.binds (ps := ["number", "error"]) fun _ _ _ _ _ _ us hl => match us, hl with | [_, _], _ => rfl
  have mw7 := PySem.W.mg_of X G gw7
  have Fw8 := fun_mk (st := sClasses) lw8 cw8 kw8
  have bw8 := Fw8.binds (ps := ["error"]) fun _ _ _ _ _ _ us hl => match us, hl with | [_], _ => rfl
  have mw8 := PySem.W.mg_of X G gw8
  have Fw9 := fun_mk (st := sIsOf) lw9 cw9 kw9
  have bw9 := Fw9.binds (ps := ["number", "error"]) fun _ _ _ _ _ _ us hl => match us, hl with | [_, _], _ => rfl
  have mw9 := PySem.W.mg_of X G gw9
  have Fw10 := fun_mk (st := sDue) lw10 cw10 kw10
  have bw10 := Fw10.binds (ps := ["number", "one", "two"]) fun _ _ _ _ _ _ us hl => match us, hl with | [_, _, _], _ => rfl
  have mw10 := PySem.W.mg_of X G gw10
  have Fw11 := fun_mk (st := sMet) lw11 cw11 kw11
  have bw11 := Fw11.binds (ps := ["number", "one", "two"]) fun _ _ _ _ _ _ us hl => match us, hl with | [_, _, _], _ => rfl
  have mw11 := PySem.W.mg_of X G gw11
  have Fw12 := fun_mk (st := sRight) lw12 cw12 kw12
  have bw12 := Fw12.binds (ps := ["well"]) fun _ _ _ _ _ _ us hl => match us, hl with | [_], _ => rfl
  have mw12 := PySem.W.mg_of X G gw12
  have Fw13 := fun_mk (st := sLaw) lw13 cw13 kw13
  have bw13 := Fw13.binds (ps := ["script"]) fun _ _ _ _ _ _ us hl => match us, hl with | [_], _ => rfl
  have mw13 := PySem.W.mg_of X G gw13
  have D : Dr K mg w4 w3 w2 w1 _ _ _ _ := ⟨Fw4, Fw3, Fw2, Fw1, mw4, mw3, mw2, mw1, bw4, bw3, bw2, bw1, nd, nb.int, nb.len, nb.rng, nt⟩
  have c18 := zA 18 (by decide)
  unfold ckCls at c18
  simp only [Bool.and_eq_true] at c18
  obtain ⟨_, _, r18, _, _, _, _, t18, _⟩ := c18
  have zx : ∀ n, n < 20 → _ := fun n hn => all_of zE n hn
  simp only [Bool.and_eq_true] at zx
  have WH := Wh.mk D S nb Fw5 Fw6 Fw7 Fw8 Fw9 Fw10 Fw11 mw5 mw6 mw7 mw8 mw9 mw10 mw11 bw5 bw6 bw7 bw8 bw9 bw10 bw11 (fun n hn => isO_of (zx n hn).1) (fun n hn => isO_of (zx n hn).2.1) (fun n hn => isO_of (zx n hn).2.2) (isO_of r18) (isT_of t18) (excC_of zcB cz)
  exact ⟨_, fun s u => .of_eq rfl, fun base _ _ => ok_law Fw13 Fw0 Fw12 mw0 mw12 bw0 bw12 WH na⟩
end K1

open PySem PySem.W PyProof.Rows
set_option maxHeartbeats 0 in
theorem PySem.Challenge.cw_causaleffects_k01_errors_each_of_its_own_holds : PySem.Challenge.rw_causaleffects_k01_errors_each_of_its_own.Holds := by
  w_on; o_law; k_head; (case hw => w_witness2)
  k_fill
  refine KL.walkG (l := PySem.Challenge.rw_causaleffects_k01_errors_each_of_its_own) (n := 63) (k := 8) (x := "script") (sp := K1.spLaw) rfl (by decide) rfl ⟨rfl, by decide, by decide⟩ (fun w h Y => PySem.W.kIn_of Y) ?F ?G
  case F =>
    intro w mg fa h KX G hmg
    refine' K1.all_mk KX G hmg ?own_g0 ?own_g1 ?own_g2 ?own_g3 ?own_g4 ?own_g5 ?own_g6 ?own_g7 ?own_g8 ?own_g9 ?own_g10 ?own_g11 ?own_g12 ?own_g13 ?own_g14 ?own_g15 ?own_g16 ?own_g17 ?own_g18 ?own_g19 ?own_gB ?own_x0 ?own_i0 ?own_l0 ?own_c0 ?own_t0 ?own_k0 ?own_x1 ?own_i1 ?own_l1 ?own_c1 ?own_t1 ?own_k1 ?own_x2 ?own_i2 ?own_l2 ?own_c2 ?own_t2 ?own_k2 ?own_x3 ?own_i3 ?own_l3 ?own_c3 ?own_t3 ?own_k3 ?own_x4 ?own_i4 ?own_l4 ?own_c4 ?own_t4 ?own_k4 ?own_x5 ?own_i5 ?own_l5 ?own_c5 ?own_t5 ?own_k5 ?own_x6 ?own_i6 ?own_l6 ?own_c6 ?own_t6 ?own_k6 ?own_x7 ?own_i7 ?own_l7 ?own_c7 ?own_t7 ?own_k7 ?own_x8 ?own_i8 ?own_l8 ?own_c8 ?own_t8 ?own_k8 ?own_x9 ?own_i9 ?own_l9 ?own_c9 ?own_t9 ?own_k9 ?own_x10 ?own_i10 ?own_l10 ?own_c10 ?own_t10 ?own_k10 ?own_x11 ?own_i11 ?own_l11 ?own_c11 ?own_t11 ?own_k11 ?own_x12 ?own_i12 ?own_l12 ?own_c12 ?own_t12 ?own_k12 ?own_x13 ?own_i13 ?own_l13 ?own_c13 ?own_t13 ?own_k13 ?own_x14 ?own_i14 ?own_l14 ?own_c14 ?own_t14 ?own_k14 ?own_x15 ?own_i15 ?own_l15 ?own_c15 ?own_t15 ?own_k15 ?own_x16 ?own_i16 ?own_l16 ?own_c16 ?own_t16 ?own_k16 ?own_x19 ?own_i19 ?own_l19 ?own_c19 ?own_t19 ?own_k19 ?own_gw0 ?own_lw0 ?own_cw0 ?own_kw0 ?own_gw1 ?own_lw1 ?own_cw1 ?own_kw1 ?own_gw2 ?own_lw2 ?own_cw2 ?own_kw2 ?own_gw3 ?own_lw3 ?own_cw3 ?own_kw3 ?own_gw4 ?own_lw4 ?own_cw4 ?own_kw4 ?own_gw5 ?own_lw5 ?own_cw5 ?own_kw5 ?own_gw6 ?own_lw6 ?own_cw6 ?own_kw6 ?own_gw7 ?own_lw7 ?own_cw7 ?own_kw7 ?own_gw8 ?own_lw8 ?own_cw8 ?own_kw8 ?own_gw9 ?own_lw9 ?own_cw9 ?own_kw9 ?own_gw10 ?own_lw10 ?own_cw10 ?own_kw10 ?own_gw11 ?own_lw11 ?own_cw11 ?own_kw11 ?own_gw12 ?own_lw12 ?own_cw12 ?own_kw12 ?own_gw13 ?own_lw13 ?own_cw13 ?own_kw13 ?own_zA ?own_zK ?own_zB ?own_zV ?own_zE ?own_zF ?own_zN ?own_e17 ?own_e18 ?own_eB
    (case own_g0 => k_is)
    (case own_g1 => k_is)
    (case own_g2 => k_is)
    (case own_g3 => k_is)
    (case own_g4 => k_is)
    (case own_g5 => k_is)
    (case own_g6 => k_is)
    (case own_g7 => k_is)
    (case own_g8 => k_is)
    (case own_g9 => k_is)
    (case own_g10 => k_is)
    (case own_g11 => k_is)
    (case own_g12 => k_is)
    (case own_g13 => k_is)
    (case own_g14 => k_is)
    (case own_g15 => k_is)
    (case own_g16 => k_is)
    (case own_g17 => k_is)
    (case own_g18 => k_is)
    (case own_g19 => k_is)
    (case own_gB => k_is)
    (case own_x0 => k_is)
    (case own_i0 => k_is)
    (case own_l0 => k_is)
    (case own_c0 => k_is)
    (case own_t0 => k_is)
    (case own_k0 => k_is)
    (case own_x1 => k_is)
    (case own_i1 => k_is)
    (case own_l1 => k_is)
    (case own_c1 => k_is)
    (case own_t1 => k_is)
    (case own_k1 => k_is)
    (case own_x2 => k_is)
    (case own_i2 => k_is)
    (case own_l2 => k_is)
    (case own_c2 => k_is)
    (case own_t2 => k_is)
    (case own_k2 => k_is)
    (case own_x3 => k_is)
    (case own_i3 => k_is)
    (case own_l3 => k_is)
    (case own_c3 => k_is)
    (case own_t3 => k_is)
    (case own_k3 => k_is)
    (case own_x4 => k_is)
    (case own_i4 => k_is)
    (case own_l4 => k_is)
    (case own_c4 => k_is)
    (case own_t4 => k_is)
    (case own_k4 => k_is)
    (case own_x5 => k_is)
    (case own_i5 => k_is)
    (case own_l5 => k_is)
    (case own_c5 => k_is)
    (case own_t5 => k_is)
    (case own_k5 => k_is)
    (case own_x6 => k_is)
    (case own_i6 => k_is)
    (case own_l6 => k_is)
    (case own_c6 => k_is)
    (case own_t6 => k_is)
    (case own_k6 => k_is)
    (case own_x7 => k_is)
    (case own_i7 => k_is)
    (case own_l7 => k_is)
    (case own_c7 => k_is)
    (case own_t7 => k_is)
    (case own_k7 => k_is)
    (case own_x8 => k_is)
    (case own_i8 => k_is)
    (case own_l8 => k_is)
    (case own_c8 => k_is)
    (case own_t8 => k_is)
    (case own_k8 => k_is)
    (case own_x9 => k_is)
    (case own_i9 => k_is)
    (case own_l9 => k_is)
    (case own_c9 => k_is)
    (case own_t9 => k_is)
    (case own_k9 => k_is)
    (case own_x10 => k_is)
    (case own_i10 => k_is)
    (case own_l10 => k_is)
    (case own_c10 => k_is)
    (case own_t10 => k_is)
    (case own_k10 => k_is)
    (case own_x11 => k_is)
    (case own_i11 => k_is)
    (case own_l11 => k_is)
    (case own_c11 => k_is)
    (case own_t11 => k_is)
    (case own_k11 => k_is)
    (case own_x12 => k_is)
    (case own_i12 => k_is)
    (case own_l12 => k_is)
    (case own_c12 => k_is)
    (case own_t12 => k_is)
    (case own_k12 => k_is)
    (case own_x13 => k_is)
    (case own_i13 => k_is)
    (case own_l13 => k_is)
    (case own_c13 => k_is)
    (case own_t13 => k_is)
    (case own_k13 => k_is)
    (case own_x14 => k_is)
    (case own_i14 => k_is)
    (case own_l14 => k_is)
    (case own_c14 => k_is)
    (case own_t14 => k_is)
    (case own_k14 => k_is)
    (case own_x15 => k_is)
    (case own_i15 => k_is)
    (case own_l15 => k_is)
    (case own_c15 => k_is)
    (case own_t15 => k_is)
    (case own_k15 => k_is)
    (case own_x16 => k_is)
    (case own_i16 => k_is)
    (case own_l16 => k_is)
    (case own_c16 => k_is)
    (case own_t16 => k_is)
    (case own_k16 => k_is)
    (case own_x19 => k_is)
    (case own_i19 => k_is)
    (case own_l19 => k_is)
    (case own_c19 => k_is)
    (case own_t19 => k_is)
    (case own_k19 => k_is)
    (case own_gw0 => k_is)
    (case own_lw0 => k_is)
    (case own_cw0 => k_is)
    (case own_kw0 => k_is)
    (case own_gw1 => k_is)
    (case own_lw1 => k_is)
    (case own_cw1 => k_is)
    (case own_kw1 => k_is)
    (case own_gw2 => k_is)
    (case own_lw2 => k_is)
    (case own_cw2 => k_is)
    (case own_kw2 => k_is)
    (case own_gw3 => k_is)
    (case own_lw3 => k_is)
    (case own_cw3 => k_is)
    (case own_kw3 => k_is)
    (case own_gw4 => k_is)
    (case own_lw4 => k_is)
    (case own_cw4 => k_is)
    (case own_kw4 => k_is)
    (case own_gw5 => k_is)
    (case own_lw5 => k_is)
    (case own_cw5 => k_is)
    (case own_kw5 => k_is)
    (case own_gw6 => k_is)
    (case own_lw6 => k_is)
    (case own_cw6 => k_is)
    (case own_kw6 => k_is)
    (case own_gw7 => k_is)
    (case own_lw7 => k_is)
    (case own_cw7 => k_is)
    (case own_kw7 => k_is)
    (case own_gw8 => k_is)
    (case own_lw8 => k_is)
    (case own_cw8 => k_is)
    (case own_kw8 => k_is)
    (case own_gw9 => k_is)
    (case own_lw9 => k_is)
    (case own_cw9 => k_is)
    (case own_kw9 => k_is)
    (case own_gw10 => k_is)
    (case own_lw10 => k_is)
    (case own_cw10 => k_is)
    (case own_kw10 => k_is)
    (case own_gw11 => k_is)
    (case own_lw11 => k_is)
    (case own_cw11 => k_is)
    (case own_kw11 => k_is)
    (case own_gw12 => k_is)
    (case own_lw12 => k_is)
    (case own_cw12 => k_is)
    (case own_kw12 => k_is)
    (case own_gw13 => k_is)
    (case own_lw13 => k_is)
    (case own_cw13 => k_is)
    (case own_kw13 => k_is)
    (case own_zA => kernel_rfl)
    (case own_zK => kernel_rfl)
    (case own_zB => kernel_rfl)
    (case own_zV => kernel_rfl)
    (case own_zE => kernel_rfl)
    (case own_zF => kernel_rfl)
    (case own_zN => kernel_rfl)
    (case own_e17 => k_exc)
    (case own_e18 => k_exc)
    (case own_eB => k_exc)
  case G =>
    exact fun K H a ns hl _ hS => ⟨a, ns, rfl, hS, hl, fun _ => rfl⟩

