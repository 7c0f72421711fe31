import PyProof.Rows.All
import HandS.ForMost
import HandS.Wide
import HandS.Exc
import HandS.ExcOwn
import HandS.ExcInit
import HandS.ExcIs
import HandS.ExcField
import HandS.IsInst
import HandS.TryMany
import HandS.Hot
import HandS.HotCalls
import KE.KExcIs
import PyProof.ReprRoads
import HandS.EndTab
import HandS.AnyAll
import HandS.GenOver
import HandS.GenList
import HandS.Iter
import PyProof.TupleOfGen
import HandS.TupLe
import HandS.More
import HandS.SetFor
import HandS.Strs
import HandS.Conv
import HandS.TupAny
import HandS.Style
import HandS.Text
import PyProof.SliceStr2
import HandS.TupSets
import HandS.Deep
import PyProof.Rows.StrFit
import HandS.Steps
import KE.GoesEnum
import HandS.Rev
import HandS.Dict
import PyProof.ReprLen
import PyProof.FitsInt
import HandS.SortOrd
import PySem.Challenge.RW_causaleffects_k31_whole_rounds_end_at_th
set_option Elab.async false
set_option linter.all false
set_option maxRecDepth 100000
set_option maxHeartbeats 4000000
/-! Own layer, part A: data at any depth, what repr shows of it, literals. -/
namespace KL
open PySem PySem.Spec PyProof.Rows L2

/-! ### data -/
/-- all but what Z names stands -/
def Kp (Z : Addr → Prop) (H G : Hp) : Prop := ∀ b o, ¬ Z b → H b = some o → G b = some o
theorem Kp.rfl' {Z : Addr → Prop} {H : Hp} : Kp Z H H := fun _ _ _ h => h
theorem Kp.tr {Z : Addr → Prop} {H G J : Hp} (a : Kp Z H G) (b : Kp Z G J) : Kp Z H J := fun c o n h => b c o n (a c o n h)
theorem Kp.wk {Z Y : Addr → Prop} {H G : Hp} (a : Kp Z H G) (h : ∀ b, Z b → Y b) : Kp Y H G := fun c o n e => a c o (fun z => n (h c z)) e
theorem Kp.new {Z : Addr → Prop} {H : Hp} {p : Addr} {o : HO} (n : H p = none) : Kp Z H (upd H p o) := fun b u _ e => by
  rw [upd_ne (ne_of_none e n)]
  exact e
theorem Kp.at {Z : Addr → Prop} {H : Hp} {p : Addr} {o : HO} (z : Z p) : Kp Z H (upd H p o) := fun b u nz e => by
  have ne : b ≠ p := fun q => nz (q ▸ z)
  rw [upd_ne ne]
  exact e
theorem Kp.same {Z : Addr → Prop} {H G : Hp} (s : Same H G) : Kp Z H G := fun b o _ e => s b o e

theorem rd_kp {Z : Addr → Prop} {H G : Hp} {a : Addr} {u : HO} (k : Kp Z H G) (z : ¬ Z a) (e : Rd H a u) : Rd G a u := e.imp (k _ _ z) fun ⟨o, h⟩ => ⟨o, k _ _ z h⟩
mutual
/-- v is the data d; no list, tuple or dict of it stands where Z says -/
inductive Dq (Z : Addr → Prop) (H : Hp) : V → PyData → Prop
  | non : Dq Z H .non .none
  | bl (b : Bool) : Dq Z H (.bl b) (.bool b)
  | int (i : Int) : Dq Z H (.int i) (.int i)
  | str (x : Str) : Dq Z H (.str x) (.str x)
  | lst {a : Addr} {xs : List V} {ds : List PyData} (e : H a = some (.lst xs)) (z : ¬ Z a) (m : a ≠ sysModules) (h : DqL Z H xs ds) : Dq Z H (.ref a) (.list ds)
  | tup {a : Addr} {xs : List V} {ds : List PyData} (e : Rd H a (.tup xs)) (z : ¬ Z a) (h : DqL Z H xs ds) : Dq Z H (.ref a) (.tuple ds)
  | dct {a : Addr} (e : H a = some (.dK [])) (z : ¬ Z a) (m : a ≠ sysModules) : Dq Z H (.ref a) (.dict [])
inductive DqL (Z : Addr → Prop) (H : Hp) : List V → List PyData → Prop
  | nil : DqL Z H [] []
  | cons {v : V} {vs : List V} {d : PyData} {ds : List PyData} (h : Dq Z H v d) (t : DqL Z H vs ds) : DqL Z H (v :: vs) (d :: ds)
end
section
variable {Z Y : Addr → Prop} {H G : Hp}
mutual
theorem Dq.mv (k : Kp Z H G) (w : ∀ b, Y b → Z b) : ∀ (d : PyData) (v : V), Dq Z H v d → Dq Y G v d
  | .none, _, h => by cases h; exact .non
  | .bool _, _, h => by cases h; exact .bl _
  | .int _, _, h => by cases h; exact .int _
  | .str _, _, h => by cases h; exact .str _
  | .list ds, _, h => by
    cases h with
    | lst e z m h => exact .lst (k _ _ z e) (fun q => z (w _ q)) m (DqL.mv k w ds _ h)
  | .tuple ds, _, h => by
    cases h with
    | tup e z h => exact .tup (rd_kp k z e) (fun q => z (w _ q)) (DqL.mv k w ds _ h)
  | .dict kvs, _, h => by
    cases h with
    | dct e z m => exact .dct (k _ _ z e) (fun q => z (w _ q)) m
theorem DqL.mv (k : Kp Z H G) (w : ∀ b, Y b → Z b) : ∀ (ds : List PyData) (vs : List V), DqL Z H vs ds → DqL Y G vs ds
  | [], _, h => by cases h; exact .nil
  | d :: ds, _, h => by
    cases h with
    | cons h t => exact .cons (Dq.mv k w d _ h) (DqL.mv k w ds _ t)
end
theorem Dq.kp {v : V} {d : PyData} (h : Dq Z H v d) (k : Kp Z H G) : Dq Z G v d := Dq.mv k (fun _ z => z) d v h
theorem DqL.kp {vs : List V} {ds : List PyData} (h : DqL Z H vs ds) (k : Kp Z H G) : DqL Z G vs ds := DqL.mv k (fun _ z => z) ds vs h
theorem Dq.wk {v : V} {d : PyData} (h : Dq Z H v d) (w : ∀ b, Y b → Z b) : Dq Y H v d := Dq.mv Kp.rfl' w d v h
theorem DqL.wk {vs : List V} {ds : List PyData} (h : DqL Z H vs ds) (w : ∀ b, Y b → Z b) : DqL Y H vs ds := DqL.mv Kp.rfl' w ds vs h
theorem DqL.len : ∀ {vs : List V} {ds : List PyData}, DqL Z H vs ds → vs.length = ds.length
  | _, _, .nil => rfl
  | _, _, .cons _ t => congrArg Nat.succ t.len
theorem DqL.app : ∀ {vs ws : List V} {ds es : List PyData}, DqL Z H vs ds → DqL Z H ws es → DqL Z H (vs ++ ws) (ds ++ es)
  | _, _, _, _, .nil, h => h
  | _, _, _, _, .cons a t, h => .cons a (t.app h)
theorem DqL.get : ∀ {vs : List V} {ds : List PyData} {i : Nat} {v : V}, DqL Z H vs ds → vs[i]? = some v → ∃ d, ds[i]? = some d ∧ Dq Z H v d
  | _, _, _, _, .nil, e => by simp at e
  | _, _, 0, _, .cons a _, e => by
    have q := Option.some.inj e
    subst q
    exact ⟨_, rfl, a⟩
  | _, _, i + 1, _, .cons _ t, e => t.get (i := i) e
end

section
variable {Z : Addr → Prop} {X : Cx} {pins : List (Addr × Obj)} {σ : L2.St} {H : Hp} {s : Shared}
mutual
theorem Dq.rd (I : Inv X pins σ H s) : ∀ (d : PyData) (v : V) (u : Value), Dq Z H v d → RelV v u → ∃ as, Reads s.heap u d as ∧ sysModules ∉ as
  | .none, _, _, h, r => by
    cases h
    obtain rfl : _ = Value.none := r
    exact ⟨[], .none, List.not_mem_nil⟩
  | .bool b, _, _, h, r => by
    cases h
    obtain rfl : _ = Value.bool b := r
    exact ⟨[], .bool b, List.not_mem_nil⟩
  | .int i, _, _, h, r => by
    cases h
    obtain ⟨t, rfl⟩ := r
    exact ⟨[], .int i t, List.not_mem_nil⟩
  | .str x, _, _, h, r => by
    cases h
    obtain ⟨t, rfl⟩ := r
    exact ⟨[], .str x t, List.not_mem_nil⟩
  | .list ds, _, u, h, r => by
    cases h with
    | @lst a xs _ e z m h =>
      obtain rfl : u = Value.ref a := r
      obtain ⟨_, its, n, rv, ho⟩ : ObjOk X.prog X.w H s.heap a (.lst xs) := I.hok a _ e
      obtain ⟨as, q, nm⟩ := DqL.rd I ds xs its h rv
      exact ⟨a :: as, .list ho (by rfl) (by rfl) q, fun hm => (List.mem_cons.mp hm).elim (fun z => m z.symm) nm⟩
  | .tuple ds, _, u, h, r => by
    cases h with
    | @tup a xs _ e z h =>
      obtain rfl : u = Value.ref a := r
      obtain ⟨_, its, rv, o, ho, hc, n, hd⟩ : ObjOk X.prog X.w H s.heap a (.tup xs) := e.ok I.hok
      obtain ⟨as, q, nm⟩ := DqL.rd I ds xs its h rv
      exact ⟨as, .tuple ho hc hd q, nm⟩
  | .dict kvs, _, u, h, r => by
    cases h with
    | @dct a e z m =>
      obtain rfl : u = Value.ref a := r
      obtain ⟨_, _, vs, kv, o, es, ep, ho, hx, hd, hr⟩ : ObjOk X.prog X.w H s.heap a (.dK []) := I.hok a _ e
      cases kv
      refine ⟨[a], ?_, fun hm => m (List.mem_singleton.mp hm).symm⟩
      have he : es.toList = [] := by
        obtain ⟨_, hp, _⟩ := hr
        cases hl : es.toList with
        | nil => rfl
        | cons x xs =>
          rw [hl] at hp
          cases hp
      exact .dict (as := []) (bs := []) ho hx.1 hd (by rw [he]; exact .nil) (by rw [he]; exact .nil)
theorem DqL.rd (I : Inv X pins σ H s) : ∀ (ds : List PyData) (vs : List V) (us : List Value), DqL Z H vs ds → Vals vs us → ∃ as, ReadsAll s.heap us ds as ∧ sysModules ∉ as
  | [], _, _, h, r => by
    cases h
    cases r
    exact ⟨[], .nil, List.not_mem_nil⟩
  | d :: ds, _, _, h, r => by
    cases h with
    | cons h1 h2 =>
      cases r with
      | cons r1 r2 =>
        obtain ⟨as, q1, n1⟩ := Dq.rd I d _ _ h1 r1
        obtain ⟨bs, q2, n2⟩ := DqL.rd I ds _ _ h2 r2
        exact ⟨as ++ bs, .cons q1 q2, fun hm => (List.mem_append.mp hm).elim n1 n2⟩
end
end

/-! ### repr of a list of data -/
theorem repr_list {prog : Program} {w : World} {A : Around} {E : Value → Shared → Prop} {s : Shared} {Q : Value → Shared → Prop} {a : Addr} {o : Obj} {l : List Value} {n : Nat} {ds : List PyData} {as : List Addr} (ho : s.heap.get? a = some o) (hc : o.cls = .type "list") (hd : o.data = .seq l.toArray n) (r : ReadsAll s.heap l ds as)
    (nm : sysModules ∉ as) (hs : PyData.showableAll ds = true) (hg : A.guards = some []) (hu : A.units + (PyData.depthAll ds + 2) < cLine) (hz : (listText (PyData.shownAll ds)).length ≤ sizeLine)
    (hQ : ∀ h' u tk, (∀ b o, s.heap.get? b = some o → h'.get? b = some o) → Q (.str (listText (PyData.shownAll ds)) u) { s with heap := h', toks := tk }) : wpAny (model prog w) A (call (.builtin "repr") [.ref a]) Q E s := by
  refine call_repr_slot (by omega) (⟨o, ho, hc⟩ : s.TypeIs (.ref a) "list") F.slot_list_repr.toG ?_
  obtain ⟨bs, hb, hk⟩ := ReprAllK.of_readsAll (prog := prog) (w := w) r hs (fun _ => nm) fun t ht => Nat.le_trans (listText_mem_le ht) hz
  have out : a ∉ bs := not_mem_of_deeper (.list ho hc hd r) (by simp only [PyData.depth]; omega) hb
  have unit : A.in1.units + (PyData.depthAll ds + 1) < cLine := by
    show A.units + 1 + (PyData.depthAll ds + 1) < cLine
    omega
  cases l with
  | nil =>
    cases r
    refine call_list_repr_empty ⟨o, ho, hc⟩ ho hd ?_
    have q := fun u tk => hQ s.heap u tk fun _ _ e => e
    simp only [PyData.shownAll, listText_nil] at q
    exact ⟨_, _, rfl, q _ _⟩
  | cons x l =>
    refine call_list_reprK ho hc hd out (by simpa using hk.length_eq) (fun i y e => hk.item i y (by simpa using e)) hg (fun b _ => Clear.nil b) (by first | exact unit | (simpa [PyData.depthAll] using unit)) (fun _ _ e => e) (fun h' u tk k => ⟨_, _, rfl, hQ h' u tk k⟩) hz
/-- repr(x), x a list of data -/
def rRepr : List V → Hp → VK → Prop := fun xs H Q => ∃ (Z : Addr → Prop) (a : Addr) (l : List V) (ds : List PyData), xs = [.ref a] ∧ H a = some (.lst l) ∧ DqL Z H l ds ∧ PyData.showableAll ds = true ∧ PyData.depthAll ds ≤ 60 ∧ (listText (PyData.shownAll ds)).length ≤ 1000000 ∧ Q (.str (listText (PyData.shownAll ds))) H
theorem call_repr {X : Cx} (hg : X.A.guards = some []) (hu : X.A.units + 64 < cLine) : CallR X (.builtin "repr") rRepr := by
  intro pins s σ H xs us Q I r h
  obtain ⟨Z, a, l, ds, rfl, ha, hd, hs, hdp, hl, q⟩ := h
  cases r with
  | cons r1 r2 =>
    cases r2
    obtain rfl : _ = Value.ref a := r1
    obtain ⟨_, its, n, rv, ho⟩ : ObjOk X.prog X.w H s.heap a (.lst l) := I.hok a _ ha
    obtain ⟨as, rd, nm⟩ := DqL.rd I ds l its hd rv
    refine repr_list ho (by rfl) (by rfl) rd nm hs hg (by omega) (by rw [sizeLine_eq]; omega) fun h' u tk k => ?_
    exact ⟨.str _, H, I.kept (h' := h') (t' := tk) k, ⟨u, rfl⟩, q⟩
end KL

namespace KL
open PySem PySem.Spec PyProof.Rows L2

theorem imp {X : Cx} {e : Expr} {t u : TE} (p : PE X e t) (h : ∀ σ H Q, u σ H Q → t σ H Q) : PE X e u := ⟨fun pins s σ H Q I q => p.run pins s σ H Q I (h σ H Q q)⟩
theorem impA {X : Cx} {es : List Expr} {t u : TA} (p : PA X es t) (h : ∀ σ H Q, u σ H Q → t σ H Q) : PA X es u := ⟨fun po pins s σ H Q I q => p.run po pins s σ H Q I (h σ H Q q)⟩

/-- a new list, that is not the table of modules -/
def tLstM (t : TA) : TE := fun σ H Q => t σ H fun xs H1 => xs.length ≤ sizeLine ∧ ∀ p, H1 p = none → p ≠ sysModules → Q (.ref p) (upd H1 p (.lst xs))
theorem pe_lstM {X : Cx} {es : List Expr} {t : TA} {pos : Pos} (h : PA X es t) : PE X (.List es pos) (tLstM t) := by
  refine ⟨fun pins s σ H Q I hq => wpAny_List_spliced (thn (h.run pos pins s σ H _ I hq) fun us s1 ⟨xs, H1, I1, r, z, q⟩ => ⟨r.length ▸ z, ?_⟩)⟩
  have fresh := I1.hok.fresh (Nat.le_refl s1.heap.objs.size)
  have I2 := I1.laid (t' := s1.toks) (a := s1.heap.objs.size) (o := .lst xs) (h' := s1.heap.push { cls := .type "list", data := .seq us.toArray }) (fun b u e => Heap.get?_push_of_some _ e) (Nat.le_refl _) ⟨z, us, 0, r, Heap.get?_push_size _ rfl⟩
  exact ⟨.ref s1.heap.objs.size, _, I2, rfl, q _ fresh (Nat.ne_of_gt I1.big)⟩
def tDctM : TE := fun _ H Q => ∀ p, H p = none → p ≠ sysModules → Q (.ref p) (upd H p (.dK []))
theorem pe_dctM {X : Cx} {pos : Pos} : PE X (.Dict [] [] pos) tDctM := by
  refine ⟨fun pins s σ H Q I hq => wpAny_Dict_empty ?_⟩
  have I2 := I.laid (t' := s.toks) (a := s.heap.objs.size) (o := .dK []) (h' := s.heap.push { cls := .type "dict", data := .dict #[] }) (fun b u e => Heap.get?_push_of_some _ e) (Nat.le_refl _) (dk_empty s.heap I.big)
  exact ⟨.ref s.heap.objs.size, _, I2, rfl, hq _ (I.hok.fresh (Nat.le_refl _)) (Nat.ne_of_gt I.big)⟩

/-- a + b, two lists that may be written to -/
def rCatM : R2 := fun x y H Q => ∃ (l b : Addr) (xs zs : List V), x = .ref l ∧ y = .ref b ∧ H l = some (.lst xs) ∧ H b = some (.lst zs) ∧ xs.length + zs.length ≤ sizeLine ∧ ∀ p, H p = none → p ≠ sysModules → Q (.ref p) (upd H p (.lst (xs ++ zs)))
theorem op_catM {X : Cx} : OpR X (binaryOp .Add) rCatM := by
  intro pins s σ H x y v u Q I rx ry h
  obtain ⟨l, b, xs, zs, rfl, rfl, hl, hb, hz, q⟩ := h
  obtain rfl : v = Value.ref l := rx
  obtain rfl : u = Value.ref b := ry
  obtain ⟨_, i1, n1, r1, _, e1⟩ := I.lstM hl
  obtain ⟨_, i2, n2, r2, _, e2⟩ := I.lstM hb
  have k1 := r1.length
  have k2 := r2.length
  refine PySem.P.add_list e1 e2 ?_ (by rw [List.size_toArray, List.size_toArray]; omega)
  rw [show i1.toArray ++ i2.toArray = (i1 ++ i2).toArray by simp]
  exact ⟨.ref s.heap.objs.size, _, I.lnew (t' := s.toks) (r1.append r2) (by rw [List.length_append]; omega), rfl, q _ (I.hok.fresh (Nat.le_refl _)) (Nat.ne_of_gt I.big)⟩

/-! ### literals -/
mutual
def lit : Nat → Expr → Option PyData
  | 0, _ => none
  | n + 1, e => match e with
    | .Constant .none _ _ => some .none
    | .Constant (.bool b) _ _ => some (.bool b)
    | .Constant (.int i) _ _ => some (.int i)
    | .Constant (.str x) _ _ => some (.str x)
    | .UnaryOp .USub (.Constant (.int i) _ _) _ => some (.int (-i))
    | .BinOp (.Constant (.int i) _ _) .Pow (.Constant (.int j) _ _) _ => if 0 ≤ j ∧ j ≤ 1000000 ∧ i.natAbs < 2 ^ 64 then some (.int (i ^ j.toNat)) else none
    | .Tuple es _ _ => if es.length ≤ 1000 then (litL n es).map .tuple else none
    | .List es _ => if es.length ≤ 1000 then (litL n es).map .list else none
    | .Dict [] [] _ => some (.dict [])
    | _ => none
def litL : Nat → List Expr → Option (List PyData)
  | _, [] => some []
  | 0, _ :: _ => none
  | n + 1, e :: es => match lit n e, litL n es with
    | some d, some ds => some (d :: ds)
    | _, _ => none
end
abbrev tracked (H : Hp) : Addr → Prop := fun b => H b ≠ none
/-- a new value that is the data d; all stands as it stood -/
def tLit (d : PyData) : TE := fun _ H Q => ∀ v G, Kp (fun _ => False) H G → Dq (tracked H) G v d → Q v G
def tLitL (ds : List PyData) : TA := fun _ H Q => ∀ vs G, Kp (fun _ => False) H G → DqL (tracked H) G vs ds → Q vs G
theorem Kp.free {H G : Hp} {p : Addr} (k : Kp (fun _ => False) H G) (n : G p = none) : ¬ tracked H p := fun t => by
  cases q : H p with
  | none => exact t q
  | some o =>
    have := k p o (fun z => z) q
    rw [n] at this
    cases this
theorem Kp.trk {H G : Hp} (k : Kp (fun _ => False) H G) : ∀ b, tracked H b → tracked G b := fun b t n => k.free n t
mutual
inductive Lit : Expr → PyData → Prop
  | non {j : Nat} {pos : Pos} : Lit (.Constant .none j pos) .none
  | bl {b : Bool} {j : Nat} {pos : Pos} : Lit (.Constant (.bool b) j pos) (.bool b)
  | int {i : Int} {j : Nat} {pos : Pos} : Lit (.Constant (.int i) j pos) (.int i)
  | str {x : Str} {j : Nat} {pos : Pos} : Lit (.Constant (.str x) j pos) (.str x)
  | neg {i : Int} {j : Nat} {p pos : Pos} : Lit (.UnaryOp .USub (.Constant (.int i) j p) pos) (.int (-i))
  | pow {i k : Int} {j l : Nat} {p q pos : Pos} (h : 0 ≤ k ∧ k ≤ 1000000 ∧ i.natAbs < 2 ^ 64) : Lit (.BinOp (.Constant (.int i) j p) .Pow (.Constant (.int k) l q) pos) (.int (i ^ k.toNat))
  | tup {es : List Expr} {ds : List PyData} {k : Nat} {pos : Pos} (h : LitL es ds) (z : es.length ≤ 1000) : Lit (.Tuple es k pos) (.tuple ds)
  | lst {es : List Expr} {ds : List PyData} {pos : Pos} (h : LitL es ds) (z : es.length ≤ 1000) : Lit (.List es pos) (.list ds)
  | dct {pos : Pos} : Lit (.Dict [] [] pos) (.dict [])
inductive LitL : List Expr → List PyData → Prop
  | nil : LitL [] []
  | cons {e : Expr} {d : PyData} {es : List Expr} {ds : List PyData} (h : Lit e d) (t : LitL es ds) : LitL (e :: es) (d :: ds)
end
theorem LitL.len : ∀ {es : List Expr} {ds : List PyData}, LitL es ds → ds.length = es.length
  | _, _, .nil => rfl
  | _, _, .cons _ t => congrArg Nat.succ t.len
mutual
theorem lit_ok : ∀ (n : Nat) (e : Expr) (d : PyData), lit n e = some d → Lit e d
  | 0, e, d, h => by unfold lit at h; cases h
  | n + 1, e, d, h => by
    unfold lit at h
    split at h
    · cases h; exact .non
    · cases h; exact .bl
    · cases h; exact .int
    · cases h; exact .str
    · cases h; exact .neg
    · split at h
      · cases h
        exact .pow (by assumption)
      · cases h
    · split at h
      · rename_i z
        obtain ⟨ds, h1, rfl⟩ := Option.map_eq_some_iff.mp h
        exact .tup (litL_ok n _ ds h1) z
      · cases h
    · split at h
      · rename_i z
        obtain ⟨ds, h1, rfl⟩ := Option.map_eq_some_iff.mp h
        exact .lst (litL_ok n _ ds h1) z
      · cases h
    · cases h; exact .dct
    · cases h
theorem litL_ok : ∀ (n : Nat) (es : List Expr) (ds : List PyData), litL n es = some ds → LitL es ds
  | n, [], ds, h => by
    unfold litL at h
    cases h
    exact .nil
  | 0, e :: es, ds, h => by unfold litL at h; cases h
  | n + 1, e :: es, ds, h => by
    unfold litL at h
    split at h
    · rename_i d ds' h1 h2
      cases h
      exact .cons (lit_ok n e d h1) (litL_ok n es ds' h2)
    · cases h
end
section
variable {X : Cx}
theorem Lit.star {e : Expr} {d : PyData} (h : Lit e d) {es : List Expr} {env : Env} : starEach (e :: es) env = (false, eval e env) :: starEach es env := by
  cases h <;> rfl
mutual
theorem pe_lit : ∀ {e : Expr} {d : PyData}, Lit e d → PE X e (tLit d)
  | _, _, .non => imp pe_non fun _ H _ q => q _ H Kp.rfl' .non
  | _, _, .bl => imp pe_bl fun _ H _ q => q _ H Kp.rfl' (.bl _)
  | _, _, .int => imp pe_int fun _ H _ q => q _ H Kp.rfl' (.int _)
  | _, _, .str => imp pe_str fun _ H _ q => q _ H Kp.rfl' (.str _)
  | _, _, .neg => imp (pe_un un_neg pe_int) fun _ H _ q => ⟨_, rfl, q _ H Kp.rfl' (.int _)⟩
  | _, _, .pow h => imp (pe_op op_pow pe_int pe_int) fun _ H _ q => ⟨_, _, rfl, rfl, h, q _ H Kp.rfl' (.int _)⟩
  | _, _, .tup h z => imp (pe_tup (pa_lit h)) fun _ H _ q vs G k dl => ⟨by rw [dl.len, h.len, sizeLine_eq]; omega, fun p n =>
      q _ _ (k.tr (Kp.new n)) (.tup (.inl upd_same) (k.free n) (dl.kp (Kp.new n)))⟩
  | _, _, .lst h z => imp (pe_lstM (pa_lit h)) fun _ H _ q vs G k dl => ⟨by rw [dl.len, h.len, sizeLine_eq]; omega, fun p n m =>
      q _ _ (k.tr (Kp.new n)) (.lst upd_same (k.free n) m (dl.kp (Kp.new n)))⟩
  | _, _, .dct => imp pe_dctM fun _ H _ q p n m => q _ _ (Kp.new n) (.dct upd_same (Kp.free Kp.rfl' n) m)
theorem pa_lit : ∀ {es : List Expr} {ds : List PyData}, LitL es ds → PA X es (tLitL ds)
  | _, _, .nil => impA pa_nil fun _ H _ q => q _ H Kp.rfl' .nil
  | _, _, .cons h t => impA (pa_cons (pe_lit h) (pa_lit t) h.star) fun _ H _ q v G k d vs G2 k2 ds =>
      q _ _ (k.tr k2) (.cons (d.kp (k2.wk fun _ z => z.elim)) (ds.wk fun b => k.trk b))
end
end
end KL

/-! Own layer, part C: defs whose promise leans on there being no repr under way (guards); the end of a law by such. -/
namespace KL
open PySem PySem.Spec PyProof.Rows L2

/-- as FnOk, asked only where nothing is being shown -/
structure FnG (P : Program) (w : World) (K : PySem.W.Frag) (mg : Str → Option Value) (base : Heap) (CX : CXT) (k : Nat) (f : Addr) (fd : FuncData) (ps : List Str) (sp : Sp) : Prop where
  len : ∀ vs H Q E, sp vs H Q E → vs.length = ps.length
  run : ∀ (A : Around) (outer : List Env) (s : Shared) (H : Hp) (args : Args) (us : List Value) (vs : List V) (Q : VK) (E : XK), A.guards = some [] → Room k A → Env0 P w K mg base A outer s H → BindsTo s fd args (ps.zip us) →
    Vals vs us → sp vs H Q E → codeAny (model P w) A (.call (.ref f) args) (CR CX outer P w H s Q E) s
section
variable {P : Program} {w : World} {K : PySem.W.Frag} {mg : Str → Option Value} {base : Heap} {CX : CXT} {k : Nat} {f : Addr} {fd : FuncData} {ps : List Str} {sp : Sp}
theorem FnG.of (F : FnOk P w K mg base CX k f fd ps sp) : FnG P w K mg base CX k f fd ps sp :=
  ⟨F.len, fun A outer s H args us vs Q E _ hr e0 hb rv h => F.run A outer s H args us vs Q E hr e0 hb rv h⟩
theorem FnG.mono {j : Nat} (F : FnG P w K mg base CX j f fd ps sp) (h : j ≤ k) : FnG P w K mg base CX k f fd ps sp :=
  ⟨F.len, fun A outer s H args us vs Q E hg hr => F.run A outer s H args us vs Q E hg (hr.mono h)⟩
end
theorem enter {P : Program} {w : World} {K : PySem.W.Frag} {mg : Str → Option Value} {base : Heap} {CX : CXT} {name qual : Str} {params : Arguments} {body : List Stmt} {scope : Scope} {dV kV doc pm cdv ct oc : Value} {an od : Option Addr} {osl : Array (Option Value)} {N ps : List Str} {f : Addr}
    {A : Around} {outer : List Env} {s : Shared} {H : Hp} {args : Args} {us : List Value} {vs : List V} {Q : VK} {E : XK} {t : TS} (S : FnScope N ps scope)
    (lk : K.lookup f = some ⟨oc, od, .func (PySem.W.fnOf name qual params body scope dV kV doc pm an cdv ct), osl⟩) (hcd : PySem.W.codeIn K cdv qual = true) (hd : A.handled = none) (hdp : A.depth < recursionLimit) (e0 : Env0 P w K mg base A outer s H)
    (hb : BindsTo s (PySem.W.fnOf name qual params body scope dV kV doc pm an cdv ct) args (ps.zip us)) (rv : Vals vs us) (hl : vs.length = ps.length)
    (hp : PSs (cxOf CX P w K mg base N qual scope f cdv A outer s H E) body t) (ht : t { nx := fun _ G => Q .non G, rt := Q } (start N vs) H) :
    codeAny (model P w) A (.call (.ref f) args) (CR CX outer P w H s Q E) s := by
  have up : ∀ b o, base.get? b = some o → s.heap.get? b = some o := fun b o e => (e0.bs b o e).1
  have inK : K.In s.heap := e0.mod.kin.keeps up
  refine codeAny_call_function hdp (inK _ _ lk) rfl S.co S.gen rfl (PySem.W.codeRec_of inK hcd) (hb _ _ _ _ ?_)
  have kinds : ∀ y ∈ ps.zip us, scope.names.lookup y.1 = some .local ∨ (scope.names.lookup y.1 = some .cell ∧ ((cellsFrom (s.heap.objs.size + 1) scope.names []).lookup y.1).isSome = true) := by
    rintro ⟨n, v⟩ hy
    have hn := (List.of_mem_zip hy).1
    exact (S.par n hn).imp id fun q => ⟨q, PySem.W.cellsFrom_some _ _ _ (.inl q)⟩
  refine wpAny_newFunctionEnv_cells S.kind kinds fun env he s1 x => ?_
  subst he
  refine ⟨(e0.mod.nolimit.keeps up).keeps x.toInCall.keep, codeAny_func ?_⟩
  refine wpAny_mono (hp.run [] s1 (start N vs) H _ (inv_start S hd e0 hl rv x) ht) (fun fl s' hs => ?_) fun _ _ z => z
  cases fl with
  | ret u => exact let ⟨v, _, G, J, r, q⟩ := hs; ⟨v, G, J.os, J.bare, J.base, J.hok, r, q⟩
  | next => exact let ⟨_, G, J, q⟩ := hs; ⟨V.non, G, J.os, J.bare, J.base, J.hok, rfl, q⟩
  | brk => exact let ⟨_, _, _, q⟩ := hs; q.elim
  | cont => exact let ⟨_, _, _, q⟩ := hs; q.elim
section
variable {P : Program} {w : World} {K : PySem.W.Frag} {mg : Str → Option Value} {base : Heap}
/-- a def by its body, nothing being shown -/
theorem okG {x qual : Str} {st : Stmt} {f : Addr} {fd : FuncData} {N ps : List Str} {k : Nat} {sp : Sp} (F : Fun K x qual st f fd) (S : FnScope N ps (defScope st)) (len : ∀ vs H Q E, sp vs H Q E → vs.length = ps.length)
    (hbody : ∀ (cdv : Value) (A : Around) (outer : List Env) (s : Shared) (H : Hp) (vs : List V) (Q : VK) (E : XK), A.guards = some [] → Room k (A.deeper (envOfC qual (defScope st) s.heap.objs.size f cdv)) → sp vs H Q E →
      ∃ t, PSs (cxOf CX0 P w K mg base N qual (defScope st) f cdv A outer s H E).nox (defBody st) t ∧ t { nx := fun _ G => Q .non G, rt := Q } (start N vs) H) : FnG P w K mg base CX0 (k + 1) f fd ps sp := by
  obtain ⟨oc, od, kV, doc, pm, an, cdv, ct, osl, rfl, lk, hcd⟩ := F.ex
  refine ⟨len, fun A outer s H args us vs Q E hg hr e0 hb rv h => ?_⟩
  obtain ⟨t, hp, q⟩ := hbody cdv A outer s H vs Q E hg (hr.deeper _) h
  exact enter S lk hcd hr.hd hr.depth e0 hb rv (len _ _ _ _ h) hp.nox q
end
section
variable {X : Cx} {k : Nat} {f : Addr} {fd : FuncData} {ps : List Str} {sp : Sp} {x : Str} {p pos : Pos} {e : Expr} {es : List Expr} {t : TA}
theorem runG {CX : CXT} {E : XK} {pins : List (Addr × Obj)} {σ : L2.St} {H : Hp} {s : Shared} {Q : VK} {us : List Value} {vs : List V} {args : Args} (F : FnG X.prog X.w X.K X.mg X.base CX k f fd ps sp) (hgd : X.A.guards = some []) (hr : Room k X.A)
    (hb : BindsTo s fd args (ps.zip us)) (hx : Passes CX X E) (I : Inv X pins σ H s) (rv : Vals vs us) (h : sp vs H Q E) : codeAny (model X.prog X.w) X.A (.call (.ref f) args) (fun r s' => match r with | .ok (.ret v) => EP X pins σ Q v s' | .ok _ => False | .error e => X.xe e s') s := by
  refine codeAny_mono (F.run X.A X.stack s H args us vs Q E hgd hr I.env0 hb rv h) fun r s' hq => ?_
  rcases r with e | (u | _ | _ | _)
  · exact hx pins σ H s e s' I hq
  all_goals first | exact I.after hq | exact False.elim hq
theorem pe_callG (F : FnG X.prog X.w X.K X.mg X.base CX0 k f fd ps sp) (hgd : X.A.guards = some []) (hr : Room k X.A) (hg : Gl X x) (hm : X.mg x = some (.ref f)) (hk : PySem.W.keepIn X.K (.ref f) = true) (hb : Binds X.K fd ps [])
    (ha : PA X (e :: es) t) (hdb : (x == ("__debug__" : Str)) = false := by decide) (he : starEach (e :: es) X.env = (false, eval e X.env) :: starEach es X.env := by rfl) (hpl : (backTo pos (starEach es X.env)).any (·.1) = false := by rfl) :
    PE X (.Call (.Name x p) (e :: es) [] pos) (tCall sp [] E0 t) := by
  refine ⟨fun pins s σ H Q I h => wpAny_Call_Name_kw (ld_glob I hg hm ?_ hdb)⟩
  refine PySem.W.callWith_K (h₀ := X.base) I.ok.mod.kin hk (thn (ha.run pos pins s σ H _ I h) fun us s1 ⟨vs, G, J, rv, q⟩ => ⟨J.kIn, wpAny_call ?_⟩) he hpl
  have q' : sp vs G Q E0 := by
    have z : sp (vs ++ []) G Q E0 := q
    rw [List.append_nil] at z
    exact z
  have hl : us.length = ps.length := rv.length.symm.trans (F.len _ _ _ _ q')
  have bt := hb s1 us J.kIn (by rw [List.append_nil]; exact hl)
  rw [List.append_nil] at bt
  exact codeAny_mono (runG F hgd hr bt pass0 J rv q') fun r s' z => by
    rcases r with e | (u | _ | _ | _) <;> exact z
end

/-! ### the law's own call -/
section
variable {P : Program} {w : World} {K : PySem.W.Frag} {mg mb : Str → Option Value} {k : Nat} {fa a : Addr} {fd : FuncData} {x : Str} {sp : Sp} {s : Shared} {vs : List Value} {ns : List Int}
theorem lawG (inK : K.In s.heap) (hns : s.heap.Ns mainGlobals mg) (hb : s.heap.Ns builtinsNs mb) (hbb : ∀ y : Str, y ≠ "__name__" → mb y = bootBuiltins y) (lim : s.heap.NoLimit) (hg : s.gens = #[]) (ha : s.heap.get? a = some { cls := .type "list", data := .seq vs.toArray })
    (hi : IntsAre vs ns) (hl : ns.length ≤ sizeLine) (hr : Room k callerA) (F : ∀ base : Heap, K.In base → base.Ns mainGlobals mg → FnG P w K mg base CX0 k fa fd [x] sp) (hbind : ∀ (s : Shared) (u : Value), BindsTo s fd ⟨[u], []⟩ [(x, u)])
    (hsp : ∀ H : Hp, Only H → SqL K H a (ns.map V.int) → sp [.ref a] H (fun v _ => v = .bl true) E0) :
    codeAny (model P w) callerA (.call (.ref fa) ⟨[.ref a], []⟩) (fun r s' => r = .ok (.ret (.bool true)) ∧ OldK s.heap s'.heap ∧ s'.os = s.os ∧ AllBare s'.gens) s := by
  have core : ∀ H : Hp, Only H → SqL K H a (ns.map V.int) → HOk P w H s.heap → (∀ b u, H b = some u → b = a) → (∀ u, H a = some u → K.lookup a = none) →
      codeAny (model P w) callerA (.call (.ref fa) ⟨[.ref a], []⟩) (fun r s' => r = .ok (.ret (.bool true)) ∧ OldK s.heap s'.heap ∧ s'.os = s.os ∧ AllBare s'.gens) s := by
    intro H only hS ok oneA offK
    have dictFree : ∀ {b : Addr} {o : Obj} {es : Array DictEntry} {ep : Nat}, s.heap.get? b = some o → o.data = .dict es ep → H b = none := by
      intro b o es ep e d
      cases q : H b with
      | none => rfl
      | some u =>
        rw [oneA b u q, ha] at e
        cases e
        cases d
    have ns' : ∀ {b : Addr} {m : Str → Option Value}, s.heap.Ns b m → (hidT s.heap H).Ns b m := by
      rintro b m ⟨o, es, ep, e, d, rest⟩
      exact ⟨o, es, ep, hidT_get e (dictFree e d), d, rest⟩
    have inB : K.In (hidT s.heap H) := fun b o e => by
      refine hidT_get (inK b o e) ?_
      cases q : H b with
      | none => rfl
      | some u =>
        have hb := oneA b u q
        subst hb
        rw [offK u q] at e
        cases e
    have M : Mod K mg (hidT s.heap H) := ⟨inB, ns' hns, ⟨mb, ns' hb, hbb⟩, by
      obtain ⟨mc, h1, h2⟩ := lim
      exact ⟨mc, ns' h1, h2⟩⟩
    have e0 : Env0 P w K mg (hidT s.heap H) callerA [] s H := ⟨rfl, M, fun b o e => of_hidT e, Nat.le_of_eq (hidT_size _ _), trivial, (fun b z => absurd z List.not_mem_nil), ok, .of_eq hg⟩
    have call := (F _ inB (ns' hns)).run callerA [] s H ⟨[.ref a], []⟩ [.ref a] [.ref a] (fun v _ => v = .bl true) E0 rfl hr e0 (hbind s (.ref a)) (.cons rfl .nil) (hsp H only hS)
    refine codeAny_mono call fun r s' z => ?_
    cases r with
    | error e => exact False.elim z
    | ok fl =>
      cases fl with
      | next => exact False.elim z
      | brk => exact False.elim z
      | cont => exact False.elim z
      | ret u =>
        obtain ⟨v, G, os, bare, un, ok', rv, q⟩ := z
        have q1 : v = .bl true := q
        subst q1
        obtain rfl : u = Value.bool true := rv
        refine ⟨rfl, OldK.of_keep fun b o e => ?_, os, bare⟩
        cases n0 : H b with
        | none => exact un.keep b o e n0 (fun z => absurd z List.not_mem_nil) List.not_mem_nil
        | some u0 =>
          rcases only b with n | ⟨ob, xs, n⟩
          · rw [n0] at n
            cases n
          · obtain ⟨e1, _⟩ := ok b _ n
            obtain ⟨e2, _⟩ := ok' b _ (un.frzs b ob _ n)
            rw [e] at e1
            rw [e2]
            exact e1.symm
  have rv := vals_ints hi
  cases hk : K.lookup a with
  | some o =>
    have e := inK a o hk
    rw [ha] at e
    cases e
    exact core (fun _ => none) (fun _ => .inl rfl) (.inr ⟨_, vs.toArray, _, hk, rfl, rfl, rfl, by rw [List.size_toArray, hi.length]; exact hl, by simpa using rv⟩) (fun b u z => nomatch z) (fun b u z => nomatch z) fun u z => nomatch z
  | none =>
    have key : ∀ b u, (if b = a then some (HO.frz { cls := .type "list", data := .seq vs.toArray } (.lst (ns.map V.int))) else none) = some u → b = a ∧ u = .frz { cls := .type "list", data := .seq vs.toArray } (.lst (ns.map V.int)) := by
      intro b u z
      split at z
      · cases z
        exact ⟨by assumption, rfl⟩
      · cases z
    refine core (fun b => if b = a then some (.frz { cls := .type "list", data := .seq vs.toArray } (.lst (ns.map V.int))) else none) (fun b => ?_) (.inl (.inr ⟨_, if_pos rfl⟩)) (fun b u z => ?_) (fun b u z => (key b u z).1) fun _ _ => hk
    · cases q : (if b = a then some (HO.frz { cls := .type "list", data := .seq vs.toArray } (.lst (ns.map V.int))) else none : Option HO) with
      | none => exact .inl q
      | some u => exact .inr ⟨_, _, q.trans (congrArg some (key b u q).2)⟩
    · obtain ⟨rfl, rfl⟩ := key b u z
      exact ⟨ha, by rw [List.length_map]; exact hl, vs, _, rv, ha⟩
end
/-- what k_head leaves, from such a promise of the law's def -/
theorem walkG {l : PySem.W.OpenLaw} {n k : Nat} {q : Program} {loose : List Str} {XP : (Str → Option Value) → Heap → Prop} {YP : World → Heap → Prop} {d : DefRec} {K : Params → PySem.W.Frag} {sp : PySem.W.Frag → Sp} {x : Str} (hn : l.most = some n) (hn2 : n ≤ sizeLine) (hdf : d.params.defaults = [])
    (hr : Room k callerA) (hY : ∀ (w : World) (h : Heap), YP w h → (K w.params).In h)
    (F : ∀ (w : World) (mg : Str → Option Value) (fa : Addr) (h : Heap), (K w.params).In h → h.Ns mainGlobals mg → mg d.name = some (.ref fa) →
      ∃ fd : FuncData, (∀ (s : Shared) (u : Value), BindsTo s fd ⟨[u], []⟩ [(x, u)]) ∧ ∀ base : Heap, (K w.params).In base → base.Ns mainGlobals mg → FnG l.prog w (K w.params) mg base CX0 k fa fd [x] (sp (K w.params)))
    (hsp : ∀ (K : PySem.W.Frag) (H : Hp) (a : Addr) (ns : List Int), ns.length ≤ n → Only H → SqL K H a (ns.map V.int) → sp K [.ref a] H (fun v _ => v = .bl true) E0) :
    PySem.W.WalkO q loose XP YP l.row.toRowW d [] (fun f vs => PySem.call f vs) := by
  refine Att.attach_call hn hdf fun w s₀ s₁ mg mb fa o pm cd doc a vs ns G Y ho hd hcd hmg hobj hints hlen hg => ?_
  obtain ⟨fd, hb, hF⟩ := F w mg fa _ (hY w _ Y) G.T.g hmg
  exact lawG (hY w _ Y) G.T.g G.T.b G.T.builtins G.T.nolimit hg hobj hints (Nat.le_trans hlen hn2) hr hF hb fun H only hS => hsp _ H a ns hlen only hS
end KL

/-! Own layer, part W: the law's own call where defs have tables of code objects and nothing is being shown. -/
namespace KL
open PySem PySem.Spec PyProof.Rows L2
section
variable {P : Program} {w : World} {K : PySem.W.Frag} {mg mb : Str → Option Value} {k : Nat} {fa a : Addr} {cs : List (Addr × Addr)} {fd : FuncData} {x : Str} {sp : Sp} {s : Shared} {vs : List Value} {ns : List Int}
/-- where the tables are, and the script if it is no part of what is written out -/
theorem firstH (K : PySem.W.Frag) (a : Addr) (ps : List Addr) (oA : Obj) (uA : HO) (ha : a ∉ ps) : ∃ H : Hp, (∀ b ∈ ps, H b = some (.tbl #[])) ∧ (K.lookup a = none → H a = some (.frz oA uA)) ∧
    ∀ b u, H b = some u → (b ∈ ps ∧ u = .tbl #[]) ∨ (b = a ∧ K.lookup a = none ∧ u = .frz oA uA) := by
  classical
  refine ⟨fun b => if b ∈ ps then some (.tbl #[]) else if b = a ∧ K.lookup a = none then some (.frz oA uA) else none, fun b hb => if_pos hb, fun h => ?_, fun b u h => ?_⟩
  · show (if a ∈ ps then _ else _) = _
    rw [if_neg ha, if_pos ⟨rfl, h⟩]
  · by_cases h1 : b ∈ ps
    · have h : (if b ∈ ps then some (HO.tbl #[]) else if b = a ∧ K.lookup a = none then some (.frz oA uA) else none) = some u := h
      rw [if_pos h1] at h
      exact .inl ⟨h1, (Option.some.inj h).symm⟩
    · have h : (if b ∈ ps then some (HO.tbl #[]) else if b = a ∧ K.lookup a = none then some (.frz oA uA) else none) = some u := h
      rw [if_neg h1] at h
      by_cases h2 : b = a ∧ K.lookup a = none
      · rw [if_pos h2] at h
        exact .inr ⟨h2.1, h2.2, (Option.some.inj h).symm⟩
      · rw [if_neg h2] at h
        cases h
theorem lawGT (inK : K.In s.heap) (hns : s.heap.Ns mainGlobals mg) (hb : s.heap.Ns builtinsNs mb) (hbb : ∀ y : Str, y ≠ "__name__" → mb y = bootBuiltins y) (lim : s.heap.NoLimit) (hg : s.gens = #[])
    (hT : ∀ p ∈ cs, s.heap.get? p.2 = some { cls := .none, data := .fields #[] }) (nT : ∀ p ∈ cs, K.lookup p.2 = none) (hC : ∀ p ∈ cs, PySem.W.CodeHd s.heap p.1 p.2)
    (hM : ∃ (bm : Addr) (ob : Obj), mg "__builtins__" = some (.ref bm) ∧ bm ≠ builtinsNs ∧ s.heap.get? bm = some ob ∧ ob.cls = .type "module" ∧ ob.dict = some builtinsNs ∧ ob.data = .plain)
    (ha : s.heap.get? a = some { cls := .type "list", data := .seq vs.toArray }) (hi : IntsAre vs ns) (hl : ns.length ≤ sizeLine) (hr : Room k callerA)
    (F : ∀ base : Heap, K.In base → base.Ns mainGlobals mg → (∀ p ∈ cs, GxR.TabB base mg p.1 p.2) → FnG P w K mg base CX0 k fa fd [x] sp) (hbind : ∀ (s : Shared) (u : Value), BindsTo s fd ⟨[u], []⟩ [(x, u)])
    (hsp : ∀ H : Hp, (∀ p ∈ cs, H p.2 = some (.tbl #[])) → SqL K H a (ns.map V.int) → sp [.ref a] H (fun v _ => v = .bl true) E0) :
    codeAny (model P w) callerA (.call (.ref fa) ⟨[.ref a], []⟩) (fun r s' => r = .ok (.ret (.bool true)) ∧ OldK s.heap s'.heap ∧ s'.os = s.os ∧ AllBare s'.gens) s := by
  have rv := vals_ints hi
  have tabs : ∀ b ∈ cs.map (·.2), s.heap.get? b = some { cls := .none, data := .fields #[] } := fun b m => by
    obtain ⟨p, hp, rfl⟩ := List.mem_map.mp m
    exact hT p hp
  have aNo : a ∉ cs.map (·.2) := fun m => by
    have z := tabs a m
    rw [ha] at z
    injection z with z
    injection z with _ _ z _
    cases z
  obtain ⟨H, h1, h2, h3⟩ := firstH K a (cs.map (·.2)) { cls := .type "list", data := .seq vs.toArray } (.lst (ns.map V.int)) aNo
  have inT : ∀ p ∈ cs, p.2 ∈ cs.map (·.2) := fun p hp => List.mem_map.mpr ⟨p, hp, rfl⟩
  have script : SqL K H a (ns.map V.int) := by
    cases hk : K.lookup a with
    | some o =>
      have e := inK a o hk
      rw [ha] at e
      cases e
      exact .inr ⟨_, vs.toArray, _, hk, rfl, rfl, rfl, by rw [List.size_toArray, hi.length]; exact hl, by simpa using rv⟩
    | none => exact .inl (.inr ⟨_, h2 hk⟩)
  have hok : HOk P w H s.heap := fun b u e => by
    rcases h3 b u e with ⟨m, rfl⟩ | ⟨rfl, _, rfl⟩
    · exact tabs b m
    · exact ⟨ha, by rw [List.length_map]; exact hl, vs, _, rv, ha⟩
  -- what is neither a table nor the script is not tracked
  have clear : ∀ {b : Addr} {o : Obj}, s.heap.get? b = some o → (∀ v n, o.data ≠ .seq v n) → o.data ≠ .fields #[] → H b = none := fun {b o} e d1 d2 => by
    cases q : H b with
    | none => rfl
    | some u =>
      rcases h3 b u q with ⟨m, _⟩ | ⟨rfl, _, _⟩
      · rw [tabs b m] at e
        cases e
        exact absurd rfl d2
      · rw [ha] at e
        cases e
        exact absurd rfl (d1 _ _)
  have see : ∀ {b : Addr} {o : Obj}, s.heap.get? b = some o → (∀ v n, o.data ≠ .seq v n) → o.data ≠ .fields #[] → (hidT s.heap H).get? b = some o := fun e d1 d2 => hidT_get e (clear e d1 d2)
  have seeNs : ∀ {b : Addr} {m : Str → Option Value}, s.heap.Ns b m → (hidT s.heap H).Ns b m := fun {b m} ⟨o, es, ep, e, d, rest⟩ => ⟨o, es, ep, see e (fun v n z => by rw [d] at z; cases z) (fun z => by rw [d] at z; cases z), d, rest⟩
  have inB : K.In (hidT s.heap H) := fun b o e => hidT_get (inK b o e) (by
    cases q : H b with
    | none => rfl
    | some u =>
      rcases h3 b u q with ⟨m, _⟩ | ⟨rfl, z, _⟩
      · obtain ⟨p, hp, rfl⟩ := List.mem_map.mp m
        rw [nT p hp] at e
        cases e
      · rw [z] at e
        cases e)
  have M : Mod K mg (hidT s.heap H) := ⟨inB, seeNs hns, ⟨mb, seeNs hb, hbb⟩, let ⟨mc, z1, z2⟩ := lim; ⟨mc, seeNs z1, z2⟩⟩
  have glob : ∀ {b : Addr} {o : Obj}, s.heap.get? b = some o → (∀ es n, o.data ≠ .dict es n) → mainGlobals ≠ b := fun {b o} e d z => by
    obtain ⟨o', es, ep, e', d', _⟩ := hns
    rw [z, e] at e'
    cases e'
    exact d _ _ d'
  have TB : ∀ p ∈ cs, GxR.TabB (hidT s.heap H) mg p.1 p.2 := fun p hp => by
    have t0 := hT p hp
    obtain ⟨bm, ob, m1, m2, m3, m4, m5, m6⟩ := hM
    refine ⟨?_, ⟨bm, ob, m1, m2, (glob m3 fun es n z => by rw [m6] at z; cases z).symm, fun z => ?_, see m3 (fun v n z => by rw [m6] at z; cases z) (fun z => by rw [m6] at z; cases z), m4, m5, m6⟩, glob t0 fun es n z => by cases z⟩
    · obtain ⟨o, us, c1, c2, c3, c4, c5, c6, c7, e1, e2, e3, e4, rest⟩ := hC p hp
      exact ⟨o, us, c1, c2, c3, c4, c5, c6, c7, see e1 (fun v n z => by rw [e3] at z; cases z) (fun z => by rw [e3] at z; injection z with z; rw [z] at e4; simp at e4), e2, e3, e4, rest⟩
    · rw [z, t0] at m3
      cases m3
      cases m6
  have e0 : Env0 P w K mg (hidT s.heap H) callerA [] s H := ⟨rfl, M, fun b o e => of_hidT e, Nat.le_of_eq (hidT_size _ _), trivial, (fun b z => absurd z List.not_mem_nil), hok, .of_eq hg⟩
  have call := (F _ inB (seeNs hns) TB).run callerA [] s H ⟨[.ref a], []⟩ [.ref a] [.ref a] (fun v _ => v = .bl true) E0 rfl hr e0 (hbind s (.ref a)) (.cons rfl .nil) (hsp H (fun p hp => h1 p.2 (inT p hp)) script)
  refine codeAny_mono call fun r s' z => ?_
  cases r with
  | error e => exact False.elim z
  | ok fl =>
  cases fl with
  | next => exact False.elim z
  | brk => exact False.elim z
  | cont => exact False.elim z
  | ret u =>
  obtain ⟨v, G, os, bare, un, ok', rv', q⟩ := z
  obtain rfl : v = .bl true := q
  obtain rfl : u = Value.bool true := rv'
  have grown : ∀ b ∈ cs.map (·.2), ∃ more : Array Value, s'.heap.get? b = some { cls := .none, data := .fields more } := fun b m => by
    obtain ⟨more, z⟩ := un.tbls b #[] (h1 b m)
    exact ⟨_, ok' b _ z⟩
  have kept : ∀ b o, b ∉ cs.map (·.2) → s.heap.get? b = some o → s'.heap.get? b = some o := fun b o nm e => by
    cases q : H b with
    | none => exact un.keep b o e q (fun z => absurd z List.not_mem_nil) List.not_mem_nil
    | some u =>
      rcases h3 b u q with ⟨m, _⟩ | ⟨rfl, _, rfl⟩
      · exact absurd m nm
      · obtain ⟨e2, _⟩ := ok' b _ (un.frzs b _ _ q)
        rw [ha] at e
        rw [e2]
        exact e
  refine ⟨rfl, ⟨fun b o e => ?_, fun b o e => ?_⟩, os, bare⟩
  · by_cases m : b ∈ cs.map (·.2)
    · obtain ⟨more, z⟩ := grown b m
      obtain ⟨p, hp, rfl⟩ := List.mem_map.mp m
      have t0 := hT p hp
      rw [t0] at e
      cases e
      exact .inr (.inl ⟨((hC p hp).tab t0).isCodeTable, rfl, #[], more, rfl, by rw [Array.empty_append]; exact z⟩)
    · exact .inl (kept b o m e)
  · by_cases m : b ∈ cs.map (·.2)
    · obtain ⟨more, z⟩ := grown b m
      exact ⟨_, z⟩
    · exact ⟨o, kept b o m e⟩
end
/-- the table of the def with that name is empty -/
def TabOf (K : PySem.W.Frag) (mg : Str → Option Value) (y : Str) (h : Heap) : Prop := ∀ (f c P : Addr) (o : Obj) (fd : FuncData) (e : Value) (dd : Option Addr) (vs : Array Value) (sl : Array (Option Value)), mg y = some (.ref f) → K.lookup f = some o → o.data = .func fd → fd.code = .ref c →
  K.lookup c = some ⟨e, dd, .fields vs, sl⟩ → vs[11]? = some (.ref P) → h.get? P = some { cls := .none, data := .fields #[] }
/-- what k_head leaves, from the law's def, where defs have tables -/
theorem walkGT {l : PySem.W.OpenLaw} {n k : Nat} {q : Program} {loose : List Str} {XP : (Str → Option Value) → Heap → Prop} {YP : World → Heap → Prop} {d : DefRec} {K : Params → PySem.W.Frag} {x : Str} (hn : l.most = some n) (hn2 : n ≤ sizeLine) (hdf : d.params.defaults = [])
    (hr : Room k callerA) (hY : ∀ (w : World) (h : Heap), YP w h → (K w.params).In h)
    (F : ∀ (w : World) (mg : Str → Option Value) (fa : Addr) (h : Heap), (K w.params).In h → h.Ns mainGlobals mg → mg d.name = some (.ref fa) → (∀ y : Str, ((recsOf q).any fun e => e.name == y) = true → TabOf (K w.params) mg y h) →
      ∃ (fd : FuncData) (cs : List (Addr × Addr)) (sp : Sp), (∀ p ∈ cs, h.get? p.2 = some { cls := .none, data := .fields #[] }) ∧ (∀ p ∈ cs, (K w.params).lookup p.2 = none) ∧ (∀ p ∈ cs, PySem.W.CodeHd h p.1 p.2) ∧ (∀ (s : Shared) (u : Value), BindsTo s fd ⟨[u], []⟩ [(x, u)]) ∧
        (∀ (H : Hp) (a : Addr) (ns : List Int), ns.length ≤ n → (∀ p ∈ cs, H p.2 = some (.tbl #[])) → SqL (K w.params) H a (ns.map V.int) → sp [.ref a] H (fun v _ => v = .bl true) E0) ∧
        ∀ base : Heap, (K w.params).In base → base.Ns mainGlobals mg → (∀ p ∈ cs, GxR.TabB base mg p.1 p.2) → FnG l.prog w (K w.params) mg base CX0 k fa fd [x] sp) :
    PySem.W.WalkO q loose XP YP l.row.toRowW d [] (fun f vs => PySem.call f vs) := by
  refine Att.attach_call hn hdf fun w s₀ s₁ mg mb fa o pm cd doc a vs ns G Y ho hd hcd hmg hobj hints hlen hg => ?_
  have inK := hY w _ Y
  have tab : ∀ y : Str, ((recsOf q).any fun e => e.name == y) = true → TabOf (K w.params) mg y s₁.heap := fun y hy f c P o1 fd1 e dd us sl k1 k2 k3 k4 k5 k6 => by
    obtain ⟨dr, hm, hn'⟩ := List.any_eq_true.mp hy
    obtain ⟨f', o', fd', c', P', j1, j2, j3, j4, _, ⟨⟨oc, vc, i1, _, i3, i4⟩, hP⟩⟩ := G.T.tab dr hm
    rw [beq_iff_eq.mp hn', k1] at j1
    obtain rfl := Value.ref.inj (Option.some.inj j1)
    rw [inK _ _ k2] at j2
    obtain rfl := Option.some.inj j2
    rw [k3] at j3
    obtain rfl := Data.func.inj j3
    rw [k4] at j4
    obtain rfl := Value.ref.inj j4
    rw [inK _ _ k5] at i1
    obtain rfl := Option.some.inj i1
    obtain rfl := Data.fields.inj i3
    rw [k6] at i4
    obtain rfl := Value.ref.inj (Option.some.inj i4)
    exact hP
  obtain ⟨fd, cs, sp, t1, t2, t3, hb, hsp, hF⟩ := F w mg fa _ inK G.T.g hmg tab
  exact lawGT inK G.T.g G.T.b G.T.builtins G.T.nolimit hg t1 t2 t3 G.T.bmain hobj hints (Nat.le_trans hlen hn2) hr hF hb fun H hH hS => hsp H a ns hlen hH hS
end KL

/-! Own layer, part X: a generator expression of any elements (calls too), walked by all. -/
namespace KG
open PySem PySem.Spec PyProof.Rows L2

theorem over_gen {A : Around} {elt : Expr} {gens : List Comprehension} {scope : Scope} {pos : Pos} {it acc : Value} {env : Env} : A.over (.compLoop (.GeneratorExp elt gens scope pos) 0 it acc env) [] = A.deeper env := by
  first
    | rfl
    | (obtain ⟨hd, d, fr, gs, u⟩ := A; simp [Around.over, Around.deeper, marksOver, frameCount, unitsOf, envsOf, guardsOf, pushEnvs, pushGuards, Code.envs, Code.env?, Code.isFrame, Code.guards, Code.isGuard, Code.weight, Code.frames, Code.isCreation, Code.isCaller, Code.cUnits])
theorem over_genS {A : Around} {elt : Expr} {gens : List Comprehension} {scope : Scope} {pos : Pos} {it acc : Value} {env : Env} : A.over (.compStart (.GeneratorExp elt gens scope pos) 0 it acc env) [] = A.deeper env := by
  first
    | rfl
    | (obtain ⟨hd, d, fr, gs, u⟩ := A; simp [Around.over, Around.deeper, marksOver, frameCount, unitsOf, envsOf, guardsOf, pushEnvs, pushGuards, Code.envs, Code.env?, Code.isFrame, Code.guards, Code.isGuard, Code.weight, Code.frames, Code.isCreation, Code.isCaller, Code.cUnits])
theorem inv_same {X : Cx} {pins : List (Addr × Obj)} {σ : L2.St} {H : Hp} {s s' : Shared} (I : Inv X pins σ H s) (hh : s'.heap = s.heap) (ho : s'.os = s.os) (hb : AllBare s'.gens) : Inv X pins σ H s' := by
  obtain ⟨h, g, d, t, o⟩ := s
  obtain ⟨h', g', d', t', o'⟩ := s'
  cases hh
  cases ho
  exact ⟨I.ok, I.os, hb, I.base, I.loc, I.cell, I.free, I.freeC, I.pin, I.hok, I.len⟩

/-- the context of a generator expression's frame: made in the state s; the walked thing's iterator at fp -/
abbrev gx (X : Cx) (A : Around) (s : Shared) (H : Hp) (genv : Env) (fp : List Addr) : Cx :=
  { X with A := A.deeper genv, s_0 := s, H_0 := H, env := genv, outer := X.stack, stack := genv :: X.stack, ex := fp, fn := fun _ => false, calm := true, pn := [], xe := fun _ _ => False }
section
variable {X : Cx} {pins : List (Addr × Obj)} {σ : L2.St} {H : Hp} {s : Shared}
theorem gx_start {A : Around} {scope : Scope} {own : List (Str × Nat)} {fp : List Addr} {code : Value} (I : Inv X pins σ H s) (ok : BlkOk X.N X.env.scope scope own) (nocell : ∀ y ∈ scope.names, y.2 ≠ .cell) (hN : X.N.Nodup) (hA : A.handled = none) (hfr : A.frames = some X.stack)
    (hfp : ∀ b ∈ fp, FpOk X pins H b ∧ b < s.heap.objs.size) {h5 : Heap} {m : Str → Option Value} {gs : Array GenState} {tk : Nat} {pG : List (Addr × Obj)} (hn : h5.Ns s.heap.objs.size m) (kp : ∀ b o, s.heap.get? b = some o → h5.get? b = some o) (hg : AllBare gs)
    (hp : ∀ p ∈ pG, h5.get? p.1 = some p.2 ∧ s.heap.objs.size < p.1 ∧ ∀ v, p.2.data ≠ .cell v) :
    Inv (gx X A s H (genEnv scope (cloFrom X.env.cells scope.names []) s.heap.objs.size code builtinsNs X.env) fp) pG (wipe σ (own.map (·.2))) H { s with gens := gs, toks := tk, heap := h5 } := by
  have hfree : ∀ y ∈ scope.names, y.2 = .free → ∃ c, X.env.cells.lookup y.1 = some c := fun y hy e => by
    rcases ok.free y hy e with k | k
    · exact I.ok.has _ (.inl k)
    · exact I.ok.has _ (.inr k)
  generalize hcenv : genEnv scope (cloFrom X.env.cells scope.names []) s.heap.objs.size code builtinsNs X.env = cenv
  have hL : cenv.locals = s.heap.objs.size := by rw [← hcenv]; rfl
  have hcl : cenv.cells = cloFrom X.env.cells scope.names [] := by rw [← hcenv]; rfl
  have hsc : cenv.scope = scope := by rw [← hcenv]; rfl
  have cm : ∀ {y c}, (y, c) ∈ cloFrom X.env.cells scope.names [] → X.env.cells.lookup y = some c ∧ c < s.heap.objs.size := fun {y c} hm => by
    rcases cloFrom_mem hm with hm | ⟨h1, rfl⟩
    · cases hm
    · obtain ⟨c, hc⟩ := hfree _ h1 rfl
      rw [hc]
      obtain ⟨w, z⟩ := I.cell _ _ hc
      exact ⟨rfl, z.lt⟩
  have mem : ∀ {y c}, cenv.cells.lookup y = some c → X.env.cells.lookup y = some c ∧ c < s.heap.objs.size := fun {y c} e => by
    rw [hcl] at e
    exact cm (PySem.mem_of_lookup e)
  have look : ∀ {y}, scope.names.lookup y = some .free → ∃ c, cenv.cells.lookup y = some c ∧ X.env.cells.lookup y = some c := fun {y} hl => by
    have hy : (y, NameKind.free) ∈ scope.names := PySem.mem_of_lookup hl
    obtain ⟨c', e'⟩ := mem_lookup (cloFrom_has (cells := X.env.cells) (acc := []) hy)
    rw [← hcl] at e'
    exact ⟨c', e', (mem e').1⟩
  have okB : (gx X A s H cenv fp).Ok := by
    refine ⟨I.ok.mod, by show cenv.scope.kind = _; rw [hsc]; exact ok.kind, by show cenv.globals = _; rw [← hcenv]; exact I.ok.glob, by show cenv.builtins = _; rw [← hcenv]; rfl, by show s.heap.objs.size ≤ cenv.locals; rw [hL]; exact Nat.le_refl _,
      fun y z c e1 e2 => I.ok.inj y z c (mem e1).1 (mem e2).1, fun y hy => ?_, (fun y c z e => Bool.noConfusion z), fun _ => hA, by show (A.deeper cenv).frames = _; show A.frames.map _ = _; rw [hfr]; rfl, .inr ⟨rfl, by show cenv.frame = some cenv.locals; rw [← hcenv]; rfl⟩,
      fun b hb => ⟨?_, fun y c e z => ?_⟩, I.bs, Nat.le_trans I.ok.bsz I.sz, fun b o e hb => ?_, fun b hb z => ?_, I.stack, I.stkFree⟩
    · show ∃ c, cenv.cells.lookup y = some c
      have key : ∀ k, cenv.kindOf y = some k → (k = .cell ∨ k = .free) → ∃ c, cenv.cells.lookup y = some c := fun k hk hk' => by
        have hk : cenv.scope.names.lookup y = some k := hk
        rw [hsc] at hk
        rcases hk' with rfl | rfl
        · exact absurd rfl (nocell _ (PySem.mem_of_lookup hk))
        · obtain ⟨c, h1, _⟩ := look hk
          exact ⟨c, h1⟩
      rcases hy with hy | hy
      · exact key _ hy (.inl rfl)
      · exact key _ hy (.inr rfl)
    · show b ≠ cenv.locals
      rw [hL]; exact Nat.ne_of_lt (hfp b hb).2
    · exact (hfp b hb).1.2.2.2.2.1 y c (mem e).1 z
    · rcases (hfp b hb).1.2.2.2.1 with z | z
      · exact I.ok.noex b o e z
      · exact absurd (Nat.lt_of_lt_of_le (Heap.lt_size e) (Nat.le_trans I.ok.bsz z)) (Nat.lt_irrefl _)
    · rcases List.mem_cons.mp (I.stkSub b z) with z | z
      · exact (hfp b hb).1.2.1 z
      · exact (hfp b hb).1.2.2.1 z
  refine ⟨okB, rfl, hg, Un.kept kp, ⟨m, ?_, fun i y av e1 e2 e3 => ?_⟩, fun y c e => ?_, ?_, fun y c e => I.freeC y c (mem e).1, fun p hpp => ?_, I.hok.kept kp, by rw [wipe_length]; exact I.len⟩
  · show Heap.Ns _ cenv.locals _
    rw [hL]
    exact hn
  · obtain ⟨e2, hne⟩ := wipe_some e2
    have key : ∀ k, cenv.scope.names.lookup y = some k → k = .local ∨ k = .cell ∨ k = .free → scope.names.lookup y = some .free ∧ (cenv.kindOf y = some .cell ∨ cenv.kindOf y = some .free) := fun k hk hk' => by
      have hk0 := hk
      rw [hsc] at hk
      have no : ¬ (k = .local ∨ k = .cell) := fun hh => by
        rcases ok.own _ (PySem.mem_of_lookup hk) hh with e' | e'
        · obtain ⟨p, hp, hpy⟩ := List.mem_map.mp e'
          have e3 := ok.ix p hp
          have : p.1 = y := hpy
          rw [this] at e3
          exact hne (List.mem_map.mpr ⟨p, hp, nodup_ix hN e3 e1⟩)
        · exact e' (List.mem_of_getElem? e1)
      rcases hk' with rfl | rfl | rfl
      · exact absurd (.inl rfl) no
      · exact absurd (.inr rfl) no
      · exact ⟨hk, .inr hk0⟩
    have hfr2 : scope.names.lookup y = some .free ∧ (cenv.kindOf y = some .cell ∨ cenv.kindOf y = some .free) := by
      have e3 : Vis cenv.scope y := e3
      rcases e3 with e3 | e3 | e3
      · exact key _ e3 (.inl rfl)
      · exact key _ e3 (.inr (.inl rfl))
      · exact key _ e3 (.inr (.inr rfl))
    obtain ⟨m', hn', hl⟩ := I.loc
    have hvis : Vis X.env.scope y := (ok.free _ (PySem.mem_of_lookup hfr2.1) rfl).elim (fun k => .inr (.inl k)) (fun k => .inr (.inr k))
    obtain ⟨w, r, q⟩ := hl i y av e1 e2 hvis
    refine ⟨w, r, .inr ⟨hfr2.2, ?_⟩⟩
    obtain ⟨c, h1, h2⟩ := look hfr2.1
    rcases q with ⟨k, _⟩ | ⟨_, c', e', z⟩
    · have k : X.env.scope.names.lookup y = some .local := k
      rcases ok.free _ (PySem.mem_of_lookup hfr2.1) rfl with k' | k' <;> rw [show X.env.scope.names.lookup y = _ from k'] at k <;> cases k
    · rw [h2] at e'; cases e'
      exact ⟨c, h1, z.keeps kp⟩
  · obtain ⟨w, z⟩ := I.cell y c (mem e).1
    exact ⟨w, z.keeps kp⟩
  · show H cenv.locals = none
    rw [hL]; exact I.hok.fresh (Nat.le_refl _)
  · have hpp : p ∈ pG := by simpa using hpp
    obtain ⟨h1, h2, h3⟩ := hp p hpp
    refine ⟨h1, I.hok.fresh (Nat.le_of_lt h2), by show p.1 ≠ cenv.locals; rw [hL]; exact Nat.ne_of_gt h2, fun hb => ?_, h3⟩
    rcases List.mem_cons.mp (I.stkSub p.1 hb) with z | z
    · have := I.lt
      rw [← z] at this
      exact absurd (Nat.lt_trans this h2) (Nat.lt_irrefl _)
    · exact I.nofs (Nat.le_of_lt h2) z
end
end KG

namespace KG
open PySem PySem.Spec PyProof.Rows L2 GenW

/-- an item is handed out; Yp: what its consumer wants of it and of what comes next; D: what the consumer may write to -/
def gY (Y : Cx) (pG : List (Addr × Obj)) (D : Addr) (Yp : V → Hp → (Hp → Prop) → Prop) : Protocol := fun n s₀ v s kap =>
  ∃ (y : V) (σ : L2.St) (H : Hp) (Nx : Hp → Prop), RelV y v ∧ Inv Y pG σ H s ∧ Yp y H Nx ∧ ∀ (H' : Hp) (s' : Shared), Nx H' → (∀ b, b ≠ D → H' b = H b) → (∀ b o, b ≠ D → s.heap.get? b = some o → s'.heap.get? b = some o) → Inv Y pG σ H' s' → kap (.send .none) s'
/-- no more items -/
def gR (Y : Cx) (pG : List (Addr × Obj)) (QT : Hp → Prop) : GenEnd := fun n s₀ r s => r = .ok .next ∧ ∃ (σ : L2.St) (H : Hp), Inv Y pG σ H s ∧ QT H
/-- a turn's reading -/
def Turns (J : It) (g : TG) (tt : TT) (te : TE) (vs : List Nat) (σ : L2.St) (QT : Hp → Prop) (Yp : V → Hp → (Hp → Prop) → Prop) (W : Nat → Nat → Hp → Prop) : Prop := ∀ i m H, W i m H →
  (J.stop i H ∧ QT H) ∨ (J.go i H ∧ ∃ Nx : Hp → Prop, (∀ H', Nx H' → ∃ m', m' < m ∧ W (i + 1) m' H') ∧ ∀ x H', J.yld i H x H' → g x (wipe σ vs) H' fun σ2 H2 => wipe σ2 vs = wipe σ vs ∧ tt σ2 H2 fun b H3 =>
    if b = true then te σ2 H3 fun y H4 => Yp y H4 Nx else Nx H3)
section
variable {Y : Cx} {A : Around} {tg iter elt : Expr} {ifs : List Expr} {scope : Scope} {pos : Pos} {it : Addr} {fp : List Addr} {tn : Nat → Heap → Prop} {J : It} {g : TG} {tt : TT} {te : TE} {vs : List Nat} {σ : L2.St} {pG : List (Addr × Obj)} {D : Addr} {QT : Hp → Prop} {Yp : V → Hp → (Hp → Prop) → Prop} {W : Nat → Nat → Hp → Prop}
theorem seg_loop (hA : Y.A = A.deeper Y.env) (hc : Y.calm = true) (hco : Y.env.scope.isCoroutine = false) (hxe : ∀ e s, Y.xe e s → False) (T : Turn Y.prog Y.w Y.K tg J fp it tn) (pg : PG Y tg g) (pt : PTs Y ifs tt) (pe : PE Y elt te) (fok : ∀ (H : Hp), (∀ b ∈ fp, H b = none) → ∀ b ∈ fp, FpOk Y pG H b) (hD : ∀ b ∈ fp, b ≠ D)
    (turn : Turns J g tt te vs σ QT Yp W) : ∀ (m n i : Nat) (s₀ s : Shared) (H : Hp), m < n → W i m H → Inv Y pG (wipe σ vs) H s → tn i s.heap → (∀ b ∈ fp, H b = none) →
      Seg (model Y.prog Y.w) A (gR Y pG QT) (gY Y pG D Yp) n s₀ (.compLoop (.GeneratorExp elt [⟨tg, iter, ifs, 0⟩] scope pos) 0 (.ref it) .none Y.env)
        ((model Y.prog Y.w).den (.compLoop (.GeneratorExp elt [⟨tg, iter, ifs, 0⟩] scope pos) 0 (.ref it) .none Y.env)) [] s := by
  intro m
  induction m using Nat.strongRecOn with
  | ind m ih =>
    intro n i s₀ s H hn w I st nfp
    show Seg _ A _ _ n s₀ _ ((compTurn (.GeneratorExp elt [⟨tg, iter, ifs, 0⟩] scope pos) 0 (.ref it) .none Y.env).onRaise (leaving Y.env)) [] s
    rw [compTurn_gen, Sem.onRaise_eq_wrap]
    refine seg_bind_wrap (wpAny_standAt ?_)
    rcases turn i m H w with ⟨stop, qt⟩ | ⟨go, Nx, hNx, step⟩
    · refine seg_bind_wrap ?_
      rw [over_gen, ← hA]
      refine thnF (T.done Y rfl rfl rfl hc i pG s _ H (fun _ _ => False) I (fok H nfp) st stop) fun r s1 ⟨hr, I1⟩ => ?_
      subst hr
      exact seg_end (.ok .next) ⟨rfl, _, _, I1, qt⟩
    · refine seg_bind_wrap ?_
      rw [over_gen, ← hA]
      refine thnF (T.item Y rfl rfl rfl hc i pG s _ H (fun _ _ => False) I (fok H nfp) st go) fun r s1 ⟨u, hr, h1⟩ => ?_
      subst hr
      refine seg_bind_wrap ?_
      rw [over_gen, ← hA]
      refine thnF h1 fun _ s2 ⟨x, H2, I2, r2, y2, st2, n2⟩ => ?_
      have I2' := I2.pinned (fok H2 n2) (T.obj _ _ st2)
      refine seg_bind_wrap ?_
      rw [over_gen, ← hA]
      refine wpAny_mono (pg.run _ s2 _ H2 x u _ I2' r2 (step x H2 y2)) (fun _ s3 ⟨σ3, H3, I3, hw3, q3⟩ => ?_) fun _ _ z => (hxe _ _ z).elim
      refine seg_bind_wrap ?_
      rw [over_gen, ← hA]
      refine wpAny_mono (pt.run _ s3 σ3 H3 _ I3 q3) (fun b s4 ⟨H4, I4, q4⟩ => ?_) fun _ _ z => (hxe _ _ z).elim
      -- the turn's end
      have fin : ∀ {s' : Shared} {H' : Hp}, Inv Y (pG ++ pinsAt fp s2.heap) σ3 H' s' → Inv Y pG (wipe σ vs) H' s' ∧ tn (i + 1) s'.heap ∧ ∀ b ∈ fp, H' b = none := fun {s' H'} I' => by
        have pin' : ∀ b ∈ fp, ∀ o, s2.heap.get? b = some o → s'.heap.get? b = some o ∧ H' b = none := fun b hb o e =>
          let z := I'.pin (b, o) (List.mem_append_right _ (List.mem_append_right _ (mem_pinsAt hb e)))
          ⟨z.1, z.2.1⟩
        have hl : (wipe σ vs).length = σ3.length := by rw [← hw3, wipe_length]
        refine ⟨(I'.unpinned (pins := pG)).weak hl (fun j v e => ?_), T.keep _ _ _ st2 fun b hb o e => (pin' b hb o e).1, fun b hb => ?_⟩
        · rw [← hw3] at e
          exact (wipe_some e).1
        · obtain ⟨o, e, _⟩ := T.obj _ _ st2 b hb
          exact (pin' b hb o e).2
      cases b with
      | false =>
        simp only [Bool.false_eq_true, if_false] at q4 ⊢
        obtain ⟨m', hm, w'⟩ := hNx _ q4
        obtain ⟨I5, st5, n5⟩ := fin I4
        exact seg_again rfl (ih m' hm n (i + 1) s₀ s4 H4 (Nat.lt_trans hm hn) w' I5 st5 n5)
      | true =>
        simp only [if_true] at q4 ⊢
        have hy : ∀ v, yieldOut Y.env v = yieldValue v := fun v => by simp only [yieldOut, hco, Bool.false_eq_true, if_false]
        simp only [hy]
        rw [Sem.bind_eq_wrap', Sem.bind_eq_wrap', Sem.wrap_wrap, Sem.wrap_wrap]
        obtain ⟨n', rfl⟩ : ∃ n', n = n' + 1 := ⟨n - 1, by omega⟩
        refine seg_wrap ?_
        rw [over_gen, ← hA]
        refine wpAny_mono (pe.run _ s4 σ3 H4 _ I4 q4) (fun v s5 ⟨yv, H5, I5, r5, q5⟩ => ?_) fun _ _ z => (hxe _ _ z).elim
        obtain ⟨I6, st6, n6⟩ := fin I5
        refine seg_at (seg_yield rfl rfl rfl ⟨yv, _, H5, Nx, r5, I6, q5, fun H' s' nx hH kp I' => ?_⟩)
        obtain ⟨m', hm, w'⟩ := hNx _ nx
        exact seg_again rfl (ih m' hm n' (i + 1) s' s' H' (by omega) w' I' (T.keep _ _ _ st6 fun b hb o e => kp b o (hD b hb) e) fun b hb => (hH b (hD b hb)).trans (n6 b hb))
theorem seg_start (hA : Y.A = A.deeper Y.env) (hc : Y.calm = true) (hco : Y.env.scope.isCoroutine = false) (hxe : ∀ e s, Y.xe e s → False) (T : Turn Y.prog Y.w Y.K tg J fp it tn) (pg : PG Y tg g) (pt : PTs Y ifs tt) (pe : PE Y elt te) (fok : ∀ (H : Hp), (∀ b ∈ fp, H b = none) → ∀ b ∈ fp, FpOk Y pG H b) (hD : ∀ b ∈ fp, b ≠ D)
    (turn : Turns J g tt te vs σ QT Yp W) (m n : Nat) (s₀ s : Shared) (H : Hp) (hn : m < n) (w : W 0 m H) (I : Inv Y pG (wipe σ vs) H s) (st : tn 0 s.heap) (nfp : ∀ b ∈ fp, H b = none) :
      Seg (model Y.prog Y.w) A (gR Y pG QT) (gY Y pG D Yp) n s₀ (.compStart (.GeneratorExp elt [⟨tg, iter, ifs, 0⟩] scope pos) 0 (.ref it) .none Y.env)
        ((model Y.prog Y.w).den (.compStart (.GeneratorExp elt [⟨tg, iter, ifs, 0⟩] scope pos) 0 (.ref it) .none Y.env)) [] s := by
  have loop := seg_loop (iter := iter) (scope := scope) (pos := pos) hA hc hco hxe T pg pt pe fok hD turn m n 0 s₀ s H hn w I st nfp
  show Seg _ A _ _ _ s₀ _ ((compStart (.GeneratorExp elt [⟨tg, iter, ifs, 0⟩] scope pos) 0 (.ref it) .none Y.env).onRaise (leaving Y.env)) [] s
  unfold compStart
  rw [Sem.onRaise_eq_wrap]
  show Seg _ A _ _ _ s₀ _ ((ask >>= _).wrap _ _ _ _) [] s
  refine seg_bind_wrap (wpAny_askSetting ?_)
  split
  · exact seg_again rfl loop
  · first
      | exact seg_bind_wrap (wpAny_rule (seg_bind_wrap (wpAny_standAt (seg_bind_wrap (T.self _ 0 s _ _ st (seg_again rfl loop))))))
      | (refine seg_bind_wrap (wpAny_rule ?_); show Seg _ A _ _ _ s₀ _ ((standAt iter.pos >>= _).wrap _ _ _ _) [] s; exact seg_bind_wrap (wpAny_standAt (seg_bind_wrap (T.self _ 0 s _ _ st (seg_again rfl loop)))))
/-- all: a truth, and where it is false the end -/
def pAll (QF : Hp → Prop) : V → Hp → (Hp → Prop) → Prop := fun y H Nx => ∃ k, y = .bl k ∧ if k = true then Nx H else QF H
/-- the walk of all over such a generator -/
theorem all_loop {QF : Hp → Prop} {P : Program} {w : World} {a : Addr} {go : Obj} {gn : Nat} {R : Result → Shared → Prop} (hP : Y.prog = P) (hw : Y.w = w) (hh : A.handled = none) (hroom : A.depth < recursionLimit) (hgo : ∀ h : Heap, h.get? a = some go → h.IsGen a gn) (hpin : (a, go) ∈ pG)
    (hT : ∀ (σ : L2.St) (H : Hp) (s' : Shared), Inv Y pG σ H s' → QT H → R (.ok (.ret (.bool true))) s') (hF : ∀ (σ : L2.St) (H : Hp) (s' : Shared), Inv Y pG σ H s' → QF H → R (.ok (.ret (.bool false))) s') :
    ∀ (n : Nat) (σ : L2.St) (H : Hp) (s : Shared) (gs : GenState), Inv Y pG σ H s → s.gens[gn]? = some gs → (∀ s'' : Shared, s''.heap = s.heap → s''.os = s.os → AllBare s''.gens → gs.Goes (model P w) A.in1.in1 (gR Y pG QT) (gY Y pG a (pAll QF)) n (.send .none) s'') →
      codeAny (model P w) A (.builtin "all.loop" ⟨[.ref a], []⟩) R s := by
  subst hP
  subst hw
  have step : ∀ n : Nat, (∀ n', n = n' + 1 → ∀ (σ : L2.St) (H : Hp) (s : Shared) (gs : GenState), Inv Y pG σ H s → s.gens[gn]? = some gs → (∀ s'' : Shared, s''.heap = s.heap → s''.os = s.os → AllBare s''.gens → gs.Goes (model Y.prog Y.w) A.in1.in1 (gR Y pG QT) (gY Y pG a (pAll QF)) n' (.send .none) s'') →
      codeAny (model Y.prog Y.w) A (.builtin "all.loop" ⟨[.ref a], []⟩) R s) → ∀ (σ : L2.St) (H : Hp) (s : Shared) (gs : GenState), Inv Y pG σ H s → s.gens[gn]? = some gs → (∀ s'' : Shared, s''.heap = s.heap → s''.os = s.os → AllBare s''.gens → gs.Goes (model Y.prog Y.w) A.in1.in1 (gR Y pG QT) (gY Y pG a (pAll QF)) n (.send .none) s'') →
      codeAny (model Y.prog Y.w) A (.builtin "all.loop" ⟨[.ref a], []⟩) R s := by
    intro n ih σ H s gs I hgs hG
    refine codeAny_builtin F.entry_all_loop ?_
    rw [Around.under_plainId F.plain_all_loop _]
    show wpAny _ A.in1 (pyNext (.ref a) >>= _) _ _ s
    have hlt : gn < s.gens.size := by
      rcases Nat.lt_or_ge gn s.gens.size with h | h
      · exact h
      · rw [Array.getElem?_eq_none h] at hgs
        cases hgs
    have gen : ∀ {σ : L2.St} {H : Hp} {s : Shared}, Inv Y pG σ H s → s.heap.IsGen a gn := fun I => hgo _ (I.pin (a, go) (List.mem_append_right _ hpin)).1
    refine wpAny_bind (wpAny_gsz (n := gn + 1) hlt (wpAny_pyNext_genexpQ (P := fun n s0 s1 => ∃ (σ : L2.St) (H : Hp), Inv Y pG σ H s1 ∧ QT H) hh I.nolimit hroom (gen I) hgs (hG _ rfl rfl (allBare_setGen I.bare rfl)) (fun v s₁ gs' hb hv hsz => ?_) (fun s₁ hp h' hk hsz => ?_)))
    · obtain ⟨y, σ1, H1, Nx, ry, I1, ⟨k, rfl, hk⟩, kap⟩ := hv
      obtain rfl : v = Value.bool k := ry
      have I2 : Inv Y pG σ1 H1 (s₁.setGen gn gs') := inv_same I1 rfl rfl (allBare_setGen I1.bare hb)
      have hlt1 : gn < s₁.gens.size := by
        rw [setGen_size] at hsz
        exact hsz
      refine wpAny_bind (wpAny_holding (wpAny_truthy_bool ?_))
      refine wpAny_bind (wpAny_letGo ?_)
      cases k with
      | true =>
        simp only [if_true] at hk ⊢
        cases n with
        | zero => exact (kap H1 s₁ hk (fun _ _ => rfl) (fun _ _ _ e => e) I1).elim
        | succ n' =>
          refine wpAny_pure ⟨plainId_quiet F.plain_all_loop _, ih n' rfl σ1 H1 _ gs' I2 (setGen_at hlt1) fun s'' e1 e2 e3 => kap H1 s'' hk (fun _ _ => rfl) (fun b o _ e => by rw [e1]; exact e) (inv_same I1 e1 e2 e3)⟩
      | false =>
        simp only [Bool.false_eq_true, if_false] at hk ⊢
        exact wpAny_bind (wpAny_rule (wpAny_pure (hF σ1 H1 _ I2 hk)))
    · obtain ⟨σ1, H1, I1, qt⟩ := hp
      refine wpAny_bind (wpAny_rule (wpAny_pure ?_))
      have I2 : Inv Y pG σ1 H1 { s₁ with heap := h' } := I1.kept (t' := s₁.toks) hk
      exact hT σ1 H1 _ (inv_same I2 rfl rfl (allBare_setGen I1.bare rfl)) qt
  intro n
  induction n with
  | zero => exact step 0 fun n' e => absurd e (Nat.succ_ne_zero n').symm
  | succ n ih =>
    refine step (n + 1) fun n' e => ?_
    obtain rfl : n = n' := Nat.succ.inj e
    exact ih
end
end KG

namespace KG
open PySem PySem.Spec PyProof.Rows L2 GenW
/-- a generator that has not begun: it stands at a in s5; under each around that has room it goes as a consumer's reading says -/
def Rdy (X : Cx) (k : Nat) (pins : List (Addr × Obj)) (σ : L2.St) (vs : List Nat) (J : It) (g : TG) (tt : TT) (te : TE) (H4 : Hp) (a : Addr) (s5 : Shared) : Prop :=
  ∃ (go : Obj) (gn : Nat) (gs : GenState) (s₄ : Shared) (genv : Env) (fp : List Addr), (∀ h : Heap, h.get? a = some go → h.IsGen a gn) ∧ s5.heap.get? a = some go ∧ s5.gens[gn]? = some gs ∧ (∀ b ∈ fp, b < s5.heap.objs.size ∧ b ≠ a) ∧
    ∀ B : Around, B.handled = none → B.frames = some X.stack → Room (k + 1) B → Inv (gx X B s₄ H4 genv fp) [(a, go)] (wipe σ vs) H4 s5 ∧ (∀ (σ' : L2.St) (H' : Hp) (s' : Shared), Inv (gx X B s₄ H4 genv fp) [(a, go)] σ' H' s' → Inv X pins σ H' s') ∧
      ∀ (D : Addr) (QT : Hp → Prop) (Yp : V → Hp → (Hp → Prop) → Prop) (W : Nat → Nat → Hp → Prop), (∀ b ∈ fp, b ≠ D) → Turns J g tt te vs σ QT Yp W → ∀ (m0 : Nat) (H'' : Hp) (s'' : Shared), W 0 m0 H'' → Inv (gx X B s₄ H4 genv fp) [(a, go)] (wipe σ vs) H'' s'' →
        (∀ b ∈ fp, ∀ o, s5.heap.get? b = some o → s''.heap.get? b = some o) → (∀ b ∈ fp, H'' b = H4 b) → gs.Goes (model X.prog X.w) B (gR (gx X B s₄ H4 genv fp) [(a, go)] QT) (gY (gx X B s₄ H4 genv fp) [(a, go)] D Yp) (m0 + 1) (.send .none) s''
abbrev gE (X : Cx) (scope : Scope) (cl : List (Str × Addr)) (C : Addr) (code : Value) : Env := genEnv scope cl C code builtinsNs X.env
section
variable {X : Cx} {pins : List (Addr × Obj)} {σ : L2.St} {H : Hp} {s : Shared} {c P : Addr} {elt tg iter : Expr} {ifs : List Expr} {gpos : Pos} {scope : Scope} {own : List (Str × Nat)} {wi : TI} {g : TG} {tt : TT} {te : TE} {k : Nat}
theorem gen_ex {Q' : Value → Shared → Prop} {R : It → Hp → Prop} (hd : X.A.depth < recursionLimit) (TB : GxR.TabB X.base X.mg c P) (hcode : X.env.code = .ref c) (hN : X.N.Nodup) (hco : scope.isCoroutine = false) (nocell : ∀ y ∈ scope.names, y.2 ≠ .cell) (dot : scope.names.lookup (".0" : Str) = some NameKind.local)
    (ok : BlkOk X.N X.env.scope scope own) (hi : PI X tg iter wi) (hg : ∀ (A : Around) (s : Shared) (H : Hp) (cl : List (Str × Addr)) (C : Addr) (code : Value) (fp : List Addr), Room k (A.deeper (gE X scope cl C code)) → PG (gx X A s H (gE X scope cl C code) fp) tg g)
    (ht : ∀ (A : Around) (s : Shared) (H : Hp) (cl : List (Str × Addr)) (C : Addr) (code : Value) (fp : List Addr), Room k (A.deeper (gE X scope cl C code)) → PTs (gx X A s H (gE X scope cl C code) fp) ifs tt)
    (he : ∀ (A : Around) (s : Shared) (H : Hp) (cl : List (Str × Addr)) (C : Addr) (code : Value) (fp : List Addr), Room k (A.deeper (gE X scope cl C code)) → PE (gx X A s H (gE X scope cl C code) fp) elt te)
    (hs : ∀ v, genFold iter X.env v = pure v) (I : Inv X pins σ H s)
    (h : wi σ H fun J H1 => GxR.TabG H1 P ∧ ∀ H2, GxR.Tabbed P H1 H2 → R J H2)
    (hQ : ∀ J H4 a s5, R J H4 → Rdy X k pins σ (own.map (·.2)) J g tt te H4 a s5 → Q' (.ref a) s5) :
    wpAny (model X.prog X.w) X.A (eval (.GeneratorExp elt [⟨tg, iter, ifs, 0⟩] scope gpos) X.env) Q' X.xe s := by
  have hfree : ∀ y ∈ scope.names, y.2 = .free → ∃ c, X.env.cells.lookup y.1 = some c := fun y hy e => by
    rcases ok.free y hy e with k | k
    · exact I.ok.has _ (.inl k)
    · exact I.ok.has _ (.inr k)
  refine wpAny_GeneratorExp_make hco (closure_ok hfree) nocell dot ok.kind hd ?_ hs
  refine thn (hi.run pins s σ H _ I h) fun xv s1 hx => thn hx fun itv s2 h2 => ?_
  obtain ⟨it, fp, tn, J, H2, rfl, I2, T, st2, f2, ⟨ps, hP, ht3⟩, q⟩ := h2
  refine ⟨I2.nolimit, ?_⟩
  have hPs : s2.heap.get? P = some { cls := .none, data := .fields ps } := I2.hok P _ hP
  have cd : PySem.W.CodeHd s2.heap c P := TB.code.keeps fun b u e => I2.bk b u e
  have fP : ∀ b ∈ fp, b ≠ P := fun b hb z => by
    have := (f2 b hb).1
    rw [z, hP] at this
    cases this
  have cont : ∀ (code : Value) (h3 : Heap) (tk : Nat) (ps' more : Array Value), (∀ b o, b ≠ P → s2.heap.get? b = some o → h3.get? b = some o) → h3.get? P = some { cls := .none, data := .fields ps' } → ps' = ps ++ more → TriplesOk ps'.toList →
      wpAny (model X.prog X.w) X.A (builtinsFor X.env.globals X.env.builtins) (fun bi s₄ =>
        ∀ h' : Heap, h'.Ns s₄.heap.objs.size (fun y => if y = ".0" then some (Value.ref it) else none) → Heap.SameBut s₄.heap.objs.size (s₄.heap.push { cls := .type "frame", data := .dict #[] }) h' →
          Q' (.ref h'.objs.size) { s₄ with
            gens := s₄.gens.push (.fresh (.compStart (.GeneratorExp elt [⟨tg, iter, ifs, 0⟩] scope gpos) 0 (.ref it) .none (genEnv scope (cloFrom X.env.cells scope.names []) s₄.heap.objs.size code bi X.env))),
            toks := s₄.toks + 1 + 1 + 1,
            heap := h'.push { cls := .type "generator", data := .fields #[.int s₄.gens.size 0, .str "<genexpr>" (s₄.toks + 1), .str (X.env.qual ++ "<genexpr>") (s₄.toks + 1 + 1)] } }) X.xe { s2 with heap := h3, toks := tk } := by
    intro code h3 tk ps' more k3 hP3 em ht3
    subst em
    obtain ⟨bm, ob, e1, e2, e3, e4, e5, e6, e7, e8⟩ := TB.bm
    have ext : Heap.ExtBut P s2.heap h3 := fun b o hb e => k3 b o hb e
    have J4 : Inv X pins σ (upd H2 P (.tbl (ps ++ more))) { s2 with heap := h3, toks := tk } := GxR.inv_tab (more := more) (h' := h3) (g' := s2.gens) (d' := s2.drawn) (t' := tk) I2 hP k3 hP3 I2.bare
    have tb : GxR.Tabbed P H2 (upd H2 P (.tbl (ps ++ more))) := ⟨⟨ps ++ more, upd_same, ht3⟩, fun b hb => upd_ne hb⟩
    have q4 := q _ tb
    have st4 : tn 0 h3 := T.keep _ _ _ st2 fun b hb o e => k3 b o (fP b hb) e
    have f4 : ∀ b ∈ fp, FpOk X pins (upd H2 P (.tbl (ps ++ more))) b := fun b hb => ⟨by rw [upd_ne (fP b hb)]; exact (f2 b hb).1, (f2 b hb).2⟩
    refine wpAny_builtinsFor (m := X.mg) (by rw [I2.ok.glob]; exact ((I2.mod.glob.keeps I2.bk).extBut ext TB.gP)) e1 e2 (k3 _ _ e4 (I2.bk _ _ e5)) e6 e7 e8 ?_
    generalize hH4 : upd H2 P (.tbl (ps ++ more)) = H4 at J4 f4 q4
    intro h' hn' hs'
    have hsz : h'.objs.size = h3.objs.size + 1 := by rw [hs'.1, Heap.size_push]
    have keep' : ∀ b o, h3.get? b = some o → h'.get? b = some o := fun b o e => hs'.extBut b o (Nat.ne_of_lt (Heap.lt_size e)) (Heap.get?_push_of_some _ e)
    have main : ∀ (go : Obj) (nm qn : Value) (tk2 : Nat), go.cls = .type "generator" → go.data = .fields #[.int s2.gens.size 0, nm, qn] → go.slots = #[] → (∀ h : Heap, (h.push go).get? h.objs.size = some go) →
        Rdy X k pins σ (own.map (·.2)) J g tt te H4 h'.objs.size { s2 with gens := s2.gens.push (.fresh (.compStart (.GeneratorExp elt [⟨tg, iter, ifs, 0⟩] scope gpos) 0 (.ref it) .none (genEnv scope (cloFrom X.env.cells scope.names []) h3.objs.size code builtinsNs X.env))), toks := tk2, heap := h'.push go } := by
      intro go nm qn tk2 hgc hgd hgs hgp
      have f5 : ∀ b ∈ fp, FpOk X pins H4 b ∧ b < ({ s2 with heap := h3, toks := tk } : Shared).heap.objs.size := fun b hb => ⟨f4 b hb, by
        obtain ⟨o, e, _⟩ := T.obj _ _ st4 b hb
        exact Heap.lt_size e⟩
      have kp5 : ∀ b o, h3.get? b = some o → (h'.push go).get? b = some o := fun b o e => Heap.get?_push_of_some _ (keep' b o e)
      have haz : ∀ b ∈ fp, b ≠ h'.objs.size := fun b hb z => by
        have e : b < h3.objs.size := (f5 b hb).2
        rw [z, hsz] at e
        exact absurd e (Nat.not_lt_of_le (Nat.le_succ _))
      refine ⟨go, s2.gens.size, .fresh (.compStart (.GeneratorExp elt [⟨tg, iter, ifs, 0⟩] scope gpos) 0 (.ref it) .none (genEnv scope (cloFrom X.env.cells scope.names []) h3.objs.size code builtinsNs X.env)), { s2 with heap := h3, toks := tk }, genEnv scope (cloFrom X.env.cells scope.names []) h3.objs.size code builtinsNs X.env, fp,
        fun h e => ⟨go, nm, qn, e, hgc, hgd, hgs⟩, hgp h', Array.getElem?_push_size .., fun b hb => ⟨?_, haz b hb⟩, fun B hB1 hB2 hB3 => ?_⟩
      · show b < (h'.push go).objs.size
        rw [Heap.size_push, hsz]
        exact Nat.lt_succ_of_lt (Nat.lt_succ_of_lt (f5 b hb).2)
      have I5 := gx_start (A := B) (scope := scope) (own := own) (code := code) (pG := [(h'.objs.size, go)]) (gs := s2.gens.push (.fresh (.compStart (.GeneratorExp elt [⟨tg, iter, ifs, 0⟩] scope gpos) 0 (.ref it) .none (genEnv scope (cloFrom X.env.cells scope.names []) h3.objs.size code builtinsNs X.env)))) (tk := tk2)
        J4 ok nocell hN hB1 hB2 f5 (h5 := h'.push go) (hn'.push _) kp5 (AllBare.push I2.bare rfl) (fun p hp => by
          rw [List.mem_singleton.mp hp]
          exact ⟨hgp h', by show h3.objs.size < h'.objs.size; rw [hsz]; exact Nat.lt_succ_self _, fun v z => by rw [hgd] at z; cases z⟩)
      have hroom : Room k (B.deeper (genEnv scope (cloFrom X.env.cells scope.names []) h3.objs.size code builtinsNs X.env)) := Room.deeper hB3 _
      refine ⟨I5, fun σ' H' s' I6 => ?_, fun D QT Yp W hD turn m0 H'' s'' w0 I6 kp6 n6 => ⟨rfl, ?_⟩⟩
      · exact J4.call' (ch := fp) I6.os I6.base I6.hok I6.bare fun b hb => ⟨(f4 b hb).2.2.2.1, (f4 b hb).2.1, (f4 b hb).2.2.2.2.1, (f4 b hb).2.2.2.2.2⟩
      · refine seg_start (Y := gx X B { s2 with heap := h3, toks := tk } H4 (genEnv scope (cloFrom X.env.cells scope.names []) h3.objs.size code builtinsNs X.env) fp) (A := B) rfl rfl hco (fun _ _ z => z) T (hg _ _ _ _ _ _ _ hroom) (ht _ _ _ _ _ _ _ hroom) (he _ _ _ _ _ _ _ hroom) (fun H hH b hb => ?_) hD turn m0 (m0 + 1) s'' s'' H'' (Nat.lt_succ_self _) w0 I6
          (T.keep _ _ _ st4 fun b hb o e => kp6 b hb o (kp5 b o e)) (fun b hb => (n6 b hb).trans (f4 b hb).1)
        exact ⟨hH b hb, (I5.ok.exf b hb).1, I5.ok.exfs b hb, .inl hb, fun x c e => (I5.ok.exf b hb).2 x c e, fun p hp => by
          have hp : p ∈ [(h'.objs.size, go)] := hp
          rw [List.mem_singleton.mp hp]
          exact (haz b hb).symm⟩
    exact hQ J H4 _ _ q4 (main _ _ _ _ rfl rfl rfl fun h => Heap.get?_push_size _ rfl)
  cases hf : codeAmong gpos ps.toList with
  | none =>
    refine wpAny_genexprCodeX hcode (cd.code hPs ht3) (cd.tab hPs) hf fun c' h' tk hx hge hlt hco' _ htab' _ => ?_
    obtain ⟨o1, vs, f1, tf, fl, tg, inF, tx, tt, op, _, _, _, _, _, _, _, _, _, htr, _⟩ := hco'
    exact cont _ h' tk _ _ (fun b o hb e => hx b o hb e) htab'.2 rfl htr
  | some cv =>
    refine wpAny_genexprCode_hit hcode (cd.code hPs ht3) hf ?_
    exact cont cv s2.heap s2.toks ps #[] (fun _ _ _ e => e) hPs (by simp) ht3
/-- all(e for x in .. if ..), e of any kind, a truth; behind it the def's table may have grown -/
def tAllG (P : Addr) (wi : TI) (g : TG) (tt : TT) (te : TE) (vs : List Nat) : TE := fun σ H Q => wi σ H fun J H1 => GxR.TabG H1 P ∧ ∀ H2, GxR.Tabbed P H1 H2 → ∃ W : Nat → Nat → Hp → Prop, (∃ m, W 0 m H2) ∧ Turns J g tt te vs σ (fun H => Q (.bl true) H) (pAll fun H => Q (.bl false) H) W
theorem pe_allG {p pos : Pos} (hr : Room (k + 3) X.A) (hga : Gl X "all") (hm : X.mg "all" = none) (hb : bootBuiltins "all" = some (.builtin "all")) (TB : GxR.TabB X.base X.mg c P) (hcode : X.env.code = .ref c) (hN : X.N.Nodup) (hco : scope.isCoroutine = false) (nocell : ∀ y ∈ scope.names, y.2 ≠ .cell) (dot : scope.names.lookup (".0" : Str) = some NameKind.local)
    (ok : BlkOk X.N X.env.scope scope own) (hi : PI X tg iter wi) (hg : ∀ (A : Around) (s : Shared) (H : Hp) (cl : List (Str × Addr)) (C : Addr) (code : Value) (fp : List Addr), Room k (A.deeper (gE X scope cl C code)) → PG (gx X A s H (gE X scope cl C code) fp) tg g)
    (ht : ∀ (A : Around) (s : Shared) (H : Hp) (cl : List (Str × Addr)) (C : Addr) (code : Value) (fp : List Addr), Room k (A.deeper (gE X scope cl C code)) → PTs (gx X A s H (gE X scope cl C code) fp) ifs tt)
    (hel : ∀ (A : Around) (s : Shared) (H : Hp) (cl : List (Str × Addr)) (C : Addr) (code : Value) (fp : List Addr), Room k (A.deeper (gE X scope cl C code)) → PE (gx X A s H (gE X scope cl C code) fp) elt te)
    (hs : ∀ v, genFold iter X.env v = pure v)
    (he : starEach [.GeneratorExp elt [⟨tg, iter, ifs, 0⟩] scope gpos] X.env = (false, eval (.GeneratorExp elt [⟨tg, iter, ifs, 0⟩] scope gpos) X.env) :: starEach [] X.env := by rfl) :
    PE X (.Call (.Name "all" p) [.GeneratorExp elt [⟨tg, iter, ifs, 0⟩] scope gpos] [] pos) (tAllG P wi g tt te (own.map (·.2))) := by
  refine ⟨fun pins s σ H Q I h => ?_⟩
  refine wpAny_Call_Name_kw (ld_blt I hga hm hb ?_)
  refine PyProof.Rows.callWith_builtin1 ?_ he (by rfl)
  rw [he]
  show wpAny _ _ (spliced ((false, eval (.GeneratorExp elt [⟨tg, iter, ifs, 0⟩] scope gpos) X.env) :: backTo pos (starEach [] X.env))) _ _ s
  refine Calls.spliced_cons (gen_ex (R := fun J H2 => ∃ W : Nat → Nat → Hp → Prop, (∃ m, W 0 m H2) ∧ Turns J g tt te (List.map (fun x : Str × Nat => x.2) own) σ (fun H => Q (.bl true) H) (pAll fun H => Q (.bl false) H) W) hr.depth TB hcode hN hco nocell dot ok hi hg ht hel hs I h fun J H4 a s5 q hR => ?_)
  refine Calls.spliced_nil ?_
  obtain ⟨W, ⟨m0, w0⟩, turn⟩ := q
  obtain ⟨go, gn, gs, s₄, genv, fp, hgo, hga5, hgs, hfp, all⟩ := hR
  obtain ⟨I5, back, goes⟩ := all X.A.in1.in1 hr.hd I.ok.frames (Room.in1 (Room.in1 hr))
  refine call_function_tree F.kind_all F.plain_all F.entry_all (F.args_all1 _) ?_
  unfold Builtin.«all»
  refine wpAny_bind (m := oneArg "all" _) (wpAny_pure ?_)
  refine wpAny_bind (wpAny_pyIter_gen (hgo _ hga5) ?_)
  refine wpAny_pure ⟨plainId_quiet F.plain_all_loop _, all_loop (Y := gx X X.A.in1.in1 s₄ H4 genv fp) (pG := [(a, go)]) rfl rfl hr.hd (Room.in1 hr).depth hgo (List.mem_singleton.mpr rfl) (fun σ1 H1 s' I1 q => ?_) (fun σ1 H1 s' I1 q => ?_) (m0 + 1) _ H4 s5 gs I5 hgs
    fun s'' e1 e2 e3 => goes a _ _ W (fun b hb => (hfp b hb).2) turn m0 H4 s'' w0 (inv_same I5 e1 e2 e3) (fun b _ o e => by rw [e1]; exact e) fun _ _ => rfl⟩
  · exact ⟨.bl true, H1, back σ1 H1 s' I1, rfl, q⟩
  · exact ⟨.bl false, H1, back σ1 H1 s' I1, rfl, q⟩
end
end KG

/-! Own layer: tuple(..) of such a generator expression. -/
namespace KG
open PySem PySem.Spec PyProof.Rows L2 GenW
/-- tuple: what is handed out is laid behind the list at D -/
def pTup (D : Addr) : V → Hp → (Hp → Prop) → Prop := fun y H Nx => ∃ acc, H D = some (.lst acc) ∧ acc.length < sizeLine ∧ Nx (upd H D (.lst (acc ++ [y])))
section
variable {Y : Cx} {A : Around} {pG : List (Addr × Obj)} {QT : Hp → Prop}
theorem ext_loop {S a : Addr} {go : Obj} {gn : Nat} {R : Result → Shared → Prop} {res : Value} (hh : A.handled = none) (hroom : A.depth < recursionLimit) (hgo : ∀ h : Heap, h.get? a = some go → h.IsGen a gn) (hpin : (a, go) ∈ pG)
    (hT : ∀ (σ : L2.St) (H : Hp) (s' : Shared), Inv Y pG σ H s' → QT H → R (.ok (.ret res)) s') :
    ∀ (n : Nat) (σ : L2.St) (H : Hp) (s : Shared) (gs : GenState), Inv Y pG σ H s → s.gens[gn]? = some gs → (∀ s'' : Shared, s''.heap = s.heap → s''.os = s.os → AllBare s''.gens → gs.Goes (model Y.prog Y.w) A.in1.in1 (gR Y pG QT) (gY Y pG S (pTup S)) n (.send .none) s'') →
      codeAny (model Y.prog Y.w) A (.builtin "list.extend.loop" ⟨[.ref S, .ref a, res], []⟩) R s := by
  have step : ∀ n : Nat, (∀ n', n = n' + 1 → ∀ (σ : L2.St) (H : Hp) (s : Shared) (gs : GenState), Inv Y pG σ H s → s.gens[gn]? = some gs → (∀ s'' : Shared, s''.heap = s.heap → s''.os = s.os → AllBare s''.gens → gs.Goes (model Y.prog Y.w) A.in1.in1 (gR Y pG QT) (gY Y pG S (pTup S)) n' (.send .none) s'') →
      codeAny (model Y.prog Y.w) A (.builtin "list.extend.loop" ⟨[.ref S, .ref a, res], []⟩) R s) → ∀ (σ : L2.St) (H : Hp) (s : Shared) (gs : GenState), Inv Y pG σ H s → s.gens[gn]? = some gs → (∀ s'' : Shared, s''.heap = s.heap → s''.os = s.os → AllBare s''.gens → gs.Goes (model Y.prog Y.w) A.in1.in1 (gR Y pG QT) (gY Y pG S (pTup S)) n (.send .none) s'') →
      codeAny (model Y.prog Y.w) A (.builtin "list.extend.loop" ⟨[.ref S, .ref a, res], []⟩) R s := by
    intro n ih σ H s gs I hgs hG
    refine codeAny_builtin F.entry_extend_loop ?_
    rw [Around.under_plainId F.plain_extend_loop _]
    show wpAny _ A.in1 (pyNext (.ref a) >>= _) _ _ s
    have hlt : gn < s.gens.size := by
      rcases Nat.lt_or_ge gn s.gens.size with h | h
      · exact h
      · rw [Array.getElem?_eq_none h] at hgs
        cases hgs
    have gen : ∀ {σ : L2.St} {H : Hp} {s : Shared}, Inv Y pG σ H s → s.heap.IsGen a gn := fun I => hgo _ (I.pin (a, go) (List.mem_append_right _ hpin)).1
    refine wpAny_bind (wpAny_gsz (n := gn + 1) hlt (wpAny_pyNext_genexpQ (P := fun n s0 s1 => ∃ (σ : L2.St) (H : Hp), Inv Y pG σ H s1 ∧ QT H) hh I.nolimit hroom (gen I) hgs (hG _ rfl rfl (allBare_setGen I.bare rfl)) (fun v s₁ gs' hb hv hsz => ?_) (fun s₁ hp h' hk hsz => ?_)))
    · obtain ⟨y, σ1, H1, Nx, ry, I1, ⟨acc, hS, hz, nx⟩, kap⟩ := hv
      have I2 : Inv Y pG σ1 H1 (s₁.setGen gn gs') := inv_same I1 rfl rfl (allBare_setGen I1.bare hb)
      have hlt1 : gn < s₁.gens.size := by
        rw [setGen_size] at hsz
        exact hsz
      obtain ⟨hz', its, c, ri, hS1⟩ : ObjOk Y.prog Y.w H1 s₁.heap S (.lst acc) := I1.hok S _ hS
      have hl := ri.length
      show wpAny _ A.in1 (updateSeq S (·.push v) >>= _) _ _ _
      refine wpAny_bind ?_
      refine wpAny_updateSeq (s := s₁.setGen gn gs') hS1 rfl (wpAny_pure ⟨plainId_quiet F.plain_extend_loop _, ?_⟩) (by rw [List.size_toArray]; omega) (by show (its.toArray.push v).size ≤ sizeLine + 1; rw [Array.size_push, List.size_toArray]; omega)
      have keep3 : ∀ b o, b ≠ S → s₁.heap.get? b = some o → (s₁.heap.update S (Obj.mapSeq (·.push v))).get? b = some o := fun b o hbS e => (Heap.get?_update_other _ _ (Ne.symm hbS)).trans e
      have at3 := Heap.get?_update_self (Obj.mapSeq (·.push v)) hS1 rfl
      have I3 : Inv Y pG σ1 (upd H1 S (.lst (acc ++ [y]))) { s₁.setGen gn gs' with heap := s₁.heap.update S (Obj.mapSeq (·.push v)) } :=
        I2.write (t' := (s₁.setGen gn gs').toks) (by rw [hS]; trivial) (.inl rfl) (fun b u hb q => keep3 b u hb q) ⟨_, at3⟩ ⟨by rw [List.length_append]; exact hz, its ++ [v], _, ri.append (.cons ry .nil), by
          rw [at3]
          simp [Obj.mapSeq]
          rfl⟩
      cases n with
      | zero => exact (kap _ _ nx (fun b hb => upd_ne hb) (fun b o hb e => keep3 b o hb e) I3).elim
      | succ n' =>
        refine ih n' rfl σ1 _ _ gs' I3 (setGen_at hlt1) fun s'' e1 e2 e3 => kap _ s'' nx (fun b hb => upd_ne hb) (fun b o hb e => by rw [e1]; exact keep3 b o hb e) (inv_same I3 e1 e2 e3)
    · obtain ⟨σ1, H1, I1, qt⟩ := hp
      have I2 : Inv Y pG σ1 H1 { s₁ with heap := h' } := I1.kept (t' := s₁.toks) hk
      exact wpAny_pure (hT σ1 H1 _ (inv_same I2 rfl rfl (allBare_setGen I1.bare rfl)) qt)
  intro n
  induction n with
  | zero => exact step 0 fun n' e => absurd e (Nat.succ_ne_zero n').symm
  | succ n ih =>
    refine step (n + 1) fun n' e => ?_
    obtain rfl : n = n' := Nat.succ.inj e
    exact ih
end
section
variable {X : Cx} {pins : List (Addr × Obj)} {σ : L2.St} {k : Nat} {vs : List Nat} {J : It} {g : TG} {tt : TT} {te : TE} {H4 : Hp} {a : Addr} {s5 : Shared}
/-- the things of such a generator, gathered -/
theorem collect_rdy {A : Around} {E : Value → Shared → Prop} {Q' : List Value → Shared → Prop} {QL : List V → Hp → Prop} (hr : Room (k + 3) A) (hfr : A.frames = some X.stack) (hR : Rdy X k pins σ vs J g tt te H4 a s5)
    (h : ∀ D, H4 D = none → ∃ W : Nat → Nat → Hp → Prop, (∃ m, W 0 m (upd H4 D (.lst []))) ∧ Turns J g tt te vs σ (fun H => ∃ acc, H D = some (.lst acc) ∧ QL acc H) (pTup D) W)
    (hQ : ∀ (its : List Value) (acc : List V) (H : Hp) (s' : Shared), Inv X pins σ H s' → Vals acc its → acc.length ≤ sizeLine → QL acc H → Q' its s') : wpAny (model X.prog X.w) A (collect (.ref a)) Q' E s5 := by
  obtain ⟨go, gn, gs, s₄, genv, fp, hgo, hga5, hgs, hfp, all⟩ := hR
  obtain ⟨I5, back, goes⟩ := all A.in1.in1 hr.hd hfr (Room.in1 (Room.in1 hr))
  have hal : a < s5.heap.objs.size := Heap.lt_size hga5
  unfold collect
  refine wpAny_bind (wpAny_runValue (codeAny_builtin F.entry_proto_collect ?_))
  rw [Around.under_plainId F.plain_proto_collect _]
  show wpAny _ A.in1 (newList [] >>= fun l => again (.builtin "list.__iadd__" ⟨[l, .ref a], []⟩)) _ _ s5
  refine wpAny_bind (wpAny_newObj_type ?_)
  refine wpAny_pure ⟨plainId_quiet F.plain_list_iadd _, codeAny_builtin F.entry_list_iadd ?_⟩
  rw [Around.under_plainId F.plain_list_iadd _]
  have k1 : ∀ b o, s5.heap.get? b = some o → (s5.heap.push { cls := .type "list", data := .seq ([] : List Value).toArray }).get? b = some o := fun b o e => Heap.get?_push_of_some _ e
  have ty : ∀ {s : Shared}, s.heap.get? a = some go → s.TypeIs (.ref a) "generator" := fun e => Heap.IsGen.typeIs (hgo _ e)
  show wpAny _ A.in1 (Builtin.List.listExtendWith (.ref s5.heap.objs.size) (.ref a) (.ref s5.heap.objs.size)) _ _ _
  unfold Builtin.List.listExtendWith
  refine wpAny_bind (wpAny_typeOf (ty (s := { s5 with heap := _ }) (k1 _ _ hga5)) ?_)
  have h1 : Builtin.List.listSameRef (.ref s5.heap.objs.size) (.ref a) = false := by simp [Builtin.List.listSameRef, Nat.ne_of_gt hal]
  have h2 : (Value.type "generator" == Value.type "list") = false := by decide
  have h3 : (Value.type "generator" == Value.type "tuple") = false := by decide
  simp only [h1, h2, h3, Bool.or_false, Bool.false_eq_true, if_false]
  refine wpAny_bind (wpAny_pyIter_gen (s := { s5 with heap := _ }) (hgo _ (k1 _ _ hga5)) ?_)
  refine wpAny_bind (wpAny_holding ?_)
  unfold Builtin.List.listLengthHint
  refine wpAny_bind (wpAny_specialOf (ty (s := { s5 with heap := _ }) (k1 _ _ hga5)) F.gen_no_len ?_)
  show wpAny _ A.in1 (specialOf (Value.ref a) (Str.ofString "__length_hint__") >>= _) _ _ _
  refine wpAny_bind (wpAny_specialOf (ty (s := { s5 with heap := _ }) (k1 _ _ hga5)) F.gen_no_hint ?_)
  refine wpAny_pure ?_
  show wpAny _ A.in1 (rule "list.extend.makes-room" >>= fun _ => Builtin.List.listTouch (.ref s5.heap.objs.size) >>= fun _ =>
    again (.builtin "list.extend.loop" ⟨[.ref s5.heap.objs.size, .ref a, .ref s5.heap.objs.size], []⟩)) _ _ _
  refine wpAny_bind (wpAny_rule ?_)
  have hS₁ : (s5.heap.push { cls := .type "list", data := .seq ([] : List Value).toArray }).get? s5.heap.objs.size = some { cls := .type "list", data := .seq ([] : List Value).toArray } := Heap.get?_push_size _ rfl
  refine wpAny_bind ?_
  show wpAny _ A.in1 (updateSeq s5.heap.objs.size (·.push .none) >>= fun _ => updateSeq s5.heap.objs.size (·.pop)) _ _ _
  refine wpAny_bind (wpAny_updateSeq hS₁ rfl ?_)
  have hS₂ := Heap.get?_update_self (Obj.mapSeq (·.push Value.none)) hS₁ rfl
  refine wpAny_updateSeq hS₂ rfl ?_
  have hS₃ := Heap.get?_update_self (Obj.mapSeq (·.pop)) hS₂ rfl
  have oth : ∀ b o, s5.heap.get? b = some o →
      (((s5.heap.push { cls := .type "list", data := .seq ([] : List Value).toArray }).update s5.heap.objs.size (Obj.mapSeq (·.push Value.none))).update s5.heap.objs.size (Obj.mapSeq (·.pop))).get? b = some o :=
    fun b o e => (Heap.get?_update_other _ _ (Ne.symm (Nat.ne_of_lt (Heap.lt_size e)))).trans ((Heap.get?_update_other _ _ (Ne.symm (Nat.ne_of_lt (Heap.lt_size e)))).trans (k1 b o e))
  have fresh : H4 s5.heap.objs.size = none := I5.hok.fresh (Nat.le_refl _)
  obtain ⟨W, ⟨m0, w0⟩, turn⟩ := h _ fresh
  have I6 := I5.laid (t' := s5.toks) (a := s5.heap.objs.size) (o := .lst []) oth (Nat.le_refl _) ⟨Nat.zero_le _, [], _, .nil, hS₃⟩
  refine wpAny_pure ⟨plainId_quiet F.plain_extend_loop _, ext_loop (Y := gx X A.in1.in1 s₄ H4 genv fp) (pG := [(a, go)]) hr.hd (Room.in1 hr).depth hgo (List.mem_singleton.mpr rfl) (fun σ1 H1 s' I1 q => ?_) (m0 + 1) _ _ _ gs I6 hgs
    fun s'' e1 e2 e3 => goes s5.heap.objs.size _ _ W (fun b hb z => by
      have e := (hfp b hb).1
      rw [z] at e
      exact Nat.lt_irrefl _ e) turn m0 _ s'' w0 (inv_same I6 e1 e2 e3) (fun b _ o e => by rw [e1]; exact oth b o e) fun b hb => upd_ne (Nat.ne_of_lt (hfp b hb).1)⟩
  obtain ⟨acc, hS, qL⟩ := q
  obtain ⟨hz, its, c, ri, hS1⟩ : ObjOk X.prog X.w H1 s'.heap s5.heap.objs.size (.lst acc) := I1.hok _ _ hS
  show wpAny _ A (load s5.heap.objs.size >>= _) _ _ s'
  refine wpAny_bind (wpAny_load hS1 ?_)
  refine wpAny_pure ?_
  have e : its.toArray.toList = its := by simp
  exact (e ▸ hQ its acc H1 s' (back σ1 H1 s' I1) ri hz qL : Q' its.toArray.toList s')
end
end KG

namespace KG
open PySem PySem.Spec PyProof.Rows L2 GenW
open AutoSeq1 (wpAny_loadPart')
section
variable {X : Cx} {pins : List (Addr × Obj)} {σ : L2.St} {k : Nat} {vs : List Nat} {J : It} {g : TG} {tt : TT} {te : TE} {H4 : Hp} {a : Addr} {s5 : Shared}
theorem code_tup_rdy {A : Around} {E : Value → Shared → Prop} {Q₁ : Value → Shared → Prop} {QL : List V → Hp → Prop} (hr : Room (k + 4) A) (hfr : A.frames = some X.stack) (hR : Rdy X k pins σ vs J g tt te H4 a s5)
    (h : ∀ D, H4 D = none → ∃ W : Nat → Nat → Hp → Prop, (∃ m, W 0 m (upd H4 D (.lst []))) ∧ Turns J g tt te vs σ (fun H => ∃ acc, H D = some (.lst acc) ∧ QL acc H) (pTup D) W)
    (hQ : ∀ (its : List Value) (acc : List V) (H : Hp) (s' : Shared), Inv X pins σ H s' → Vals acc its → acc.length ≤ sizeLine → QL acc H → Q₁ (.ref s'.heap.objs.size) { s' with heap := s'.heap.push { cls := .type "tuple", data := .seq its.toArray } }) :
    codeAny (model X.prog X.w) A (.call (.builtin "tuple.__new__") ⟨[.type "tuple", .ref a], []⟩) (wants Q₁ E) s5 := by
  refine codeAny_of_tree ?_
  show wpAny _ A.in1 (do checkBuiltinCall "tuple.__new__" ⟨[.type "tuple", .ref a], []⟩; again (.builtin "tuple.__new__" ⟨[.type "tuple", .ref a], []⟩)) _ _ s5
  refine wpAny_bind (wpAny_of_eq (F.newCall_tuple_1 _) (wpAny_pure ⟨plainId_quiet F.plain_tuple_new _, codeAny_builtin F.entry_tuple_new ?_⟩))
  rw [Around.under_plainId F.plain_tuple_new _]
  have hsub := sub_tuple_self
  have hinit := init_tuple_lookup
  have hmh := madeHere_tuple
  have hTI : s5.TypeIs (.ref a) "generator" := by
    obtain ⟨go, gn, gs, s₄, genv, fp, hgo, hga5, _⟩ := id hR
    exact Heap.IsGen.typeIs (hgo _ hga5)
  have col := fun (E : Value → Shared → Prop) (Q' : List Value → Shared → Prop) => collect_rdy (E := E) (Q' := Q') (A := A.in1) (QL := QL) (Room.in1 hr) hfr hR h
  wp_walk using wpAny_typeOf hTI, col
  intro its acc H s' I rv hz qL
  show wpAny _ _ (Builtin.Tuple.tupleExact its.toArray >>= fun v => ret v) _ _ _
  unfold Builtin.Tuple.tupleExact
  refine wpAny_bind (wpAny_newObj_type ?_ (by show its.toArray.size ≤ sizeLine; rw [List.size_toArray, ← rv.length]; exact hz))
  exact wpAny_pure (hQ its acc H s' I rv hz qL)
theorem call_tup_rdy {A : Around} {E : Value → Shared → Prop} {Q : Value → Shared → Prop} {QL : List V → Hp → Prop} (hr : Room (k + 5) A) (hfr : A.frames = some X.stack) (hR : Rdy X k pins σ vs J g tt te H4 a s5)
    (h : ∀ D, H4 D = none → ∃ W : Nat → Nat → Hp → Prop, (∃ m, W 0 m (upd H4 D (.lst []))) ∧ Turns J g tt te vs σ (fun H => ∃ acc, H D = some (.lst acc) ∧ QL acc H) (pTup D) W)
    (hQ : ∀ (its : List Value) (acc : List V) (H : Hp) (s' : Shared), Inv X pins σ H s' → Vals acc its → acc.length ≤ sizeLine → QL acc H → Q (.ref s'.heap.objs.size) { s' with heap := s'.heap.push { cls := .type "tuple", data := .seq its.toArray } }) :
    wpAny (model X.prog X.w) A (call (.type "tuple") [.ref a]) Q E s5 := by
  refine callType_codes (Q₁ := fun obj s₁ => s₁.TypeIs obj "tuple" ∧ Q obj s₁) F.called_tuple (F.typeCall_tuple_1 _) F.entry_object_init
    (code_tup_rdy (A := A.in1) (Room.in1 hr) hfr hR h fun its acc H s' I rv hz qL => ⟨⟨_, Heap.get?_push_size _ rfl, rfl⟩, hQ its acc H s' I rv hz qL⟩) fun obj s₁ h₁ => ?_
  exact ⟨h₁.1, F.args_object_init_2 obj _, object_init_meets F.called_tuple.init.lookup F.called_tuple.made (by decide) X.prog X.w A.in1 _ s₁ ⟨h₁.1, rfl, h₁.2⟩⟩
end
section
variable {X : Cx} {c P : Addr} {elt tg iter : Expr} {ifs : List Expr} {gpos : Pos} {scope : Scope} {own : List (Str × Nat)} {wi : TI} {g : TG} {tt : TT} {te : TE} {k : Nat}
/-- tuple(e for x in .. if ..): D the things as they are gathered; behind it the def's table may have grown -/
def tTupG (P : Addr) (wi : TI) (g : TG) (tt : TT) (te : TE) (vs : List Nat) : TE := fun σ H Q => wi σ H fun J H1 => GxR.TabG H1 P ∧ ∀ H2, GxR.Tabbed P H1 H2 → ∀ D, H2 D = none → ∃ W : Nat → Nat → Hp → Prop, (∃ m, W 0 m (upd H2 D (.lst []))) ∧
  Turns J g tt te vs σ (fun H => ∃ acc, H D = some (.lst acc) ∧ ∀ T, H T = none → Q (.ref T) (upd H T (.tup acc))) (pTup D) W
theorem pe_tupG {p pos : Pos} (hr : Room (k + 5) X.A) (hga : Gl X "tuple") (hm : X.mg "tuple" = none) (hb : bootBuiltins "tuple" = some (.type "tuple")) (TB : GxR.TabB X.base X.mg c P) (hcode : X.env.code = .ref c) (hN : X.N.Nodup) (hco : scope.isCoroutine = false) (nocell : ∀ y ∈ scope.names, y.2 ≠ .cell) (dot : scope.names.lookup (".0" : Str) = some NameKind.local)
    (ok : BlkOk X.N X.env.scope scope own) (hi : PI X tg iter wi) (hg : ∀ (A : Around) (s : Shared) (H : Hp) (cl : List (Str × Addr)) (C : Addr) (code : Value) (fp : List Addr), Room k (A.deeper (gE X scope cl C code)) → PG (gx X A s H (gE X scope cl C code) fp) tg g)
    (ht : ∀ (A : Around) (s : Shared) (H : Hp) (cl : List (Str × Addr)) (C : Addr) (code : Value) (fp : List Addr), Room k (A.deeper (gE X scope cl C code)) → PTs (gx X A s H (gE X scope cl C code) fp) ifs tt)
    (hel : ∀ (A : Around) (s : Shared) (H : Hp) (cl : List (Str × Addr)) (C : Addr) (code : Value) (fp : List Addr), Room k (A.deeper (gE X scope cl C code)) → PE (gx X A s H (gE X scope cl C code) fp) elt te)
    (hs : ∀ v, genFold iter X.env v = pure v)
    (he : starEach [.GeneratorExp elt [⟨tg, iter, ifs, 0⟩] scope gpos] X.env = (false, eval (.GeneratorExp elt [⟨tg, iter, ifs, 0⟩] scope gpos) X.env) :: starEach [] X.env := by rfl) :
    PE X (.Call (.Name "tuple" p) [.GeneratorExp elt [⟨tg, iter, ifs, 0⟩] scope gpos] [] pos) (tTupG P wi g tt te (own.map (·.2))) := by
  refine ⟨fun pins s σ H Q I h => Call_ (ld_blt I hga hm hb (PyProof.Rows.callWith_type1 ?_ he (by rfl)))⟩
  rw [he]
  show wpAny _ _ (spliced ((false, eval (.GeneratorExp elt [⟨tg, iter, ifs, 0⟩] scope gpos) X.env) :: backTo pos (starEach [] X.env))) _ _ s
  refine Calls.spliced_cons (gen_ex (R := fun J H2 => ∀ D, H2 D = none → ∃ W : Nat → Nat → Hp → Prop, (∃ m, W 0 m (upd H2 D (.lst []))) ∧ Turns J g tt te (List.map (fun x : Str × Nat => x.2) own) σ (fun H => ∃ acc, H D = some (.lst acc) ∧ ∀ T, H T = none → Q (.ref T) (upd H T (.tup acc))) (pTup D) W) hr.depth TB hcode hN hco nocell dot ok hi hg ht hel hs I h fun J H4 a s5 q hR => ?_)
  refine Calls.spliced_nil ?_
  refine call_tup_rdy (QL := fun acc H => ∀ T, H T = none → Q (.ref T) (upd H T (.tup acc))) hr I.ok.frames hR q fun its acc H1 s' I1 rv hz qL => ?_
  have I2 : Inv X pins σ (upd H1 s'.heap.objs.size (.tup acc)) { s' with heap := s'.heap.push { cls := .type "tuple", data := .seq its.toArray } } :=
    I1.laid (t' := s'.toks) (fun b o e => Heap.get?_push_of_some _ e) (Nat.le_refl _) (show ObjOk X.prog X.w _ _ _ (.tup acc) from ⟨hz, its, rv, IsTup.new _ _⟩)
  exact ⟨.ref s'.heap.objs.size, _, I2, rfl, qL _ (I1.hok.fresh (Nat.le_refl _))⟩
end
end KG

namespace GR
open PySem PySem.Spec PyProof.Rows L2 KL KG
theorem small_of {i n : Nat} (h : i < n - 1) (hl : n ≤ 1000000) {l : List V} (e : l.length = i := by simp) : l.length < sizeLine := by
  rw [sizeLine_eq]
  omega
def topS (i : Nat) : Stmt := PySem.Challenge.pw_causaleffects_k31_whole_rounds_end_at_th.main.body.getD i (.Pass ⟨0, 0, 0, 0⟩)
/-! ### t < u, two tuples of whole numbers -/
def ltT (ns ms : List Int) : Bool := Ob.lexAt (fun j => decide (ns.getD j 0 = ms.getD j 0)) (fun j => decide (ns.getD j 0 < ms.getD j 0)) (decide (ns.length < ms.length)) 0 (min ns.length ms.length)
def rLtT (K : PySem.W.Frag) : R2 := fun x y H Q => ∃ (a b : Addr) (ns ms : List Int), x = .ref a ∧ y = .ref b ∧ SqT K H a (ns.map V.int) ∧ SqT K H b (ms.map V.int) ∧ Q (.bl (ltT ns ms)) H
theorem op_ltT {X : Cx} (hu : X.A.units < cLine) : OpR X (compareOp .Lt) (rLtT X.K) := by
  intro pins s σ H x y v u Q I rx ry h
  obtain ⟨a, b, ns, ms, rfl, rfl, ha, hb, q⟩ := h
  cases rx
  cases ry
  obtain ⟨its, r1, p1, _⟩ := I.tuple ha
  obtain ⟨its2, r2, p2, _⟩ := I.tuple hb
  have i1 : IntsAre its ns := Vals.ints r1
  have i2 : IntsAre its2 ms := Vals.ints r2
  have e1 : its.toArray.size = ns.length := by rw [List.size_toArray]; exact i1.length
  have e2 : its2.toArray.size = ms.length := by rw [List.size_toArray]; exact i2.length
  have at1 : ∀ j (h1 : j < its.toArray.size), ∃ t, its.toArray[j] = .int (ns.getD j 0) t := fun j h1 => PyProof.Rows.IntsAre.int_at i1 _ _ (by simp at h1; simp [h1])
  have at2 : ∀ j (h1 : j < its2.toArray.size), ∃ t, its2.toArray[j] = .int (ms.getD j 0) t := fun j h1 => PyProof.Rows.IntsAre.int_at i2 _ _ (by simp at h1; simp [h1])
  have R := Ob.RcOp.tuples_lt (A := X.A) (s := s) (e := fun j => decide (ns.getD j 0 = ms.getD j 0)) (r := fun j => decide (ns.getD j 0 < ms.getD j 0)) p1 p2 hu (fun j h1 h2 => by
    obtain ⟨t, et⟩ := at1 j h1
    obtain ⟨t', et'⟩ := at2 j h2
    rw [et, et']
    have z : (ns.getD j 0 == ms.getD j 0) = decide (ns.getD j 0 = ms.getD j 0) := by
      by_cases q : ns.getD j 0 = ms.getD j 0
      · rw [decide_eq_true q]; exact beq_iff_eq.mpr q
      · rw [decide_eq_false q]; exact beq_eq_false_iff_ne.mpr q
    rw [← z]
    exact SeqAt.EqAt.int_int _ _ _ _) (fun j h1 h2 _ => by
    obtain ⟨t, et⟩ := at1 j h1
    obtain ⟨t', et'⟩ := at2 j h2
    rw [et, et']
    exact Ob.RcOp.lt_int _ _ _ _)
  rw [e1, e2] at R
  have z : wpAny (model X.prog X.w) X.A (compareOp .Lt (.ref a) (.ref b)) (EP X pins σ Q) X.xe s := R X.prog X.w X.xe (EP X pins σ Q) ⟨.bl _, H, I, rfl, q⟩
  exact z
/-! ### ascends -/
abbrev sAsc : Stmt := topS 17
theorem scAsc : FnScope ["row", "at"] ["row"] (defScope sAsc) := ⟨rfl, rfl, rfl, by decide +kernel, rfl, by decide +kernel, by decide +kernel⟩
/-- x < y is b -/
def LtV (H : Hp) (x y : V) (b : Bool) : Prop := (∃ i j : Int, x = .int i ∧ y = .int j ∧ b = decide (i < j)) ∨ ∃ (p q : Addr) (ns ms : List Int), x = .ref p ∧ y = .ref q ∧ Rd H p (.tup (ns.map V.int)) ∧ Rd H q (.tup (ms.map V.int)) ∧ b = ltT ns ms
theorem LtV.kp {Z : Addr → Prop} {H G : Hp} {x y : V} {b : Bool} (h : LtV H x y b) (k : Kp Z H G) (n : ∀ p, (x = .ref p ∨ y = .ref p) → ¬ Z p) : LtV G x y b := by
  rcases h with h | ⟨p, q, ns, ms, rfl, rfl, e1, e2, e3⟩
  · exact .inl h
  · exact .inr ⟨p, q, ns, ms, rfl, rfl, rd_kp k (n p (.inl rfl)) e1, rd_kp k (n q (.inr rfl)) e2, e3⟩
def spAsc : Sp := fun vs H Q _ => ∃ (a : Addr) (xs : List V) (lt : Nat → Bool), vs = [.ref a] ∧ Rd H a (.tup xs) ∧ xs.length ≤ 1000000 ∧ (∀ i x y, xs[i]? = some x → xs[i + 1]? = some y → LtV H x y (lt i)) ∧ ∀ G, Kp (fun _ => False) H G → Q (.bl ((List.range (xs.length - 1)).all lt)) G
section
variable {P : Program} {w : World} {K : PySem.W.Frag} {mg : Str → Option Value} {base : Heap}
theorem tyes {σ : L2.St} {H : Hp} {A A' : Hp → Prop} (h : A H) : tYes σ H (fun b G => if b = true then A G else A' G) := by
  show (if true = true then A H else A' H)
  rw [if_pos rfl]
  exact h
theorem ok_asc {f : Addr} {fd : FuncData} (F : Fun K "ascends" "ascends" sAsc f fd) (ma : mg "all" = none) (mr : mg "range" = none) (ml : mg "len" = none) : FnOk P w K mg base CX0 1 f fd ["row"] spAsc := by
  refine F.ok scAsc (fun vs H Q E h => ?_) (fun cdv A outer s H vs Q E hr h => ?_)
  · obtain ⟨a, xs, lt, rfl, _⟩ := h
    rfl
  · obtain ⟨a, xs, lt, rfl, ha, hl, hlt, q⟩ := h
    refine ⟨_, pss_one (ps_ret (pe_callB (cr_all rfl) (by rfl) ma (by decide +kernel) (pa_cons
      (pe_lc (own := [("at", 1)]) (g := gName 1) (tt := tYes) rfl scAsc.nd (pi_range1 (by rfl) mr (pa_cons (pe_op op_sub (pe_callB call_len_seq (by rfl) ml PySem.boot_len (pa_cons (pv 0) pa_nil)) pe_int) pa_nil))
        (blkOk_by (N := ["row", "at"]) (sc := defScope sAsc) (by decide +kernel)) (fun _ _ _ _ _ => pg_name (i := 1) scAsc.nd rfl (Or.inl rfl)) (fun _ _ _ _ _ => pts_nil)
        (fun _ _ _ _ _ => pe_cmpR (op_lt.or (show OpR _ _ (rLtT K) from op_ltT hr.units0)) (pe_ix (show IxR _ (rIxT K) from ix_tup) (pv 0) (pv 1) (fun _ _ => rfl)) (pe_ix (show IxR _ (rIxT K) from ix_tup) (pv 0) (pe_op op_add (pv 1) pe_int) (fun _ _ => rfl)) (nomark _))) pa_nil))), ?_⟩
    refine ⟨.ref a, rfl, a, xs, rfl, .inr (.inl ha), (xs.length : Int), 1, rfl, rfl, ?_⟩
    refine ⟨_, rfl, by omega, by omega, fun D nD => ?_⟩
    have hn : ((xs.length : Int) - 1).toNat = xs.length - 1 := by omega
    refine lc_range (lo := 0) (fun i J => J D = some (.lst (((List.range i).map lt).map V.bl)) ∧ Kp (fun _ => False) H J) ⟨upd_same, Kp.new nD⟩ ?_ ?_
    · rintro i J hi ⟨eJ, kJ⟩
      rw [hn] at hi
      refine ⟨rfl, tyes ?_⟩
      have h1 : i < xs.length := by omega
      have h2 : i + 1 < xs.length := by omega
      have e1 : xs[i]? = some xs[i] := List.getElem?_eq_getElem h1
      have e2 : xs[i + 1]? = some xs[i + 1] := List.getElem?_eq_getElem h2
      have haJ : Rd J a (.tup xs) := rd_kp kJ (fun z => z) ha
      have L := (hlt i _ _ e1 e2).kp kJ fun _ _ z => z
      have fin : J D = some (.lst (((List.range i).map lt).map V.bl)) → upd J D (.lst (((List.range i).map lt).map V.bl ++ [.bl (lt i)])) D = some (.lst (((List.range (i + 1)).map lt).map V.bl)) ∧ Kp (fun _ => False) H (upd J D (.lst (((List.range i).map lt).map V.bl ++ [.bl (lt i)]))) := fun _ => by
        refine ⟨by rw [upd_same, List.range_succ, List.map_append, List.map_append]; rfl, fun b o z e => ?_⟩
        rw [upd_ne (ne_of_none e nD)]
        exact kJ b o z e
      refine ⟨.ref a, rfl, .int (0 + (i : Int)), rfl, a, xs, (0 + (i : Int)), xs[i], rfl, rfl, .inl haJ, (by rw [Int.zero_add]; exact atI_nat e1), .ref a, rfl, .int (0 + (i : Int)), rfl, 0 + (i : Int), 1, rfl, rfl, a, xs, (0 + (i : Int) + 1), xs[i + 1], rfl, rfl, .inl haJ, (by rw [Int.zero_add]; exact atI_nat (j := i + 1) e2), ?_⟩
      rcases L with ⟨p, r, x1, x2, eb⟩ | ⟨p, r, ns, ms, x1, x2, y1, y2, eb⟩
      · refine .inl ⟨p, r, x1, x2, _, eJ, small_of hi hl, ?_⟩
        have z := fin eJ
        rw [eb] at z
        exact z
      · refine .inr ⟨p, r, ns, ms, x1, x2, .inl y1, .inl y2, _, eJ, small_of hi hl, ?_⟩
        have z := fin eJ
        rw [eb] at z
        exact z
    · rintro J ⟨eJ, kJ⟩
      rw [hn] at eJ
      refine ⟨D, (List.range (xs.length - 1)).map lt, rfl, .inl (.inl eJ), ?_⟩
      have e : ((List.range (xs.length - 1)).map lt).all id = (List.range (xs.length - 1)).all lt := by
        rw [List.all_map]
        rfl
      rw [e]
      exact q J kJ
end
end GR

namespace KG
open PySem PySem.Spec PyProof.Rows L2 KL
/-- the turns over a tuple that the elements leave as it is -/
theorem turns_tup {K : PySem.W.Frag} {a : Addr} {xs : List V} {g : TG} {tt : TT} {te : TE} {vs : List Nat} {σ : L2.St} {H1 : Hp} {QT : Hp → Prop} {Yp : V → Hp → (Hp → Prop) → Prop} (Pv : Nat → Hp → Prop) (h0 : Pv 0 H1) (hl : ∀ i H, i ≤ xs.length → Pv i H → SqT K H a xs)
    (hs : ∀ i x H, xs[i]? = some x → Pv i H → g x (wipe σ vs) H fun σ2 H2 => wipe σ2 vs = wipe σ vs ∧ tt σ2 H2 fun b H3 => if b = true then te σ2 H3 fun y H4 => Yp y H4 (Pv (i + 1)) else Pv (i + 1) H3) (hd : ∀ H, Pv xs.length H → QT H) :
    ∃ W : Nat → Nat → Hp → Prop, (∃ m, W 0 m H1) ∧ Turns (Itt K a) g tt te vs σ QT Yp W := by
  refine ⟨fun i m H => m = xs.length - i ∧ i ≤ xs.length ∧ Pv i H, ⟨xs.length, rfl, Nat.zero_le _, h0⟩, ?_⟩
  rintro i m H ⟨rfl, hi, p⟩
  have q := hl i H hi p
  by_cases hlt : i < xs.length
  · refine .inr ⟨⟨xs, xs[i], q, by simp [hlt]⟩, Pv (i + 1), fun H' p' => ⟨xs.length - (i + 1), by omega, rfl, hlt, p'⟩, fun x H' y => ?_⟩
    obtain ⟨e, y⟩ := y
    subst e
    exact hs i x _ (y xs q) p
  · have e : i = xs.length := by omega
    subst e
    exact .inl ⟨⟨xs, q, Nat.le_refl _⟩, hd H p⟩
/-- a def of the text as it stands behind the top, its code object known -/
structure FunC (K : PySem.W.Frag) (x qual : Str) (st : Stmt) (f : Addr) (fd : FuncData) (c : Addr) : Prop where
  ex : ∃ (oc : Value) (od : Option Addr) (kV doc pm : Value) (an : Option Addr) (ct : Value) (osl : Array (Option Value)),
    fd = PySem.W.fnOf x qual (defArgs st) (defBody st) (defScope st) .none kV doc pm an (.ref c) ct ∧ K.lookup f = some ⟨oc, od, .func fd, osl⟩ ∧ PySem.W.codeIn K (.ref c) qual = true
  kp : PySem.W.keepIn K (.ref f) = true
theorem FunC.fn {K : PySem.W.Frag} {x qual : Str} {st : Stmt} {f : Addr} {fd : FuncData} {c : Addr} (F : FunC K x qual st f fd c) : Fun K x qual st f fd := by
  obtain ⟨oc, od, kV, doc, pm, an, ct, osl, h1, h2, h3⟩ := F.ex
  exact ⟨⟨oc, od, kV, doc, pm, an, .ref c, ct, osl, h1, h2, h3⟩, F.kp⟩
theorem FunC.ok {P : Program} {w : World} {K : PySem.W.Frag} {mg : Str → Option Value} {base : Heap} {x qual : Str} {st : Stmt} {f : Addr} {fd : FuncData} {c : Addr} {N ps : List Str} {k : Nat} {sp : Sp} (F : FunC K x qual st f fd c) (S : FnScope N ps (defScope st)) (len : ∀ vs H Q E, sp vs H Q E → vs.length = ps.length)
    (hbody : ∀ (A : Around) (outer : List Env) (s : Shared) (H : Hp) (vs : List V) (Q : VK) (E : XK), Room k (A.deeper (envOfC qual (defScope st) s.heap.objs.size f (.ref c))) → sp vs H Q E →
      ∃ t, PSs (cxOf CX0 P w K mg base N qual (defScope st) f (.ref c) A outer s H E).nox (defBody st) t ∧ t { nx := fun _ H' => Q .non H', rt := Q } (start N vs) H) : FnOk P w K mg base CX0 (k + 1) f fd ps sp := by
  obtain ⟨oc, od, kV, doc, pm, an, ct, osl, rfl, lk, hcd⟩ := F.ex
  refine fn_of lk hcd S len fun A outer s H vs Q E hr hsp => ?_
  obtain ⟨t, h, q⟩ := hbody A outer s H vs Q E hr hsp
  exact ⟨t, h.nox, q⟩
/-- the tables ts of code objects stand -/
def Tb (ts : List Addr) (H : Hp) : Prop := ∀ P ∈ ts, GxR.TabG H P
/-- nothing but these tables has changed -/
def Ms (ts : List Addr) (H G : Hp) : Prop := Kp (fun b => b ∈ ts) H G ∧ Tb ts G
theorem Ms.rfl' {ts : List Addr} {H : Hp} (t : Tb ts H) : Ms ts H H := ⟨Kp.rfl', t⟩
theorem Ms.tr {ts : List Addr} {H G J : Hp} (a : Ms ts H G) (b : Ms ts G J) : Ms ts H J := ⟨a.1.tr b.1, b.2⟩
theorem Tb.kp {ts : List Addr} {H G : Hp} (t : Tb ts H) (k : Kp (fun _ => False) H G) : Tb ts G := fun P hP => by
  obtain ⟨ps, e, h⟩ := t P hP
  exact ⟨ps, k _ _ (fun z => z) e, h⟩
theorem Ms.kp {ts : List Addr} {H G J : Hp} (a : Ms ts H G) (k : Kp (fun _ => False) G J) : Ms ts H J := ⟨a.1.tr (k.wk fun _ z => z.elim), a.2.kp k⟩
theorem Tb.tabbed {ts : List Addr} {H G : Hp} {P : Addr} (t : Tb ts H) (h : GxR.Tabbed P H G) (hP : P ∈ ts) : Ms ts H G := by
  refine ⟨fun b o nb e => ?_, fun Q hQ => ?_⟩
  · have : b ≠ P := fun z => nb (z ▸ hP)
    rw [h.2 b this]
    exact e
  · by_cases z : Q = P
    · rw [z]
      exact h.1
    · obtain ⟨ps, e, r⟩ := t Q hQ
      exact ⟨ps, by rw [h.2 Q z]; exact e, r⟩
theorem Ms.new {ts : List Addr} {H G : Hp} {p : Addr} {o : HO} (a : Ms ts H G) (n : G p = none) : Ms ts H (upd G p o) := a.kp (Kp.new n)
end KG
namespace GR
open PySem PySem.Spec PyProof.Rows L2 KL KG
/-! ### is_lot -/
abbrev sLot : Stmt := topS 16
theorem scLot : FnScope ["count", "value", "one"] ["count", "value"] (defScope sLot) := ⟨rfl, rfl, rfl, by decide +kernel, rfl, by decide +kernel, by decide +kernel⟩
def inB (c : Int) : PyData → Bool
  | .int i => decide (0 ≤ i) && decide (i < c)
  | _ => false
def valI : PyData → Int
  | .int i => i
  | _ => 0
def ascL (ns : List Int) : Bool := (List.range (ns.length - 1)).all fun i => decide (ns.getD i 0 < ns.getD (i + 1) 0)
def isLotD (c : Int) : PyData → Bool
  | .tuple ds => ds.all (inB c) && ascL (ds.map valI)
  | _ => false
/-- no list, tuple of it is too long for a range -/
def LenOk : PyData → Prop
  | .tuple ds => ds.length ≤ 1000000
  | .str x => x.length ≤ 1000000
  | _ => True
/-- the type of data -/
def tyD : PyData → String
  | .none => "NoneType"
  | .bool _ => "bool"
  | .int _ => "int"
  | .str _ => "str"
  | .list _ => "list"
  | .tuple _ => "tuple"
  | .dict _ => "dict"
theorem dq_ty {K : PySem.W.Frag} {Z : Addr → Prop} {H : Hp} {v : V} {d : PyData} (h : Dq Z H v d) : TyB K H v (tyD d) := by
  cases h with
  | non => exact .non
  | bl b => exact .bl b
  | int i => exact .int i
  | str x => exact .str x
  | lst e z m h => exact .lst (.inl (.inl e))
  | tup e z h => exact .tup (.inl e)
  | dct e z m => exact .dK e
theorem dql_int {Z : Addr → Prop} {H : Hp} {c : Int} : ∀ {xs : List V} {ds : List PyData}, DqL Z H xs ds → ds.all (inB c) = true → xs = (ds.map valI).map V.int
  | _, _, .nil, _ => rfl
  | _, _, .cons h t, e => by
    rw [List.all_cons, Bool.and_eq_true] at e
    have r := dql_int t e.2
    cases h with
    | int i => rw [r]; rfl
    | _ => exact absurd e.1 Bool.false_ne_true
def spLot (ts : List Addr) : Sp := fun vs H Q _ => ∃ (c : Int) (v : V) (d : PyData) (Z : Addr → Prop), vs = [.int c, v] ∧ (∀ b ∈ ts, Z b) ∧ Tb ts H ∧ Dq Z H v d ∧ LenOk d ∧ ∀ G, Ms ts H G → Q (.bl (isLotD c d)) G
section
variable {P : Program} {w : World} {K : PySem.W.Frag} {mg : Str → Option Value} {base : Heap}
theorem rt (n : String) : RelV (.ty n) (Value.type n) := rfl
theorem ok_lot {f fA c T : Addr} {fd fdA : FuncData} {ts : List Addr} (F : FunC K "is_lot" "is_lot" sLot f fd c) (TB : GxR.TabB base mg c T) (hT : T ∈ ts) (FA : Fun K "ascends" "ascends" sAsc fA fdA) (gA : mg "ascends" = some (.ref fA)) (bA : L2.Binds K fdA ["row"] [])
    (ma : mg "all" = none) (mr : mg "range" = none) (ml : mg "len" = none) (my : mg "type" = none) (mt : mg "tuple" = none) (mi : mg "int" = none) : FnOk P w K mg base CX0 4 f fd ["count", "value"] (spLot ts) := by
  have GA : FnOk P w K mg base CX0 1 fA fdA ["row"] spAsc := ok_asc FA ma mr ml
  refine F.ok (k := 3) scLot (fun vs H Q E h => ?_) (fun A outer s H vs Q E hr h => ?_)
  · obtain ⟨c, v, d, Z, rfl, _⟩ := h
    rfl
  · obtain ⟨n, v, d, Z, rfl, hZ, tb, dq, hl, q⟩ := h
    refine ⟨_, pss_cons (ps_if (pt_cmpR op_isNotTy (pe_callTy call_type1 (by rfl) my (by decide +kernel) (pa_cons (pv 1) pa_nil)) (pe_bltn (u := .type "tuple") (by rfl) mt (by decide +kernel) (rt "tuple")) (nomark _)) (pss_one (ps_ret pe_bl)) pss_nil)
      (pss_one (ps_ret (pe_and (pe_allG (k := 0) (own := [("one", 2)]) (g := gName 2) (tt := tYes) hr (by rfl) ma (by decide +kernel) TB rfl scLot.nd rfl (by decide +kernel) (by rfl)
          (blkOk_by (N := ["count", "value", "one"]) (sc := defScope sLot) (by decide +kernel)) (pi_tup (pv 1)) (fun _ _ _ _ _ _ _ _ => pg_name (i := 2) scLot.nd rfl (Or.inl rfl)) (fun _ _ _ _ _ _ _ _ => pts_nil)
          (fun _ _ _ _ _ _ _ _ => pe_and (pe_cmpR op_isTy (pe_callTy (show CallR _ _ (rTyp K) from call_type1) (by rfl) my (by decide +kernel) (pa_cons (pv 2) pa_nil)) (pe_bltn (u := .type "int") (by rfl) mi (by decide +kernel) (rt "int")) (nomark _)) (pe_one (pe_chain op_le op_lt pe_int (pv 2) (pv 0)))) (fun _ => rfl))
        (pe_one (pe_call GA (hr.mono (by decide)) (by rfl) gA FA.kp bA .nil pass0 (pa_cons (pv 1) pa_nil)))))), ?_⟩
    have ifte : ∀ {A B : Prop} {c : Bool}, (c = true → A) → (c = false → B) → (if c = true then A else B) := fun {A B c} h1 h2 => by
      cases c with
      | true => exact (if_pos rfl).mpr (h1 rfl)
      | false => exact (if_neg Bool.false_ne_true).mpr (h2 rfl)
    refine ⟨v, rfl, v, tyD d, rfl, dq_ty dq, tyD d, "tuple", rfl, rfl, _, rfl, ite2 (fun c => ?_) (fun c => ?_)⟩
    · have e : isLotD n d = false := by
        cases d with
        | tuple ds => simp [tyD] at c
        | _ => rfl
      have z := q H (Ms.rfl' tb)
      rw [e] at z
      exact z
    · obtain ⟨ds, rfl⟩ : ∃ ds, d = .tuple ds := by
        cases d with
        | tuple ds => exact ⟨ds, rfl⟩
        | _ => simp [tyD] at c
      obtain ⟨a, xs, rfl, ea, za, L⟩ : ∃ a xs, v = .ref a ∧ Rd H a (.tup xs) ∧ ¬ Z a ∧ DqL Z H xs ds := by
        cases dq with
        | tup e z h => exact ⟨_, _, rfl, e, z, h⟩
      have stay : ∀ {J : Hp}, Ms ts H J → Rd J a (.tup xs) := fun ms => rd_kp ms.1 (fun z => za (hZ _ z)) ea
      have no : ∀ {J : Hp}, Ms ts H J → ds.all (inB n) = false → Q (.bl false) J := fun {J} ms e => by
        have z := q J ms
        rw [show isLotD n (.tuple ds) = (ds.all (inB n) && ascL (ds.map valI)) from rfl, e] at z
        exact z
      refine ⟨.ref a, rfl, a, rfl, ⟨xs, .inl ea⟩, tb T hT, fun H2 h2 => ?_⟩
      refine turns_tup (K := K) (a := a) (xs := xs) (fun i J => Ms ts H J ∧ (ds.take i).all (inB n) = true) ⟨tb.tabbed h2 hT, rfl⟩ (fun i J _ h => .inl (stay h.1)) ?_ ?_
      · rintro i x J hx ⟨ms, hall⟩
        obtain ⟨di, hdi, dqi⟩ := L.get hx
        have dqj : Dq Z J x di := dqi.kp (ms.1.wk hZ)
        have next : inB n di = true → (ds.take (i + 1)).all (inB n) = true := fun e => by
          rw [List.take_add_one, hdi, List.all_append, hall]
          simp [e]
        have bad : inB n di = false → ds.all (inB n) = false := fun e => by
          rw [List.all_eq_false]
          exact ⟨di, List.mem_of_getElem? hdi, by rw [e]; exact Bool.false_ne_true⟩
        refine ⟨rfl, tyes ?_⟩
        refine ⟨x, rfl, x, tyD di, rfl, dq_ty dqj, tyD di, "int", rfl, rfl, _, rfl, ifte (fun c1 => ?_) (fun c1 => ?_)⟩
        · obtain ⟨k, rfl⟩ : ∃ k, di = .int k := by
            cases di with
            | int k => exact ⟨k, rfl⟩
            | _ => simp [tyD] at c1
          cases dqj
          have ib : inB n (.int k) = (decide (0 ≤ k) && decide (k < n)) := rfl
          refine ⟨.int k, rfl, 0, k, rfl, rfl, _, rfl, ifte (fun c2 => ?_) (fun c2 => ?_)⟩
          · refine ⟨.int n, rfl, k, n, rfl, rfl, _, rfl, ifte (fun c3 => ⟨ms, next ?_⟩) (fun c3 => ⟨false, rfl, iteF (no ms (bad ?_))⟩)⟩
            · rw [ib, c2, c3]
              rfl
            · rw [ib, c3, Bool.and_false]
          · refine ⟨_, rfl, iteF ⟨false, rfl, iteF (no ms (bad ?_))⟩⟩
            rw [ib, c2, Bool.false_and]
        · refine ⟨_, rfl, iteF ⟨false, rfl, iteF (no ms (bad ?_))⟩⟩
          cases di with
          | int k => simp [tyD] at c1
          | _ => rfl
      · rintro J ⟨ms, hall⟩
        rw [L.len, List.take_length] at hall
        have ex := dql_int L hall
        refine ⟨true, rfl, iteT ⟨.ref a, rfl, a, xs, fun i => decide ((ds.map valI).getD i 0 < (ds.map valI).getD (i + 1) 0), rfl, stay ms, by rw [L.len]; exact hl, fun i x y h1 h2 => ?_, fun G kG => ?_⟩⟩
        · rw [ex, List.getElem?_map] at h1 h2
          obtain ⟨p, hp, rfl⟩ := Option.map_eq_some_iff.mp h1
          obtain ⟨r, hr', rfl⟩ := Option.map_eq_some_iff.mp h2
          refine .inl ⟨p, r, rfl, rfl, ?_⟩
          show decide ((ds.map valI).getD i 0 < (ds.map valI).getD (i + 1) 0) = decide (p < r)
          rw [List.getD_eq_getElem?_getD, List.getD_eq_getElem?_getD, hp, hr']
          rfl
        · have z := q G (ms.kp kG)
          rw [show isLotD n (.tuple ds) = (ds.all (inB n) && ascL (ds.map valI)) from rfl, hall, Bool.true_and] at z
          unfold ascL at z
          rw [show xs.length = (ds.map valI).length by rw [List.length_map, L.len]]
          exact z
end
end GR

namespace GR
open PySem PySem.Spec PyProof.Rows L2 KL KG
abbrev sArr : Stmt := topS 19
abbrev sHid : Stmt := topS 20
theorem scArr : FnScope ["count", "value", "one"] ["count", "value"] (defScope sArr) := ⟨rfl, rfl, rfl, by decide +kernel, rfl, by decide +kernel, by decide +kernel⟩
theorem scHid : FnScope ["count", "value", "one"] ["count", "value"] (defScope sHid) := ⟨rfl, rfl, rfl, by decide +kernel, rfl, by decide +kernel, by decide +kernel⟩
def lenD : PyData → Nat
  | .tuple ds => ds.length
  | _ => 0
def rowD : PyData → List Int
  | .tuple ds => ds.map valI
  | _ => []
def ascR (rows : List (List Int)) : Bool := (List.range (rows.length - 1)).all fun i => ltT (rows.getD i []) (rows.getD (i + 1) [])
def isArrD (c : Int) : PyData → Bool
  | .tuple ds => ds.all (fun e => isLotD c e && decide (lenD e = 2)) && ascR (ds.map rowD)
  | _ => false
def isHidD (c : Int) : PyData → Bool
  | .tuple ds => decide (ds.length ≤ 28) && (ds.all (fun e => isLotD c e && decide (2 ≤ lenD e)) && ascR (ds.map rowD))
  | _ => false
/-- the tuples within, down to a depth, are not too long -/
def LenD : Nat → PyData → Prop
  | 0, d => LenOk d
  | n + 1, d => LenOk d ∧ ∀ ds, d = .tuple ds → ∀ e ∈ ds, LenD n e
theorem LenD.ok : ∀ {n : Nat} {d : PyData}, LenD n d → LenOk d
  | 0, _, h => h
  | _ + 1, _, h => h.1
theorem lot_tup {Z : Addr → Prop} {H : Hp} {c : Int} {v : V} {d : PyData} (h : Dq Z H v d) (e : isLotD c d = true) : ∃ a, v = .ref a ∧ Rd H a (.tup ((rowD d).map V.int)) ∧ ¬ Z a ∧ lenD d = (rowD d).length := by
  cases h with
  | @tup a xs ds e1 z L =>
    have e2 : (ds.all (inB c) && ascL (ds.map valI)) = true := e
    rw [Bool.and_eq_true] at e2
    refine ⟨a, rfl, ?_, z, by show ds.length = (ds.map valI).length; rw [List.length_map]⟩
    show Rd H a (.tup ((ds.map valI).map V.int))
    rw [← dql_int L e2.1]
    exact e1
  | _ => exact absurd e Bool.false_ne_true
def spArr (ts : List Addr) : Sp := fun vs H Q _ => ∃ (c : Int) (v : V) (d : PyData) (Z : Addr → Prop), vs = [.int c, v] ∧ (∀ b ∈ ts, Z b) ∧ Tb ts H ∧ Dq Z H v d ∧ LenD 1 d ∧ ∀ G, Ms ts H G → Q (.bl (isArrD c d)) G
def spHid (ts : List Addr) : Sp := fun vs H Q _ => ∃ (c : Int) (v : V) (d : PyData) (Z : Addr → Prop), vs = [.int c, v] ∧ (∀ b ∈ ts, Z b) ∧ Tb ts H ∧ Dq Z H v d ∧ LenD 1 d ∧ ∀ G, Ms ts H G → Q (.bl (isHidD c d)) G
theorem ifte {A B : Prop} {c : Bool} (h1 : c = true → A) (h2 : c = false → B) : (if c = true then A else B) := by
  cases c with
  | true => exact (if_pos rfl).mpr (h1 rfl)
  | false => exact (if_neg Bool.false_ne_true).mpr (h2 rfl)
/-- the names that these defs read -/
structure Nm (mg : Str → Option Value) : Prop where
  all : mg "all" = none
  rng : mg "range" = none
  len : mg "len" = none
  typ : mg "type" = none
  tup : mg "tuple" = none
  int : mg "int" = none
  str : mg "str" = none
  set : mg "set" = none
/-- is_lot, ascends -/
structure Lo (K : PySem.W.Frag) (mg : Str → Option Value) (base : Heap) (ts : List Addr) (fL fA cL TL : Addr) (fdL fdA : FuncData) : Prop where
  L : FunC K "is_lot" "is_lot" sLot fL fdL cL
  tL : GxR.TabB base mg cL TL
  mL : TL ∈ ts
  gL : mg "is_lot" = some (.ref fL)
  bL : L2.Binds K fdL ["count", "value"] []
  A : Fun K "ascends" "ascends" sAsc fA fdA
  gA : mg "ascends" = some (.ref fA)
  bA : L2.Binds K fdA ["row"] []
section
variable {P : Program} {w : World} {K : PySem.W.Frag} {mg : Str → Option Value} {base : Heap} {ts : List Addr} {fL fA cL TL : Addr} {fdL fdA : FuncData}
theorem Lo.ok (S : Lo K mg base ts fL fA cL TL fdL fdA) (N : Nm mg) : FnOk P w K mg base CX0 4 fL fdL ["count", "value"] (spLot ts) := ok_lot S.L S.tL S.mL S.A S.gA S.bA N.all N.rng N.len N.typ N.tup N.int
theorem asc_rows {H : Hp} {Z : Addr → Prop} {c : Int} {p : PyData → Bool} {xs : List V} {ds : List PyData} (L : DqL Z H xs ds) (h : ds.all (fun e => isLotD c e && p e) = true) (i : Nat) (x y : V) (h1 : xs[i]? = some x) (h2 : xs[i + 1]? = some y) : LtV H x y (ltT ((ds.map rowD).getD i []) ((ds.map rowD).getD (i + 1) [])) := by
  obtain ⟨d1, e1, q1⟩ := L.get h1
  obtain ⟨d2, e2, q2⟩ := L.get h2
  have all := List.all_eq_true.mp h
  have l1 := all d1 (List.mem_of_getElem? e1)
  have l2 := all d2 (List.mem_of_getElem? e2)
  rw [Bool.and_eq_true] at l1 l2
  obtain ⟨a1, rfl, g1, _⟩ := lot_tup q1 l1.1
  obtain ⟨a2, rfl, g2, _⟩ := lot_tup q2 l2.1
  refine .inr ⟨a1, a2, rowD d1, rowD d2, rfl, rfl, g1, g2, ?_⟩
  rw [List.getD_eq_getElem?_getD, List.getD_eq_getElem?_getD, List.getElem?_map, List.getElem?_map, e1, e2]
  rfl
theorem ok_arr {f c T : Addr} {fd : FuncData} (F : FunC K "are_arrows" "are_arrows" sArr f fd c) (TB : GxR.TabB base mg c T) (hT : T ∈ ts) (S : Lo K mg base ts fL fA cL TL fdL fdA) (N : Nm mg) : FnOk P w K mg base CX0 8 f fd ["count", "value"] (spArr ts) := by
  have GA : FnOk P w K mg base CX0 1 fA fdA ["row"] spAsc := ok_asc S.A N.all N.rng N.len
  have GL : FnOk P w K mg base CX0 4 fL fdL ["count", "value"] (spLot ts) := S.ok N
  refine F.ok (k := 7) scArr (fun vs H Q E h => ?_) (fun A outer s H vs Q E hr h => ?_)
  · obtain ⟨c, v, d, Z, rfl, _⟩ := h
    rfl
  · obtain ⟨n, v, d, Z, rfl, hZ, tb, dq, hl, q⟩ := h
    refine ⟨_, pss_cons (ps_if (pt_cmpR op_isNotTy (pe_callTy call_type1 (by rfl) N.typ (by decide +kernel) (pa_cons (pv 1) pa_nil)) (pe_bltn (u := .type "tuple") (by rfl) N.tup (by decide +kernel) (rt "tuple")) (nomark _)) (pss_one (ps_ret pe_bl)) pss_nil)
      (pss_one (ps_ret (pe_and (pe_allG (k := 4) (own := [("one", 2)]) (g := gName 2) (tt := tYes) hr (by rfl) N.all (by decide +kernel) TB rfl scArr.nd rfl (by decide +kernel) (by rfl)
          (blkOk_by (N := ["count", "value", "one"]) (sc := defScope sArr) (by decide +kernel)) (pi_tup (pv 1)) (fun _ _ _ _ _ _ _ _ => pg_name (i := 2) scArr.nd rfl (Or.inl rfl)) (fun _ _ _ _ _ _ _ _ => pts_nil)
          (fun _ _ _ _ _ _ _ hr' => pe_and (pe_call GL hr' (by rfl) S.gL S.L.kp S.bL .nil pass0 (pa_cons (pv 0) (pa_cons (pv 2) pa_nil))) (pe_one (pe_cmpR op_eq (pe_callB (show CallR _ _ (fun xs H Q => ∃ p ys, xs = [.ref p] ∧ (SqL K H p ys ∨ SqT K H p ys) ∧ Q (.int ys.length) H) from call_len_seq) (by rfl) N.len PySem.boot_len (pa_cons (pv 2) pa_nil)) pe_int (nomark _)))) (fun _ => rfl))
        (pe_one (pe_call GA (hr.mono (by decide)) (by rfl) S.gA S.A.kp S.bA .nil pass0 (pa_cons (pv 1) pa_nil)))))), ?_⟩
    refine ⟨v, rfl, v, tyD d, rfl, dq_ty dq, tyD d, "tuple", rfl, rfl, _, rfl, ite2 (fun c => ?_) (fun c => ?_)⟩
    · have e : isArrD n d = false := by
        cases d with
        | tuple ds => simp [tyD] at c
        | _ => rfl
      have z := q H (Ms.rfl' tb)
      rw [e] at z
      exact z
    · obtain ⟨ds, rfl⟩ : ∃ ds, d = .tuple ds := by
        cases d with
        | tuple ds => exact ⟨ds, rfl⟩
        | _ => simp [tyD] at c
      obtain ⟨a, xs, rfl, ea, za, L⟩ : ∃ a xs, v = .ref a ∧ Rd H a (.tup xs) ∧ ¬ Z a ∧ DqL Z H xs ds := by
        cases dq with
        | tup e z h => exact ⟨_, _, rfl, e, z, h⟩
      have stay : ∀ {J : Hp}, Ms ts H J → Rd J a (.tup xs) := fun ms => rd_kp ms.1 (fun z => za (hZ _ z)) ea
      have no : ∀ {J : Hp}, Ms ts H J → ds.all (fun e => isLotD n e && decide (lenD e = 2)) = false → Q (.bl false) J := fun {J} ms e => by
        have z := q J ms
        rw [show isArrD n (.tuple ds) = (ds.all (fun e => isLotD n e && decide (lenD e = 2)) && ascR (ds.map rowD)) from rfl, e] at z
        exact z
      refine ⟨.ref a, rfl, a, rfl, ⟨xs, .inl ea⟩, tb T hT, fun H2 h2 => ?_⟩
      refine turns_tup (K := K) (a := a) (xs := xs) (fun i J => Ms ts H J ∧ (ds.take i).all (fun e => isLotD n e && decide (lenD e = 2)) = true) ⟨tb.tabbed h2 hT, rfl⟩ (fun i J _ h => .inl (stay h.1)) ?_ ?_
      · rintro i x J hx ⟨ms, hall⟩
        obtain ⟨di, hdi, dqi⟩ := L.get hx
        have dqj : Dq Z J x di := dqi.kp (ms.1.wk hZ)
        have next : (isLotD n di && decide (lenD di = 2)) = true → (ds.take (i + 1)).all (fun e => isLotD n e && decide (lenD e = 2)) = true := fun e => by
          rw [List.take_add_one, hdi, List.all_append, hall]
          simpa using e
        have bad : (isLotD n di && decide (lenD di = 2)) = false → ds.all (fun e => isLotD n e && decide (lenD e = 2)) = false := fun e => by
          rw [List.all_eq_false]
          exact ⟨di, List.mem_of_getElem? hdi, by rw [e]; exact Bool.false_ne_true⟩
        refine ⟨rfl, tyes ?_⟩
        refine ⟨.int n, rfl, x, rfl, n, x, di, Z, rfl, hZ, ms.2, dqj, hl.2 ds rfl di (List.mem_of_getElem? hdi), fun J2 m2 => ⟨_, rfl, ifte (fun c1 => ?_) (fun c1 => ⟨false, rfl, iteF ⟨false, rfl, iteF (no (ms.tr m2) (bad (by rw [c1]; rfl)))⟩⟩)⟩⟩
        have dq2 : Dq Z J2 x di := dqj.kp (m2.1.wk hZ)
        obtain ⟨b, rfl, eb, zb, el⟩ := lot_tup dq2 c1
        refine ⟨.ref b, rfl, b, _, rfl, .inr (.inl eb), rfl, ?_⟩
        have ed : decide (V.int (((rowD di).map V.int).length : Int) = V.int 2) = decide (lenD di = 2) := by
          rw [List.length_map, ← el]
          by_cases z : lenD di = 2
          · rw [z]
            rfl
          · rw [decide_eq_false z, decide_eq_false (fun y => z (by have := V.int.inj y; omega))]
        rw [ed]
        exact ⟨_, rfl, ifte (fun c2 => ⟨ms.tr m2, next (by rw [c1, c2]; rfl)⟩) (fun c2 => ⟨false, rfl, iteF (no (ms.tr m2) (bad (by rw [c2, Bool.and_false])))⟩)⟩
      · rintro J ⟨ms, hall⟩
        rw [L.len, List.take_length] at hall
        refine ⟨true, rfl, iteT ⟨.ref a, rfl, a, xs, fun i => ltT ((ds.map rowD).getD i []) ((ds.map rowD).getD (i + 1) []), rfl, stay ms, by rw [L.len]; exact hl.1, fun i x y h1 h2 => asc_rows (L.kp (ms.1.wk hZ)) hall i x y h1 h2, fun G kG => ?_⟩⟩
        have z := q G (ms.kp kG)
        rw [show isArrD n (.tuple ds) = (ds.all (fun e => isLotD n e && decide (lenD e = 2)) && ascR (ds.map rowD)) from rfl, hall, Bool.true_and] at z
        unfold ascR at z
        rw [show xs.length = (ds.map rowD).length by rw [List.length_map, L.len]]
        exact z
end
end GR

namespace GR
open PySem PySem.Spec PyProof.Rows L2 KL KG
section
variable {P : Program} {w : World} {K : PySem.W.Frag} {mg : Str → Option Value} {base : Heap} {ts : List Addr} {fL fA cL TL : Addr} {fdL fdA : FuncData}
theorem ok_hid {f c T : Addr} {fd : FuncData} (F : FunC K "are_hidden_lots" "are_hidden_lots" sHid f fd c) (TB : GxR.TabB base mg c T) (hT : T ∈ ts) (S : Lo K mg base ts fL fA cL TL fdL fdA) (N : Nm mg) (gM : ∃ t, mg "MOST_HIDDEN_LOTS" = some (.int 28 t)) : FnOk P w K mg base CX0 8 f fd ["count", "value"] (spHid ts) := by
  obtain ⟨tm, gm⟩ := gM
  have GA : FnOk P w K mg base CX0 1 fA fdA ["row"] spAsc := ok_asc S.A N.all N.rng N.len
  have GL : FnOk P w K mg base CX0 4 fL fdL ["count", "value"] (spLot ts) := S.ok N
  refine F.ok (k := 7) scHid (fun vs H Q E h => ?_) (fun A outer s H vs Q E hr h => ?_)
  · obtain ⟨c, v, d, Z, rfl, _⟩ := h
    rfl
  · obtain ⟨n, v, d, Z, rfl, hZ, tb, dq, hl, q⟩ := h
    refine ⟨_, pss_cons (ps_if (PW.pt (pw_or (pt_cmpR op_isNotTy (pe_callTy call_type1 (by rfl) N.typ (by decide +kernel) (pa_cons (pv 1) pa_nil)) (pe_bltn (u := .type "tuple") (by rfl) N.tup (by decide +kernel) (rt "tuple")) (nomark _)) (pw_or1 (pt_cmpR op_gt (pe_callB call_len_seq (by rfl) N.len PySem.boot_len (pa_cons (pv 1) pa_nil)) (pe_glob (by rfl) gm (show RelV (.int 28) (Value.int 28 tm) from ⟨_, rfl⟩)) (nomark _))))) (pss_one (ps_ret pe_bl)) pss_nil)
      (pss_one (ps_ret (pe_and (pe_allG (k := 4) (own := [("one", 2)]) (g := gName 2) (tt := tYes) hr (by rfl) N.all (by decide +kernel) TB rfl scHid.nd rfl (by decide +kernel) (by rfl)
          (blkOk_by (N := ["count", "value", "one"]) (sc := defScope sHid) (by decide +kernel)) (pi_tup (pv 1)) (fun _ _ _ _ _ _ _ _ => pg_name (i := 2) scHid.nd rfl (Or.inl rfl)) (fun _ _ _ _ _ _ _ _ => pts_nil)
          (fun _ _ _ _ _ _ _ hr' => pe_and (pe_call GL hr' (by rfl) S.gL S.L.kp S.bL .nil pass0 (pa_cons (pv 0) (pa_cons (pv 2) pa_nil))) (pe_one (pe_cmpR op_ge (pe_callB (show CallR _ _ (fun xs H Q => ∃ p ys, xs = [.ref p] ∧ (SqL K H p ys ∨ SqT K H p ys) ∧ Q (.int ys.length) H) from call_len_seq) (by rfl) N.len PySem.boot_len (pa_cons (pv 2) pa_nil)) pe_int (nomark _)))) (fun _ => rfl))
        (pe_one (pe_call GA (hr.mono (by decide)) (by rfl) S.gA S.A.kp S.bA .nil pass0 (pa_cons (pv 1) pa_nil)))))), ?_⟩
    refine ⟨v, rfl, v, tyD d, rfl, dq_ty dq, tyD d, "tuple", rfl, rfl, _, rfl, ite2 (fun c => iteT ?_) (fun c => ?_)⟩
    · have e : isHidD n d = false := by
        cases d with
        | tuple ds => simp [tyD] at c
        | _ => rfl
      have z := q H (Ms.rfl' tb)
      rw [e] at z
      exact z
    · obtain ⟨ds, rfl⟩ : ∃ ds, d = .tuple ds := by
        cases d with
        | tuple ds => exact ⟨ds, rfl⟩
        | _ => simp [tyD] at c
      obtain ⟨a, xs, rfl, ea, za, L⟩ : ∃ a xs, v = .ref a ∧ Rd H a (.tup xs) ∧ ¬ Z a ∧ DqL Z H xs ds := by
        cases dq with
        | tup e z h => exact ⟨_, _, rfl, e, z, h⟩
      have whole : isHidD n (.tuple ds) = (decide (ds.length ≤ 28) && (ds.all (fun e => isLotD n e && decide (2 ≤ lenD e)) && ascR (ds.map rowD))) := rfl
      refine ⟨.ref a, rfl, a, xs, rfl, .inr (.inl ea), (xs.length : Int), 28, rfl, rfl, _, rfl, ifte (fun c2 => ?_) (fun c2 => ?_)⟩
      · have z := q H (Ms.rfl' tb)
        have : decide (ds.length ≤ 28) = false := decide_eq_false (by have := of_decide_eq_true c2; rw [L.len] at this; omega)
        rw [whole, this] at z
        exact z
      have few : decide (ds.length ≤ 28) = true := decide_eq_true (by have := of_decide_eq_false c2; rw [L.len] at this; omega)
      have stay : ∀ {J : Hp}, Ms ts H J → Rd J a (.tup xs) := fun ms => rd_kp ms.1 (fun z => za (hZ _ z)) ea
      have no : ∀ {J : Hp}, Ms ts H J → ds.all (fun e => isLotD n e && decide (2 ≤ lenD e)) = false → Q (.bl false) J := fun {J} ms e => by
        have z := q J ms
        rw [whole, few, e] at z
        exact z
      refine ⟨.ref a, rfl, a, rfl, ⟨xs, .inl ea⟩, tb T hT, fun H2 h2 => ?_⟩
      refine turns_tup (K := K) (a := a) (xs := xs) (fun i J => Ms ts H J ∧ (ds.take i).all (fun e => isLotD n e && decide (2 ≤ lenD e)) = true) ⟨tb.tabbed h2 hT, rfl⟩ (fun i J _ h => .inl (stay h.1)) ?_ ?_
      · rintro i x J hx ⟨ms, hall⟩
        obtain ⟨di, hdi, dqi⟩ := L.get hx
        have dqj : Dq Z J x di := dqi.kp (ms.1.wk hZ)
        have next : (isLotD n di && decide (2 ≤ lenD di)) = true → (ds.take (i + 1)).all (fun e => isLotD n e && decide (2 ≤ lenD e)) = true := fun e => by
          rw [List.take_add_one, hdi, List.all_append, hall]
          simpa using e
        have bad : (isLotD n di && decide (2 ≤ lenD di)) = false → ds.all (fun e => isLotD n e && decide (2 ≤ lenD e)) = false := fun e => by
          rw [List.all_eq_false]
          exact ⟨di, List.mem_of_getElem? hdi, by rw [e]; exact Bool.false_ne_true⟩
        refine ⟨rfl, tyes ?_⟩
        refine ⟨.int n, rfl, x, rfl, n, x, di, Z, rfl, hZ, ms.2, dqj, hl.2 ds rfl di (List.mem_of_getElem? hdi), fun J2 m2 => ⟨_, rfl, ifte (fun c1 => ?_) (fun c1 => ⟨false, rfl, iteF ⟨false, rfl, iteF (no (ms.tr m2) (bad (by rw [c1]; rfl)))⟩⟩)⟩⟩
        have dq2 : Dq Z J2 x di := dqj.kp (m2.1.wk hZ)
        obtain ⟨b, rfl, eb, zb, el⟩ := lot_tup dq2 c1
        refine ⟨.ref b, rfl, b, _, rfl, .inr (.inl eb), _, 2, rfl, rfl, ?_⟩
        have ed : decide ((2 : Int) ≤ (((rowD di).map V.int).length : Int)) = decide (2 ≤ lenD di) := by
          rw [List.length_map, ← el]
          by_cases z : 2 ≤ lenD di
          · rw [decide_eq_true z, decide_eq_true (by omega)]
          · rw [decide_eq_false z, decide_eq_false (by omega)]
        show ∃ c, V.bl (decide ((2 : Int) ≤ (((rowD di).map V.int).length : Int))) = .bl c ∧ _
        rw [ed]
        exact ⟨_, rfl, ifte (fun c2 => ⟨ms.tr m2, next (by rw [c1, c2]; rfl)⟩) (fun c2 => ⟨false, rfl, iteF (no (ms.tr m2) (bad (by rw [c2, Bool.and_false])))⟩)⟩
      · rintro J ⟨ms, hall⟩
        rw [L.len, List.take_length] at hall
        refine ⟨true, rfl, iteT ⟨.ref a, rfl, a, xs, fun i => ltT ((ds.map rowD).getD i []) ((ds.map rowD).getD (i + 1) []), rfl, stay ms, by rw [L.len]; exact hl.1, fun i x y h1 h2 => asc_rows (L.kp (ms.1.wk hZ)) hall i x y h1 h2, fun G kG => ?_⟩⟩
        have z := q G (ms.kp kG)
        rw [whole, few, hall, Bool.true_and, Bool.true_and] at z
        unfold ascR at z
        rw [show xs.length = (ds.map rowD).length by rw [List.length_map, L.len]]
        exact z
end
end GR

namespace KG
open PySem PySem.Spec PyProof.Rows L2 KL
/-- the turns over a text -/
theorem turns_str {z : Str} {g : TG} {tt : TT} {te : TE} {vs : List Nat} {σ : L2.St} {H1 : Hp} {QT : Hp → Prop} {Yp : V → Hp → (Hp → Prop) → Prop} (Pv : Nat → Hp → Prop) (h0 : Pv 0 H1)
    (hs : ∀ i c H, z.cps.toList[i]? = some c → Pv i H → g (.str ⟨#[c]⟩) (wipe σ vs) H fun σ2 H2 => wipe σ2 vs = wipe σ vs ∧ tt σ2 H2 fun b H3 => if b = true then te σ2 H3 fun y H4 => Yp y H4 (Pv (i + 1)) else Pv (i + 1) H3) (hd : ∀ H, Pv z.cps.toList.length H → QT H) :
    ∃ W : Nat → Nat → Hp → Prop, (∃ m, W 0 m H1) ∧ Turns (Its z) g tt te vs σ QT Yp W := by
  have sz : z.cps.toList.length = z.cps.size := by simp
  refine ⟨fun i m H => m = z.cps.size - i ∧ i ≤ z.cps.size ∧ Pv i H, ⟨z.cps.size, rfl, Nat.zero_le _, h0⟩, ?_⟩
  rintro i m H ⟨rfl, hi, p⟩
  by_cases hlt : i < z.cps.size
  · refine .inr ⟨hlt, Pv (i + 1), fun H' p' => ⟨z.cps.size - (i + 1), by omega, rfl, hlt, p'⟩, fun x H' y => ?_⟩
    obtain ⟨e, c, hc, rfl⟩ := y
    subst e
    exact hs i c _ (by rw [Array.getElem?_toList]; exact hc) p
  · have e : i = z.cps.size := by omega
    subst e
    exact .inl ⟨Nat.le_refl _, hd H (by rw [sz]; exact p)⟩
end KG
namespace GR
open PySem PySem.Spec PyProof.Rows L2 KL KG
def lettersS : Str := "abcdefghijklmnopqrstuvwxyz"
def figuresS : Str := "0123456789"
def wordsL : List Str := ["names", "arrows", "hidden", "sizes", "lot", "table", "told", "sum", "on"]
def letterC (c : Nat) : Bool := decide (c ∈ lettersS.cps.toList)
def figureC (c : Nat) : Bool := decide (c ∈ figuresS.cps.toList)
/-- what the module keeps -/
structure Cn (K : PySem.W.Frag) (mg : Str → Option Value) : Prop where
  lt : ∃ t, mg "LETTERS" = some (.str lettersS t)
  fg : ∃ t, mg "FIGURES" = some (.str figuresS t)
  wd : ∃ a, mg "WORDS" = some (.ref a) ∧ ∀ H, SqT K H a (wordsL.map V.str)
  sg : ∃ t, mg "MOST_SIGNS" = some (.int 8 t)
  vr : ∃ t, mg "MOST_VARIABLES" = some (.int 8 t)
  hd : ∃ t, mg "MOST_HIDDEN_LOTS" = some (.int 28 t)
def firstOk (x : Str) : Bool := match x.cps.toList[0]? with
  | some c => letterC c
  | none => false
def isNameD : PyData → Bool
  | .str x => !inV (.str x) (wordsL.map V.str) && ((decide (1 ≤ x.length) && decide (x.length ≤ 8)) && (firstOk x && x.cps.toList.all (fun c => letterC c || figureC c)))
  | _ => false
abbrev sName : Stmt := topS 15
theorem scName : FnScope ["value", "sign"] ["value"] (defScope sName) := ⟨rfl, rfl, rfl, by decide +kernel, rfl, by decide +kernel, by decide +kernel⟩
def spName (ts : List Addr) : Sp := fun vs H Q _ => ∃ (v : V) (d : PyData) (Z : Addr → Prop), vs = [v] ∧ (∀ b ∈ ts, Z b) ∧ Tb ts H ∧ Dq Z H v d ∧ LenOk d ∧ ∀ G, Ms ts H G → Q (.bl (isNameD d)) G
theorem words_flat : (wordsL.map V.str).all flatV = true := by rfl
section
variable {P : Program} {w : World} {K : PySem.W.Frag} {mg : Str → Option Value} {base : Heap} {ts : List Addr}
theorem ok_name {f c T : Addr} {fd : FuncData} (F : FunC K "is_name" "is_name" sName f fd c) (TB : GxR.TabB base mg c T) (hT : T ∈ ts) (N : Nm mg) (C : Cn K mg) : FnOk P w K mg base CX0 4 f fd ["value"] (spName ts) := by
  obtain ⟨tl, gl⟩ := C.lt
  obtain ⟨tf, gf⟩ := C.fg
  obtain ⟨aw, gw, sw⟩ := C.wd
  obtain ⟨tg, gs⟩ := C.sg
  have rl : RelV (.str lettersS) (Value.str lettersS tl) := ⟨_, rfl⟩
  have rf : RelV (.str figuresS) (Value.str figuresS tf) := ⟨_, rfl⟩
  have rs : RelV (.int 8) (Value.int 8 tg) := ⟨_, rfl⟩
  have rw' : RelV (.ref aw) (Value.ref aw) := rfl
  refine F.ok (k := 3) scName (fun vs H Q E h => ?_) (fun A outer s H vs Q E hr h => ?_)
  · obtain ⟨v, d, Z, rfl, _⟩ := h
    rfl
  · obtain ⟨v, d, Z, rfl, hZ, tb, dq, hl, q⟩ := h
    refine ⟨_, pss_cons (ps_if (PW.pt (pw_or (pt_cmpR op_isNotTy (pe_callTy call_type1 (by rfl) N.typ (by decide +kernel) (pa_cons (pv 0) pa_nil)) (pe_bltn (u := .type "str") (by rfl) N.str (by decide +kernel) (rt "str")) (nomark _))
          (pw_or (pt_cmpR op_in_seq (pv 0) (pe_glob (by rfl) gw rw') (by with_unfolding_all rfl)) (pw_or1 (pt_not (pt_chain op_le op_le pe_int (pe_callB call_len_str (by rfl) N.len PySem.boot_len (pa_cons (pv 0) pa_nil)) (pe_glob (by rfl) gs rs))))))) (pss_one (ps_ret pe_bl)) pss_nil)
      (pss_one (ps_ret (pe_and (pe_cmpR op_in_sign (pe_ix ix_str (pv 0) pe_int (fun _ _ => rfl)) (pe_glob (by rfl) gl rl) (by with_unfolding_all rfl))
        (pe_one (pe_allG (k := 0) (own := [("sign", 1)]) (g := gName 1) (tt := tYes) hr (by rfl) N.all (by decide +kernel) TB rfl scName.nd rfl (by decide +kernel) (by rfl)
          (blkOk_by (N := ["value", "sign"]) (sc := defScope sName) (by decide +kernel)) (pi_str (pv 0)) (fun _ _ _ _ _ _ _ _ => pg_name (i := 1) scName.nd rfl (Or.inl rfl)) (fun _ _ _ _ _ _ _ _ => pts_nil)
          (fun _ _ _ _ _ _ _ _ => pe_or (pe_cmpR op_in_sign (pv 1) (pe_glob (by rfl) gl rl) (by with_unfolding_all rfl)) (pe_one (pe_cmpR op_in_sign (pv 1) (pe_glob (by rfl) gf rf) (by with_unfolding_all rfl)))) (fun _ => rfl)))))), ?_⟩
    refine ⟨v, rfl, v, tyD d, rfl, dq_ty dq, tyD d, "str", rfl, rfl, _, rfl, ite2 (fun c => iteT ?_) (fun c => ?_)⟩
    · have e : isNameD d = false := by
        cases d with
        | str x => simp [tyD] at c
        | _ => rfl
      have z := q H (Ms.rfl' tb)
      rw [e] at z
      exact z
    · obtain ⟨x, rfl⟩ : ∃ x, d = .str x := by
        cases d with
        | str x => exact ⟨x, rfl⟩
        | _ => simp [tyD] at c
      cases dq
      have whole : isNameD (.str x) = (!inV (.str x) (wordsL.map V.str) && ((decide (1 ≤ x.length) && decide (x.length ≤ 8)) && (firstOk x && x.cps.toList.all (fun c => letterC c || figureC c)))) := rfl
      have no : ∀ {J : Hp}, Ms ts H J → isNameD (.str x) = false → Q (.bl false) J := fun {J} ms e => by
        have z := q J ms
        rw [e] at z
        exact z
      refine ⟨.str x, rfl, aw, wordsL.map V.str, rfl, .inr (sw H), rfl, words_flat, _, rfl, ifte (fun c2 => iteT ?_) (fun c2 => ?_)⟩
      · refine no (Ms.rfl' tb) ?_
        rw [whole]
        have z : inV (.str x) (wordsL.map V.str) = true := c2
        rw [z]
        rfl
      have nw : inV (.str x) (wordsL.map V.str) = false := c2
      have hx : x.length ≤ sizeLine := by
        have : x.length ≤ 1000000 := hl
        rw [sizeLine_eq]
        omega
      refine ⟨.str x, rfl, x, rfl, hx, 1, (x.length : Int), rfl, rfl, _, rfl, ifte (fun c3 => ⟨(x.length : Int), 8, rfl, rfl, _, rfl, ?_⟩) (fun c3 => ⟨_, rfl, ?_⟩)⟩
      rotate_left
      · refine iteT (no (Ms.rfl' tb) ?_)
        have z : decide (1 ≤ x.length) = false := decide_eq_false (by have := of_decide_eq_false c3; omega)
        rw [whole, z, Bool.false_and, Bool.false_and, Bool.and_false]
      have l1 : decide (1 ≤ x.length) = true := decide_eq_true (by have := of_decide_eq_true c3; omega)
      by_cases l2 : x.length ≤ 8
      rotate_left
      · have e8 : decide ((x.length : Int) ≤ 8) = false := decide_eq_false (by omega)
        rw [e8]
        refine iteT (no (Ms.rfl' tb) ?_)
        rw [whole, decide_eq_false l2, Bool.and_false, Bool.false_and, Bool.and_false]
      have e8 : decide ((x.length : Int) ≤ 8) = true := decide_eq_true (by omega)
      rw [e8]
      refine iteF ?_
      have h0 : 0 < x.cps.toList.length := by
        have : 1 ≤ x.length := of_decide_eq_true l1
        have e : x.cps.toList.length = x.length := by simp; rfl
        omega
      have hc : x.cps.toList[0]? = some x.cps.toList[0] := List.getElem?_eq_getElem h0
      have f0 : firstOk x = letterC x.cps.toList[0] := by
        unfold firstOk
        rw [hc]
      have rest : isNameD (.str x) = (firstOk x && x.cps.toList.all (fun c => letterC c || figureC c)) := by
        rw [whole, nw, l1, decide_eq_true l2]
        rfl
      refine ⟨.str x, rfl, x, 0, x.cps.toList[0], rfl, rfl, hx, atI_nat (j := 0) hc, x.cps.toList[0], lettersS, rfl, rfl, _, rfl, ifte (fun c4 => ?_) (fun c4 => ?_)⟩
      rotate_left
      · refine no (Ms.rfl' tb) ?_
        have z : letterC x.cps.toList[0] = false := c4
        rw [rest, f0, z, Bool.false_and]
      have z4 : letterC x.cps.toList[0] = true := c4
      refine ⟨.str x, rfl, x, rfl, tb T hT, fun H2 h2 => ?_⟩
      refine turns_str (z := x) (fun i J => Ms ts H J ∧ (x.cps.toList.take i).all (fun c => letterC c || figureC c) = true) ⟨tb.tabbed h2 hT, rfl⟩ ?_ ?_
      · rintro i cc J hcc ⟨ms, hall⟩
        have next : (letterC cc || figureC cc) = true → (x.cps.toList.take (i + 1)).all (fun c => letterC c || figureC c) = true := fun e => by
          rw [List.take_add_one, hcc, List.all_append, hall]
          simpa using e
        refine ⟨rfl, tyes ?_⟩
        refine ⟨.str ⟨#[cc]⟩, rfl, cc, lettersS, rfl, rfl, _, rfl, ifte (fun c5 => ⟨true, rfl, iteT ⟨ms, next ?_⟩⟩) (fun c5 => ⟨.str ⟨#[cc]⟩, rfl, cc, figuresS, rfl, rfl, _, rfl, ifte (fun c6 => ⟨ms, next ?_⟩) (fun c6 => no ms ?_)⟩)⟩
        · have z : letterC cc = true := c5
          rw [z]
          rfl
        · have z : figureC cc = true := c6
          rw [z, Bool.or_true]
        · have y1 : letterC cc = false := c5
          have y2 : figureC cc = false := c6
          have z : x.cps.toList.all (fun c => letterC c || figureC c) = false := by
            rw [List.all_eq_false]
            exact ⟨cc, List.mem_of_getElem? hcc, by rw [y1, y2]; exact Bool.false_ne_true⟩
          rw [rest, z, Bool.and_false]
      · rintro J ⟨ms, hall⟩
        rw [List.take_length] at hall
        have z := q J ms
        rw [rest, f0, z4, hall] at z
        exact z
end
end GR

/-! Own layer: how many unlike texts a tuple has: len(set(t)). -/
namespace KS
open PySem PySem.Spec PyProof.Rows L2
/-- how many unlike ones stand among the first i -/
def dcT (ws : List Str) : Nat → Nat
  | 0 => 0
  | i + 1 => match ws[i]? with
    | some x => if x ∈ ws.take i then dcT ws i else dcT ws i + 1
    | none => dcT ws i
theorem dcT_le (ws : List Str) : ∀ i, dcT ws i ≤ i
  | 0 => Nat.le_refl _
  | i + 1 => by
    have := dcT_le ws i
    unfold dcT
    split
    · split <;> omega
    · omega
theorem dcT_eq {ws : List Str} : ∀ {i : Nat}, i ≤ ws.length → (dcT ws i = i ↔ (ws.take i).Nodup)
  | 0, _ => by simp [dcT]
  | i + 1, h => by
    have hx : ws[i]? = some ws[i] := List.getElem?_eq_getElem (by omega)
    have ih := dcT_eq (ws := ws) (i := i) (by omega)
    have le := dcT_le ws i
    have nd : (ws.take (i + 1)).Nodup ↔ (ws.take i).Nodup ∧ ws[i] ∉ ws.take i := by
      rw [List.take_add_one, hx]
      simp only [Option.toList_some]
      rw [List.nodup_append]
      constructor
      · intro ⟨a, _, c⟩
        exact ⟨a, fun m => c _ m _ (List.mem_singleton.mpr rfl) rfl⟩
      · intro ⟨a, c⟩
        refine ⟨a, by simp, fun x hx y hy e => ?_⟩
        rw [List.mem_singleton] at hy
        rw [e, hy] at hx
        exact c hx
    have e : dcT ws (i + 1) = if ws[i] ∈ ws.take i then dcT ws i else dcT ws i + 1 := by
      show (match ws[i]? with
        | some x => if x ∈ ws.take i then dcT ws i else dcT ws i + 1
        | none => dcT ws i) = _
      rw [hx]
    rw [nd, ← ih, e]
    by_cases c : ws[i] ∈ ws.take i
    · simp only [c, if_true, not_true_eq_false, and_false, iff_false]
      omega
    · simp only [c, if_false, not_false_eq_true, and_true]
      omega
section
variable {P : Program} {w : World} {A : Around} {E : Value → Shared → Prop}
theorem texts_loop {I : Addr} {fp wr : List Addr} {G : Array GenState → Array GenState → Prop} {n : Nat} {Pv : Nat → Value → Prop} {St : Nat → Shared → Prop} {R : Result → Shared → Prop} (W : WalksS P w A.in1 I fp wr G n Pv St) {D : Addr} (hD : D ∉ fp) {ws : List Str} (hn : n = ws.length) (hb : ws.length < 1000)
    (hv : ∀ i v, Pv i v → ∃ x t, ws[i]? = some x ∧ v = .str x t) :
    ∀ (k i : Nat) (s : Shared), n - i = k → i ≤ n → St i s → s.heap.SetOf (strKind P w) D (fun x => decide (x ∈ ws.take i)) (dcT ws i) →
      (∀ s', Moved (D :: wr) G s s' → s'.heap.SetOf (strKind P w) D (fun x => decide (x ∈ ws)) (dcT ws ws.length) → R (.ok (.ret .none)) s') → codeAny (model P w) A (.builtin "set.update.loop" ⟨[.ref D, .ref I], []⟩) R s := by
  have nw : D ∉ wr := fun z => hD (W.sub _ z)
  have more : ∀ b ∈ wr, b ∈ D :: wr := fun b z => List.mem_cons_of_mem _ z
  have still : ∀ {h h' : Heap} {S : Str → Bool} {c : Nat}, h.SetOf (strKind P w) D S c → (∀ o, h.get? D = some o → h'.get? D = some o) → h'.SetOf (strKind P w) D S c := fun ⟨o, es, ep, t, e, r⟩ k => ⟨o, es, ep, t, k o e, r⟩
  intro k
  induction k with
  | zero =>
    intro i s hk hi st hS out
    obtain rfl : i = n := by omega
    refine codeAny_builtin F.entry_set_update_loop ?_
    rw [Around.under_plainId F.plain_set_update_loop _]
    show wpAny _ A.in1 (pyNext (.ref I) >>= _) _ _ s
    refine wpAny_bind (W.done s _ _ st fun s' mv => ?_)
    show wpAny _ A.in1 (ret Value.none) _ _ s'
    refine wpAny_pure (out s' (mv.mono more) ?_)
    rw [hn, List.take_length] at hS
    exact still hS fun o e => mv.heap D o nw e
  | succ k ih =>
    intro i s hk hi st hS out
    have lt : i < n := by omega
    refine codeAny_builtin F.entry_set_update_loop ?_
    rw [Around.under_plainId F.plain_set_update_loop _]
    show wpAny _ A.in1 (pyNext (.ref I) >>= _) _ _ s
    refine wpAny_bind (W.item i s _ _ lt st fun v s1 hP st1 mv => ?_)
    obtain ⟨x, t, hx, rfl⟩ := hv i v hP
    have hS1 := still hS fun o e => mv.heap D o nw e
    show wpAny _ A.in1 (holding [Value.str x t] (setAdd D (.str x t)) >>= _) _ _ s1
    refine wpAny_bind (wpAny_holding ?_)
    unfold setAdd
    refine wpAny_holding (wpAny_bind ((strKind P w).pyHash (k := x) (strKind_is _ _ _ _) ?_))
    have le := dcT_le ws i
    refine wpAny_setAddHashed_of (knd := strKind P w) (s := { s1 with toks := s1.toks + 1 }) (strKind_is _ _ _ _) rfl hS1 (by unfold scanBound; omega) fun h' sb hS2 => ?_
    have hS3 : h'.SetOf (strKind P w) D (fun y => decide (y ∈ ws.take (i + 1))) (dcT ws (i + 1)) := SetOf_congr hS2 (fun y => by
      rw [List.take_add_one, hx]
      simp [List.mem_append]) (by
      show (if decide (x ∈ ws.take i) = true then dcT ws i else dcT ws i + 1) = dcT ws (i + 1)
      conv => rhs; unfold dcT
      rw [hx]
      by_cases c : x ∈ ws.take i
      · simp [c]
      · simp [c])
    refine wpAny_pure ⟨plainId_quiet F.plain_set_update_loop _, ih (i + 1) _ (by omega) lt (W.frame _ s1 _ _ st1 (Nat.le_succ _) fun b hb o e => ?_) hS3 fun s2 mv2 hS4 => ?_⟩
    · exact (sb.2 b fun z => hD (z ▸ hb)).trans e
    · refine out s2 (Moved.trans W.gtrans ((mv.mono more).then_heap (Nat.le_succ _) fun b o hb e => ?_) mv2) hS4
      exact (sb.2 b fun z => hb (z ▸ List.mem_cons_self)).trans e
theorem strs_at : ∀ {vs : List Value} {ws : List Str}, StrsAre vs ws → ∀ (i : Nat) (v : Value), vs[i]? = some v → ∃ x, ws[i]? = some x ∧ ∃ t, v = .str x t
  | _, _, .nil, _, _, e => by cases e
  | _, _, .cons y t r, 0, v, e => ⟨y, rfl, t, (Option.some.inj e).symm⟩
  | _, _, .cons y t r, i + 1, v, e => strs_at r i v e
/-- set(t), t a tuple of texts -/
theorem call_set_texts {l : Addr} {its : Array Value} {ws : List Str} {s : Shared} {Q : Value → Shared → Prop} (hh : A.handled = none) (hl : s.heap.IsTuple l its) (hi : StrsAre its.toList ws) (hb : ws.length < 1000)
    (h : ∀ (h' : Heap) (tk : Nat), h'.SetOf (strKind P w) s.heap.objs.size (fun x => decide (x ∈ ws)) (dcT ws ws.length) → (∀ b o, s.heap.get? b = some o → h'.get? b = some o) → Q (.ref s.heap.objs.size) { s with heap := h', toks := tk }) :
    wpAny (model P w) A (call (.type "set") [.ref l]) Q E s := by
  have hz : its.size = ws.length := by
    have z := hi.length
    rwa [Array.length_toList] at z
  obtain ⟨m1, m2, chain⟩ := F.called_set.mro
  have own1 := F.called_set.made
  have own2 := F.called_set.sub
  have own3 := F.called_set.notType
  have own4 := F.called_set.canCreate
  have own5 := F.typeCall_set_1 (.ref l)
  refine wpAny_call (codeAny_of_tree ?_)
  show wpAny _ _ (callAny (.type "set") _) _ _ _
  refine wpAny_pure ⟨Code.quiet_builtin _ (by decide +kernel), codeAny_builtin F.entry_type_call ?_⟩
  rw [Around.under_plain (weight_type_call_type "set" [.ref l] []) rfl]
  repeat (any_goals (first | assumption | wp_step))
  refine codeAny_mono (code_set_new_1 (.ref l) (E := E) (Q₁ := fun obj s₁ => ∃ led : Bool, obj = .ref s.heap.objs.size ∧ s₁ = { s with heap := s.heap.push { cls := .type "set", dict := none, data := .set #[] 0 (.fresh 0 0 led) } }) fun led => ⟨led, rfl, rfl⟩) fun res st hst => ?_
  cases res with
  | error e => exact hst
  | ok fl =>
  cases fl with
  | next => exact hst.elim
  | brk => exact hst.elim
  | cont => exact hst.elim
  | ret obj =>
  obtain ⟨led, rfl, rfl⟩ := hst
  have hS := Heap.get?_push_size s.heap (o := { cls := .type "set", dict := none, data := .set #[] 0 (.fresh 0 0 led) }) rfl
  have ty : Shared.TypeIs { s with heap := s.heap.push { cls := .type "set", dict := none, data := .set #[] 0 (.fresh 0 0 led) } } (.ref s.heap.objs.size) "set" := ⟨_, hS, rfl⟩
  have own6 := F.called_set.init.lookup
  have own7 := F.called_set.init.bind (.ref s.heap.objs.size)
  repeat (any_goals (first | assumption | wp_step))
  refine codeAny_mono (codeAny_call_builtin (R := wants (fun r st => r = .none ∧ ∃ h' tk, st = { s with heap := h', toks := tk } ∧ h'.SetOf (strKind P w) s.heap.objs.size (fun x => decide (x ∈ ws)) (dcT ws ws.length) ∧ ∀ b o, s.heap.get? b = some o → h'.get? b = some o) E) F.called_set.init.plain F.entry_set_init (check_set_init_1 ty ?_)) fun res st hst => ?_
  · skip
    have hlt : l < s.heap.objs.size := let ⟨_, e, _⟩ := hl; Heap.lt_size e
    have tup : (s.heap.push { cls := .type "set", dict := none, data := .set #[] 0 (.fresh 0 0 led) }).IsTuple l its := hl.push _
    obtain ⟨⟨tc, td, tdat, tsl⟩, g1, g2, tn, g3⟩ := id tup
    simp only at g2 g3
    subst g2 g3
    have no1 := F.sub_tuple_set
    have no2 := F.sub_tuple_frozenset
    have no3 : (Value.type "tuple" == Value.type "dict") = false := by decide
    unfold Builtin.«set.__init__» noKeywords Builtin.Frozenset.updateFrom
    generalize walkTo : pyIter = go
    wp_walk
    subst walkTo
    refine wpAny_pyIter_tuple tup ?_
    refine wpAny_bind (wpAny_runValue ?_)
    have sz := Heap.size_push s.heap { cls := .type "set", dict := none, data := .set #[] 0 (.fresh 0 0 led) }
    have apart : l ≠ (s.heap.push { cls := .type "set", dict := none, data := .set #[] 0 (.fresh 0 0 led) }).objs.size := by
      rw [sz]
      exact Nat.ne_of_lt (Nat.lt_succ_of_lt hlt)
    have free : s.heap.objs.size ∉ [(s.heap.push { cls := .type "set", dict := none, data := .set #[] 0 (.fresh 0 0 led) }).objs.size, l] := fun m => by
      rcases List.mem_cons.mp m with z | z
      · rw [sz] at z
        exact Nat.ne_of_lt (Nat.lt_succ_self _) z
      · exact Nat.ne_of_gt hlt (List.mem_singleton.mp z)
    have text : ∀ (i : Nat) (v : Value), its[i]? = some v → ∃ x t, ws[i]? = some x ∧ v = .str x t := fun i v e => by
      obtain ⟨x, hx, t, ht⟩ := strs_at hi i v (by rw [Array.getElem?_toList]; exact e)
      exact ⟨x, t, hx, ht⟩
    refine texts_loop ((Walks.tuple (show A.in1.in1.in1.handled = none from hh) _ l apart its).toS) free hz hb text (its.size - 0) 0 _ (Nat.sub_zero _) (Nat.zero_le _) ⟨⟨_, Heap.get?_push_size _ rfl, rfl, rfl⟩, tup.push _⟩ ?_ fun s' mv hS' => ?_
    · exact SetOf_congr ((setObjOf_fresh (knd := strKind P w) led).setOf (Heap.get?_push_of_some _ hS) (by unfold scanBound; omega)) (fun x => by simp) rfl
    · obtain ⟨h', g2, d', tk', os'⟩ := s'
      have e1 : g2 = s.gens := mv.gens
      have e2 : d' = s.drawn := mv.drawn
      have e3 : os' = s.os := mv.os
      subst e1 e2 e3
      refine wpAny_pure (wpAny_pure ⟨rfl, h', tk', rfl, hS', fun b o e => ?_⟩)
      have lt := Heap.lt_size e
      refine mv.heap b o (fun m => ?_) (Heap.get?_push_of_some _ (Heap.get?_push_of_some _ e))
      rcases List.mem_cons.mp m with z | z
      · exact Nat.ne_of_lt lt z
      · rw [List.mem_singleton, sz] at z
        exact Nat.ne_of_lt (Nat.lt_succ_of_lt lt) z

  · cases res with
    | error e => exact hst
    | ok fl =>
    cases fl with
    | next => exact hst.elim
    | brk => exact hst.elim
    | cont => exact hst.elim
    | ret r =>
    obtain ⟨rfl, h', tk, rfl, hS', kp⟩ := hst
    repeat (any_goals (first | assumption | wp_step))
    exact h h' tk hS' kp
end
end KS

namespace KS
open PySem PySem.Spec PyProof.Rows L2
/-- len(set(t)), t a tuple of texts: how many unlike ones it has -/
def tLenSetT (K : PySem.W.Frag) (ta : TE) : TE := fun σ H Q => ta σ H fun x H1 => ∃ (l : Addr) (ws : List Str), x = .ref l ∧ SqT K H1 l (ws.map V.str) ∧ ws.length < 1000 ∧ Q (.int (dcT ws ws.length : Nat)) H1
theorem pe_lenSetT {X : Cx} {a : Expr} {ta : TE} {p p2 q pos : Pos} (hc : X.calm = true) (hg : Gl X "len") (hm : X.mg "len" = none) (hg2 : Gl X "set") (hm2 : X.mg "set" = none) (ha : PE X a ta)
    (one : starEach [a] X.env = (false, eval a X.env) :: starEach [] X.env := by rfl) : PE X (.Call (.Name "len" p) [.Call (.Name "set" p2) [a] [] q] [] pos) (tLenSetT X.K ta) := by
  refine ⟨fun pins s σ H Q I h => Call_ (ld_blt I hg hm PySem.boot_len (PyProof.Rows.callWith_builtin1 (PyProof.Rows.args_cons (Call_ (ld_blt I hg2 hm2 boot_set (PyProof.Rows.callWith_type1 (PyProof.Rows.args_cons (thn (ha.run pins s σ H _ I h) fun v s1 z => PyProof.Rows.args_nil ?_) one) one rfl))) rfl) rfl rfl))⟩
  obtain ⟨x, H1, I1, rx, l, ws, rfl, hq, hb, hQ⟩ := z
  cases rx
  obtain ⟨its, rv, pl, hz⟩ := I1.tuple hq
  have hl : its.length = ws.length := by rw [← rv.length, List.length_map]
  refine call_set_texts (I1.ok.hd hc) pl (ws := ws) (by simpa using strsAre_of rv) hb fun h' tk ⟨o, es, ep, t, e1, e2, e3, _, _, _, e4, e5⟩ kp => PyProof.Rows.args_nil ?_
  have I2 : Inv X pins σ H1 { s1 with heap := h', toks := tk } := I1.kept kp
  have le := dcT_le ws ws.length
  exact call_len_set e1 e2 e3 e4 (by rw [e5]; omega) ⟨.int (dcT ws ws.length : Nat), H1, I2.tok _, ⟨_, by rw [e5]⟩, hQ⟩
end KS

namespace GR
open PySem PySem.Spec PyProof.Rows L2 KL KG KS
abbrev sNames : Stmt := topS 18
abbrev sGraph : Stmt := topS 12
theorem scNames : FnScope ["value", "one"] ["value"] (defScope sNames) := ⟨rfl, rfl, rfl, by decide +kernel, rfl, by decide +kernel, by decide +kernel⟩
theorem scGraph : FnScope ["value", "names", "arrows", "lots"] ["value"] (defScope sGraph) := ⟨rfl, rfl, rfl, by decide +kernel, rfl, by decide +kernel, by decide +kernel⟩
def valS : PyData → Str
  | .str x => x
  | _ => ""
def isNamesD : PyData → Bool
  | .tuple ds => (decide (1 ≤ ds.length) && decide (ds.length ≤ 8)) && (ds.all isNameD && decide ((ds.map valS).Nodup))
  | _ => false
def isGraphD : PyData → Bool
  | .tuple [n, a, l] => isNamesD n && (isArrD (lenD n : Int) a && isHidD (lenD n : Int) l)
  | _ => false
theorem dql_str {Z : Addr → Prop} {H : Hp} : ∀ {xs : List V} {ds : List PyData}, DqL Z H xs ds → ds.all isNameD = true → xs = (ds.map valS).map V.str
  | _, _, .nil, _ => rfl
  | _, _, .cons h t, e => by
    rw [List.all_cons, Bool.and_eq_true] at e
    have r := dql_str t e.2
    cases h with
    | str x => rw [r]; rfl
    | _ => exact absurd e.1 Bool.false_ne_true
def spNames (ts : List Addr) : Sp := fun vs H Q _ => ∃ (v : V) (d : PyData) (Z : Addr → Prop), vs = [v] ∧ (∀ b ∈ ts, Z b) ∧ Tb ts H ∧ Dq Z H v d ∧ LenD 1 d ∧ ∀ G, Ms ts H G → Q (.bl (isNamesD d)) G
def spGraph (ts : List Addr) : Sp := fun vs H Q _ => ∃ (v : V) (d : PyData) (Z : Addr → Prop), vs = [v] ∧ (∀ b ∈ ts, Z b) ∧ Tb ts H ∧ Dq Z H v d ∧ LenD 2 d ∧ ∀ G, Ms ts H G → Q (.bl (isGraphD d)) G
section
variable {P : Program} {w : World} {K : PySem.W.Frag} {mg : Str → Option Value} {base : Heap} {ts : List Addr}
theorem ok_names {f c T fN cN TN : Addr} {fd fdN : FuncData} (F : FunC K "are_names" "are_names" sNames f fd c) (TB : GxR.TabB base mg c T) (hT : T ∈ ts) (FN : FunC K "is_name" "is_name" sName fN fdN cN) (TBN : GxR.TabB base mg cN TN) (hTN : TN ∈ ts) (gN : mg "is_name" = some (.ref fN)) (bN : L2.Binds K fdN ["value"] [])
    (N : Nm mg) (C : Cn K mg) : FnOk P w K mg base CX0 8 f fd ["value"] (spNames ts) := by
  have GN : FnOk P w K mg base CX0 4 fN fdN ["value"] (spName ts) := ok_name FN TBN hTN N C
  obtain ⟨tv, gv⟩ := C.vr
  have rv8 : RelV (.int 8) (Value.int 8 tv) := ⟨_, rfl⟩
  refine F.ok (k := 7) scNames (fun vs H Q E h => ?_) (fun A outer s H vs Q E hr h => ?_)
  · obtain ⟨v, d, Z, rfl, _⟩ := h
    rfl
  · obtain ⟨v, d, Z, rfl, hZ, tb, dq, hl, q⟩ := h
    refine ⟨_, pss_cons (ps_if (PW.pt (pw_or (pt_cmpR op_isNotTy (pe_callTy call_type1 (by rfl) N.typ (by decide +kernel) (pa_cons (pv 0) pa_nil)) (pe_bltn (u := .type "tuple") (by rfl) N.tup (by decide +kernel) (rt "tuple")) (nomark _))
          (pw_or1 (pt_not (pt_chain op_le op_le pe_int (pe_callB call_len_seq (by rfl) N.len PySem.boot_len (pa_cons (pv 0) pa_nil)) (pe_glob (by rfl) gv rv8)))))) (pss_one (ps_ret pe_bl)) pss_nil)
      (pss_one (ps_ret (pe_and (pe_allG (k := 4) (own := [("one", 1)]) (g := gName 1) (tt := tYes) hr (by rfl) N.all (by decide +kernel) TB rfl scNames.nd rfl (by decide +kernel) (by rfl)
          (blkOk_by (N := ["value", "one"]) (sc := defScope sNames) (by decide +kernel)) (pi_tup (pv 0)) (fun _ _ _ _ _ _ _ _ => pg_name (i := 1) scNames.nd rfl (Or.inl rfl)) (fun _ _ _ _ _ _ _ _ => pts_nil)
          (fun _ _ _ _ _ _ _ hr' => pe_call GN hr' (by rfl) gN FN.kp bN .nil pass0 (pa_cons (pv 1) pa_nil)) (fun _ => rfl))
        (pe_one (pe_cmpR op_eq (pe_lenSetT rfl (by rfl) N.len (by rfl) N.set (pv 0)) (pe_callB call_len_seq (by rfl) N.len PySem.boot_len (pa_cons (pv 0) pa_nil)) (nomark _)))))), ?_⟩
    refine ⟨v, rfl, v, tyD d, rfl, dq_ty dq, tyD d, "tuple", rfl, rfl, _, rfl, ite2 (fun c => iteT ?_) (fun c => ?_)⟩
    · have e : isNamesD d = false := by
        cases d with
        | tuple ds => simp [tyD] at c
        | _ => rfl
      have z := q H (Ms.rfl' tb)
      rw [e] at z
      exact z
    · obtain ⟨ds, rfl⟩ : ∃ ds, d = .tuple ds := by
        cases d with
        | tuple ds => exact ⟨ds, rfl⟩
        | _ => simp [tyD] at c
      obtain ⟨a, xs, rfl, ea, za, L⟩ : ∃ a xs, v = .ref a ∧ Rd H a (.tup xs) ∧ ¬ Z a ∧ DqL Z H xs ds := by
        cases dq with
        | tup e z h => exact ⟨_, _, rfl, e, z, h⟩
      have len := L.len
      have whole : isNamesD (.tuple ds) = ((decide (1 ≤ ds.length) && decide (ds.length ≤ 8)) && (ds.all isNameD && decide ((ds.map valS).Nodup))) := rfl
      have stay : ∀ {J : Hp}, Ms ts H J → Rd J a (.tup xs) := fun ms => rd_kp ms.1 (fun z => za (hZ _ z)) ea
      have no : ∀ {J : Hp}, Ms ts H J → isNamesD (.tuple ds) = false → Q (.bl false) J := fun {J} ms e => by
        have z := q J ms
        rw [e] at z
        exact z
      refine ⟨.ref a, rfl, a, xs, rfl, .inr (.inl ea), 1, (xs.length : Int), rfl, rfl, _, rfl, ifte (fun c3 => ⟨(xs.length : Int), 8, rfl, rfl, _, rfl, ?_⟩) (fun c3 => ⟨_, rfl, iteT (no (Ms.rfl' tb) ?_)⟩)⟩
      rotate_left
      · have z : decide (1 ≤ ds.length) = false := decide_eq_false (by have := of_decide_eq_false c3; omega)
        rw [whole, z, Bool.false_and, Bool.false_and]
      have l1 : decide (1 ≤ ds.length) = true := decide_eq_true (by have := of_decide_eq_true c3; omega)
      by_cases l2 : ds.length ≤ 8
      rotate_left
      · have e8 : decide ((xs.length : Int) ≤ 8) = false := decide_eq_false (by omega)
        rw [e8]
        refine iteT (no (Ms.rfl' tb) ?_)
        rw [whole, decide_eq_false l2, Bool.and_false, Bool.false_and]
      have e8 : decide ((xs.length : Int) ≤ 8) = true := decide_eq_true (by omega)
      rw [e8]
      refine iteF ?_
      have rest : isNamesD (.tuple ds) = (ds.all isNameD && decide ((ds.map valS).Nodup)) := by
        rw [whole, l1, decide_eq_true l2]
        rfl
      refine ⟨.ref a, rfl, a, rfl, ⟨xs, .inl ea⟩, tb T hT, fun H2 h2 => ?_⟩
      refine turns_tup (K := K) (a := a) (xs := xs) (fun i J => Ms ts H J ∧ (ds.take i).all isNameD = true) ⟨tb.tabbed h2 hT, rfl⟩ (fun i J _ h => .inl (stay h.1)) ?_ ?_
      · rintro i x J hx ⟨ms, hall⟩
        obtain ⟨di, hdi, dqi⟩ := L.get hx
        refine ⟨rfl, tyes ?_⟩
        refine ⟨x, rfl, x, di, Z, rfl, hZ, ms.2, dqi.kp (ms.1.wk hZ), (hl.2 ds rfl di (List.mem_of_getElem? hdi)), fun J2 m2 => ⟨_, rfl, ifte (fun c1 => ⟨ms.tr m2, ?_⟩) (fun c1 => ⟨false, rfl, iteF (no (ms.tr m2) ?_)⟩)⟩⟩
        · rw [List.take_add_one, hdi, List.all_append, hall]
          simpa using c1
        · have z : ds.all isNameD = false := by
            rw [List.all_eq_false]
            exact ⟨di, List.mem_of_getElem? hdi, by rw [c1]; exact Bool.false_ne_true⟩
          rw [rest, z, Bool.false_and]
      · rintro J ⟨ms, hall⟩
        rw [L.len, List.take_length] at hall
        have ex := dql_str L hall
        have hJ := stay ms
        refine ⟨true, rfl, iteT ⟨.ref a, rfl, a, ds.map valS, rfl, .inl (by rw [← ex]; exact hJ), by rw [List.length_map]; omega, .ref a, rfl, a, xs, rfl, .inr (.inl hJ), rfl, ?_⟩⟩
        have z := q J ms
        rw [rest, hall, Bool.true_and] at z
        have nd := dcT_eq (ws := ds.map valS) (i := (ds.map valS).length) (Nat.le_refl _)
        rw [List.take_length] at nd
        have e : decide (V.int (dcT (ds.map valS) (ds.map valS).length : Nat) = V.int (xs.length : Int)) = decide ((ds.map valS).Nodup) := by
          have lx : xs.length = (ds.map valS).length := by rw [List.length_map, len]
          rw [lx]
          by_cases y : (ds.map valS).Nodup
          · rw [decide_eq_true y, decide_eq_true (by rw [nd.mpr y])]
          · rw [decide_eq_false y, decide_eq_false (fun u => y (nd.mp (by have := V.int.inj u; omega)))]
        rw [e]
        exact z
end
end GR

namespace GR
open PySem PySem.Spec PyProof.Rows L2 KL KG KS
/-- the defs that is_graph stands on -/
structure Pg (K : PySem.W.Frag) (mg : Str → Option Value) (base : Heap) (ts : List Addr) (fL fA cL TL fN cN TN fM cM TM fR cR TR fH cH TH : Addr) (fdL fdA fdN fdM fdR fdH : FuncData) : Prop where
  nm : Nm mg
  cn : Cn K mg
  lo : Lo K mg base ts fL fA cL TL fdL fdA
  N : FunC K "is_name" "is_name" sName fN fdN cN
  tN : GxR.TabB base mg cN TN
  mN : TN ∈ ts
  gN : mg "is_name" = some (.ref fN)
  bN : L2.Binds K fdN ["value"] []
  M : FunC K "are_names" "are_names" sNames fM fdM cM
  tM : GxR.TabB base mg cM TM
  mM : TM ∈ ts
  gM : mg "are_names" = some (.ref fM)
  bM : L2.Binds K fdM ["value"] []
  R : FunC K "are_arrows" "are_arrows" sArr fR fdR cR
  tR : GxR.TabB base mg cR TR
  mR : TR ∈ ts
  gR : mg "are_arrows" = some (.ref fR)
  bR : L2.Binds K fdR ["count", "value"] []
  H : FunC K "are_hidden_lots" "are_hidden_lots" sHid fH fdH cH
  tH : GxR.TabB base mg cH TH
  mH : TH ∈ ts
  gH : mg "are_hidden_lots" = some (.ref fH)
  bH : L2.Binds K fdH ["count", "value"] []
theorem names_tup {Z : Addr → Prop} {H : Hp} {v : V} {d : PyData} (h : Dq Z H v d) (e : isNamesD d = true) : ∃ a xs, v = .ref a ∧ Rd H a (.tup xs) ∧ xs.length = lenD d := by
  cases h with
  | @tup a xs ds e1 z L => exact ⟨a, xs, rfl, e1, L.len⟩
  | _ => exact absurd e Bool.false_ne_true
section
variable {P : Program} {w : World} {K : PySem.W.Frag} {mg : Str → Option Value} {base : Heap} {ts : List Addr} {fL fA cL TL fN cN TN fM cM TM fR cR TR fH cH TH : Addr} {fdL fdA fdN fdM fdR fdH : FuncData}
theorem ok_graph {f : Addr} {fd : FuncData} (F : Fun K "is_graph" "is_graph" sGraph f fd) (S : Pg K mg base ts fL fA cL TL fN cN TN fM cM TM fR cR TR fH cH TH fdL fdA fdN fdM fdR fdH) : FnOk P w K mg base CX0 9 f fd ["value"] (spGraph ts) := by
  have GM : FnOk P w K mg base CX0 8 fM fdM ["value"] (spNames ts) := ok_names S.M S.tM S.mM S.N S.tN S.mN S.gN S.bN S.nm S.cn
  have GR' : FnOk P w K mg base CX0 8 fR fdR ["count", "value"] (spArr ts) := ok_arr S.R S.tR S.mR S.lo S.nm
  have GH : FnOk P w K mg base CX0 8 fH fdH ["count", "value"] (spHid ts) := ok_hid S.H S.tH S.mH S.lo S.nm S.cn.hd
  have N := S.nm
  refine F.ok (k := 8) scGraph (fun vs H Q E h => ?_) (fun cdv A outer s H vs Q E hr h => ?_)
  · obtain ⟨v, d, Z, rfl, _⟩ := h
    rfl
  · obtain ⟨v, d, Z, rfl, hZ, tb, dq, hl, q⟩ := h
    refine ⟨_, pss_cons (ps_if (PW.pt (pw_or (pt_cmpR op_isNotTy (pe_callTy call_type1 (by rfl) N.typ (by decide +kernel) (pa_cons (pv 0) pa_nil)) (pe_bltn (u := .type "tuple") (by rfl) N.tup (by decide +kernel) (rt "tuple")) (nomark _))
          (pw_or1 (pt_cmpR op_ne (pe_callB call_len_seq (by rfl) N.len PySem.boot_len (pa_cons (pv 0) pa_nil)) pe_int (nomark _))))) (pss_one (ps_ret pe_bl)) pss_nil)
      (pss_cons (ps_asg (pv 0) (pg_tup rfl (pgs_cons (pg_name (i := 1) scGraph.nd rfl (.inl rfl)) (pgs_cons (pg_name (i := 2) scGraph.nd rfl (.inl rfl)) (pgs_cons (pg_name (i := 3) scGraph.nd rfl (.inl rfl)) pgs_nil)))))
      (pss_one (ps_ret (pe_and (pe_call GM hr (by rfl) S.gM S.M.kp S.bM .nil pass0 (pa_cons (pv 1) pa_nil))
        (pe_and (pe_call GR' hr (by rfl) S.gR S.R.kp S.bR .nil pass0 (pa_cons (pe_callB call_len_seq (by rfl) N.len PySem.boot_len (pa_cons (pv 1) pa_nil)) (pa_cons (pv 2) pa_nil)))
          (pe_one (pe_call GH hr (by rfl) S.gH S.H.kp S.bH .nil pass0 (pa_cons (pe_callB call_len_seq (by rfl) N.len PySem.boot_len (pa_cons (pv 1) pa_nil)) (pa_cons (pv 3) pa_nil))))))))), ?_⟩
    refine ⟨v, rfl, v, tyD d, rfl, dq_ty dq, tyD d, "tuple", rfl, rfl, _, rfl, ite2 (fun c => iteT ?_) (fun c => ?_)⟩
    · have e : isGraphD d = false := by
        cases d with
        | tuple ds => simp [tyD] at c
        | _ => rfl
      have z := q H (Ms.rfl' tb)
      rw [e] at z
      exact z
    · obtain ⟨ds, rfl⟩ : ∃ ds, d = .tuple ds := by
        cases d with
        | tuple ds => exact ⟨ds, rfl⟩
        | _ => simp [tyD] at c
      obtain ⟨a, xs, rfl, ea, za, L⟩ : ∃ a xs, v = .ref a ∧ Rd H a (.tup xs) ∧ ¬ Z a ∧ DqL Z H xs ds := by
        cases dq with
        | tup e z h => exact ⟨_, _, rfl, e, z, h⟩
      have len := L.len
      have no : ∀ {J : Hp}, Ms ts H J → isGraphD (.tuple ds) = false → Q (.bl false) J := fun {J} ms e => by
        have z := q J ms
        rw [e] at z
        exact z
      refine ⟨.ref a, rfl, a, xs, rfl, .inr (.inl ea), rfl, _, rfl, ifte (fun c2 => no (Ms.rfl' tb) ?_) (fun c2 => ?_)⟩
      · have z : ds.length ≠ 3 := fun y => by
          rw [len, y] at c2
          simp at c2
        match ds, z with
        | [], _ => rfl
        | [_], _ => rfl
        | [_, _], _ => rfl
        | [_, _, _], z => exact absurd rfl z
        | _ :: _ :: _ :: _ :: _, _ => rfl
      have three : ds.length = 3 := by
        by_cases y : ds.length = 3
        · exact y
        · have z : decide (V.int (xs.length : Int) = V.int 3) = false := decide_eq_false (fun u => y (by have := V.int.inj u; omega))
          rw [z] at c2
          cases c2
      obtain ⟨n, r, l, rfl⟩ : ∃ n r l, ds = [n, r, l] := by
        match ds, three with
        | [n, r, l], _ => exact ⟨n, r, l, rfl⟩
      cases L with
      | @cons v1 _ _ _ q1 L =>
      cases L with
      | @cons v2 _ _ _ q2 L =>
      cases L with
      | @cons v3 _ _ _ q3 L =>
      cases L
      have whole : isGraphD (.tuple [n, r, l]) = (isNamesD n && (isArrD (lenD n : Int) r && isHidD (lenD n : Int) l)) := rfl
      have l1 := hl.2 _ rfl n (by simp)
      have l2 := hl.2 _ rfl r (by simp)
      have l3 := hl.2 _ rfl l (by simp)
      refine ⟨.ref a, rfl, a, _, rfl, .inl ea, rfl, v1, _, rfl, v2, _, rfl, v3, _, rfl, rfl, ?_⟩
      refine ⟨v1, rfl, v1, n, Z, rfl, hZ, tb, q1, l1, fun J1 m1 => ⟨_, rfl, ifte (fun c3 => ?_) (fun c3 => no m1 (by rw [whole, c3, Bool.false_and]))⟩⟩
      obtain ⟨b, ys, rfl, eb, ly⟩ := names_tup (q1.kp (m1.1.wk hZ)) c3
      refine ⟨.ref b, rfl, b, ys, rfl, .inr (.inl eb), v2, rfl, (ys.length : Int), v2, r, Z, rfl, hZ, m1.2, q2.kp (m1.1.wk hZ), l2, fun J2 m2 => ⟨_, rfl, ?_⟩⟩
      rw [ly]
      refine ifte (fun c4 => ?_) (fun c4 => no (m1.tr m2) (by rw [whole, c3, c4]; rfl))
      have m12 := m1.tr m2
      obtain ⟨b', ys', e', eb', ly'⟩ := names_tup (q1.kp (m12.1.wk hZ)) c3
      cases e'
      refine ⟨.ref b, rfl, b, ys', rfl, .inr (.inl eb'), v3, rfl, (ys'.length : Int), v3, l, Z, rfl, hZ, m12.2, q3.kp (m12.1.wk hZ), l3, fun J3 m3 => ?_⟩
      have z := q J3 (m12.tr m3)
      rw [whole, c3, c4, Bool.true_and, Bool.true_and] at z
      rw [ly']
      exact z
end
end GR

namespace GR
open PySem PySem.Spec PyProof.Rows L2 KL KG KS
abbrev sNeed : Stmt := topS 13
abbrev sNeedLot : Stmt := topS 14
theorem scNeed : FnScope ["graph"] ["graph"] (defScope sNeed) := ⟨rfl, rfl, rfl, by decide +kernel, rfl, by decide +kernel, by decide +kernel⟩
theorem scNeedLot : FnScope ["graph", "lot"] ["graph", "lot"] (defScope sNeedLot) := ⟨rfl, rfl, rfl, by decide +kernel, rfl, by decide +kernel, by decide +kernel⟩
/-- a right graph is handed -/
def spNeed (ts : List Addr) : Sp := fun vs H Q _ => ∃ (v : V) (d : PyData) (Z : Addr → Prop), vs = [v] ∧ (∀ b ∈ ts, Z b) ∧ Tb ts H ∧ Dq Z H v d ∧ LenD 2 d ∧ isGraphD d = true ∧ ∀ G, Ms ts H G → Q .non G
/-- a right graph and a right lot of it are handed -/
def spNeedLot (ts : List Addr) : Sp := fun vs H Q _ => ∃ (v u : V) (n r l e : PyData) (Z : Addr → Prop), vs = [v, u] ∧ (∀ b ∈ ts, Z b) ∧ Tb ts H ∧ Dq Z H v (.tuple [n, r, l]) ∧ isGraphD (.tuple [n, r, l]) = true ∧ Dq Z H u e ∧ LenOk e ∧ isLotD (lenD n : Int) e = true ∧ ∀ G, Ms ts H G → Q .non G
section
variable {P : Program} {w : World} {K : PySem.W.Frag} {mg : Str → Option Value} {base : Heap} {ts : List Addr} {fL fA cL TL fN cN TN fM cM TM fR cR TR fH cH TH : Addr} {fdL fdA fdN fdM fdR fdH : FuncData}
theorem ok_need {f fG : Addr} {fd fdG : FuncData} (F : Fun K "need_graph" "need_graph" sNeed f fd) (FG : Fun K "is_graph" "is_graph" sGraph fG fdG) (gG : mg "is_graph" = some (.ref fG)) (bG : L2.Binds K fdG ["value"] []) (S : Pg K mg base ts fL fA cL TL fN cN TN fM cM TM fR cR TR fH cH TH fdL fdA fdN fdM fdR fdH) : FnOk P w K mg base CX0 10 f fd ["graph"] (spNeed ts) := by
  have GG : FnOk P w K mg base CX0 9 fG fdG ["value"] (spGraph ts) := ok_graph FG S
  refine F.ok (k := 9) scNeed (fun vs H Q E h => ?_) (fun cdv A outer s H vs Q E hr h => ?_)
  · obtain ⟨v, d, Z, rfl, _⟩ := h
    rfl
  · obtain ⟨v, d, Z, rfl, hZ, tb, dq, hl, hg, q⟩ := h
    refine ⟨_, pss_one (ps_if (pt_not (pt_val (pe_call GG hr (by rfl) gG FG.kp bG .nil pass0 (pa_cons (pv 0) pa_nil)))) pss_never pss_nil), ?_⟩
    exact ⟨v, rfl, v, d, Z, rfl, hZ, tb, dq, hl, fun G m => ⟨true, by rw [hg], iteF (q G m)⟩⟩
theorem ok_needlot {f : Addr} {fd : FuncData} (F : Fun K "need_lot" "need_lot" sNeedLot f fd) (S : Pg K mg base ts fL fA cL TL fN cN TN fM cM TM fR cR TR fH cH TH fdL fdA fdN fdM fdR fdH) : FnOk P w K mg base CX0 5 f fd ["graph", "lot"] (spNeedLot ts) := by
  have GL : FnOk P w K mg base CX0 4 fL fdL ["count", "value"] (spLot ts) := S.lo.ok S.nm
  refine F.ok (k := 4) scNeedLot (fun vs H Q E h => ?_) (fun cdv A outer s H vs Q E hr h => ?_)
  · obtain ⟨v, u, n, r, l, e, Z, rfl, _⟩ := h
    rfl
  · obtain ⟨v, u, n, r, l, e, Z, rfl, hZ, tb, dq, hg, du, hu, hl, q⟩ := h
    refine ⟨_, pss_one (ps_if (pt_not (pt_val (pe_call GL hr (by rfl) S.lo.gL S.lo.L.fn.kp S.lo.bL .nil pass0 (pa_cons (pe_callB call_len_seq (by rfl) S.nm.len PySem.boot_len (pa_cons (pe_ix ix_tup (pv 0) pe_int (fun _ _ => rfl)) pa_nil)) (pa_cons (pv 1) pa_nil))))) pss_never pss_nil), ?_⟩
    have nok : isNamesD n = true := by
      have z : (isNamesD n && (isArrD (lenD n : Int) r && isHidD (lenD n : Int) l)) = true := hg
      rw [Bool.and_eq_true] at z
      exact z.1
    cases dq with
    | @tup a xs _ ea za L =>
    cases L with
    | @cons v1 _ _ _ q1 L =>
    obtain ⟨b, ys, rfl, eb, ly⟩ := names_tup q1 nok
    refine ⟨.ref a, rfl, a, _, 0, .ref b, rfl, rfl, .inl ea, atI_nat (j := 0) rfl, b, ys, rfl, .inr (.inl eb), u, rfl, (ys.length : Int), u, e, Z, rfl, hZ, tb, du, hu, fun J m2 => ⟨true, ?_, iteF (q J m2)⟩⟩
    rw [ly, hl]
end
end GR

/-! Own layer: t[::-1], s[::-1]; tuple(list) as a frozen one. -/
namespace KS
open PySem PySem.Spec PyProof.Rows L2 HT
section
variable {prog : Program} {w : World} {A : Around} {E : Value → Shared → Prop} {s : Shared}
theorem slice_rev {sl : Addr} {n : Nat} {u : Tok} {Q : Int × Int × Nat → Shared → Prop} (hs : s.heap.IsSliceOf sl .none .none (.int (-1) u)) (h : Q ((n : Int) - 1, -1, n) s) : wpAny (model prog w) A (Builtin.Slice.sliceApplied (.ref sl) (pure (n : Int))) Q E s := by
  obtain ⟨os, hos, hcs, hds⟩ := id hs
  have e1 : Builtin.Slice.sliceAdjust none none (-1) (n : Int) = ((n : Int) - 1, -1) := by
    unfold Builtin.Slice.sliceAdjust
    simp
  have e2 : Builtin.Slice.slicePlaces ((n : Int) - 1) (-1) (-1) = n := by
    unfold Builtin.Slice.slicePlaces
    simp
    split <;> omega
  unfold Builtin.Slice.sliceApplied Builtin.Slice.sliceFields
  refine wpAny_bind (wpAny_bind (wpAny_field hos hds (x := .none) rfl (wpAny_bind (wpAny_field hos hds (x := .none) rfl (wpAny_bind (wpAny_field hos hds (x := .int (-1) u) rfl (wpAny_pure ?_)))))))
  refine wpAny_bind (slicePart_int ?_)
  show wpAny _ _ (if ((-1 : Int) == 0) = true then _ else _) _ _ s
  rw [if_neg (by decide)]
  refine wpAny_bind (slicePart_none (wpAny_bind (slicePart_none (wpAny_bind (wpAny_pure ?_)))))
  show wpAny _ _ (match Builtin.Slice.sliceAdjust none none (-1) (n : Int) with | (lo, hi) => pure (lo, (-1 : Int), Builtin.Slice.slicePlaces lo hi (-1))) _ _ s
  rw [e1]
  show wpAny _ _ (pure ((n : Int) - 1, (-1 : Int), Builtin.Slice.slicePlaces ((n : Int) - 1) (-1) (-1))) _ _ s
  rw [e2]
  exact wpAny_pure h
theorem pick_rev (xs : Array Value) : ((List.range xs.size).filterMap fun (m : Nat) => xs[((xs.size : Int) - 1 + (m : Int) * -1).toNat]?).toArray = xs.toList.reverse.toArray := by
  have e : (fun (m : Nat) => xs[((xs.size : Int) - 1 + (m : Int) * -1).toNat]?) = fun m => xs[xs.size - 1 - m]? := by
    funext m
    have : ((xs.size : Int) - 1 + (m : Int) * -1).toNat = xs.size - 1 - m := by omega
    rw [this]
  rw [e]
  have z : (List.range xs.size).filterMap (fun m => xs[xs.size - 1 - m]?) = ((List.range xs.size).map fun k => xs.size - 1 - k).filterMap (xs[·]?) := by
    rw [List.filterMap_map]
    rfl
  rw [z, PySem.W.krv_range, List.filterMap_reverse, PySem.W.krv_all]
theorem getItem_tuple_rev {t sl : Addr} {items : Array Value} {u : Tok} {Q : Value → Shared → Prop} (ht : IsTup s.heap t items) (hs : s.heap.IsSliceOf sl .none .none (.int (-1) u))
    (h : Q (.ref s.heap.objs.size) { s with heap := s.heap.push { cls := .type "tuple", data := .seq items.toList.reverse.toArray } }) (hsz : items.size ≤ sizeLine) : wpAny (model prog w) A (getItem (.ref t) (.ref sl)) Q E s := by
  have htake : sizeOk (.seq items.toList.reverse.toArray) := by
    show items.toList.reverse.toArray.size ≤ sizeLine
    rw [List.size_toArray, List.length_reverse, Array.length_toList]
    exact hsz
  obtain ⟨os, hos, hcs, hds⟩ := id hs
  have hTs : s.TypeIs (.ref sl) "slice" := ⟨os, hos, hcs⟩
  unfold getItem
  try with_reducible refine wpAny_holding ?_
  first | refine wpAny_bind (wpAny_pure ?_) | skip
  refine wpAny_bind (wpAny_sequenceKey ht.typeIs (by decide) ?_)
  refine wpAny_bind (wpAny_callSpecial?_slot (name := Str.ofString "__getitem__") ht.typeIs PyProof.Rows.slot_tuple_getitem
    (wpAny_call_entry PyProof.Rows.slot_tuple_getitem ht.typeIs entry_tuple_getitem ?_ (args_tuple_getitem _ _)))
  show wpAny _ _ (Builtin.Tuple.tupleItemsOf (.ref t) >>= _) _ _ s
  refine wpAny_bind (tupleItemsOf_ ht ?_)
  refine wpAny_bind (wpAny_typeOf hTs ?_)
  rw [if_pos (by decide)]
  refine wpAny_bind (slice_rev hs ?_)
  have hno : ¬ ((((items.size : Int) - 1) == 0 && (-1 : Int) == 1 && items.size == items.size) = true) := by simp
  show wpAny _ _ (if (((items.size : Int) - 1) == 0 && (-1 : Int) == 1 && items.size == items.size) = true then _ else _) _ _ s
  rw [if_neg hno, pick_rev]
  first
    | exact wpAny_bind (m := Builtin.Tuple.tupleExact _) (wpAny_newObj_type (wpAny_pure ⟨_, rfl, wpAny_pure h⟩) htake)
    | exact wpAny_bind (m := Builtin.Tuple.tupleExact _) (wpAny_newObj_type (wpAny_bind (wpAny_pure (wpAny_pure ⟨_, rfl, wpAny_pure h⟩))) htake)
    | exact wpAny_bind (wpAny_bind (m := Builtin.Tuple.tupleExact _) (wpAny_newObj_type (wpAny_pure (wpAny_pure ⟨_, rfl, wpAny_pure h⟩)) htake))
    | exact wpAny_bind (wpAny_bind (m := Builtin.Tuple.tupleExact _) (wpAny_newObj_type (wpAny_pure ⟨_, rfl, wpAny_pure h⟩) htake))
end
section
variable {X : Cx}
/-- e[::-1], e a tuple or a text, the value asked of the text is its length alone -/
def tRevA (K : PySem.W.Frag) (te : TE) : TE := fun σ H Q => te σ H fun x H1 => (∃ a xs, x = .ref a ∧ SqT K H1 a xs ∧ ∀ p, H1 p = none → Q (.ref p) (upd H1 p (.tup xs.reverse))) ∨ ∃ z : Str, x = .str z ∧ z.length ≤ 1000000 ∧ ∀ y : Str, y.length ≤ z.length → Q (.str y) H1
theorem pe_revA {e : Expr} {te : TE} {k : Nat} {p1 p2 p3 pos : Pos} (he : PE X e te) : PE X (.Subscript e (.Slice none none (some (.UnaryOp .USub (.Constant (.int 1) k p1) p2)) p3) pos) (tRevA X.K te) := by
  refine ⟨fun pins s σ H Q I h => ?_⟩
  refine Subscript_ (thn (he.run pins s σ H _ I h) fun v s1 ⟨x, H1, I1, r1, q1⟩ => ?_)
  have hst : PO X (some (.UnaryOp .USub (.Constant (.int 1) k p1) p2)) (tPart (tUn (rU fun i => .int (-i)) (tC (.int 1)))) := po_some (pe_un un_neg pe_int)
  refine wpAny_Slice (thn (po_none.run pins s1 σ H1 (fun o H2 => o = none ∧ H2 = H1) I1 ⟨rfl, rfl⟩) fun vl s2 ⟨l, H2, I2, pl, el, e2⟩ => ?_)
  subst el e2
  refine thn (po_none.run pins s2 σ H2 (fun o H3 => o = none ∧ H3 = H2) I2 ⟨rfl, rfl⟩) fun vu s3 ⟨u, H3, I3, pu, eu, e3⟩ => ?_
  subst eu e3
  refine thn (hst.run pins s3 σ H3 (fun o H4 => o = some (-1) ∧ H4 = H3) I3 ⟨1, rfl, -1, rfl, rfl, rfl⟩) fun vs s4 ⟨o, H4, I4, ps, eo, e4⟩ => ?_
  subst eo e4
  obtain rfl : vl = .none := by cases pl; rfl
  obtain rfl : vu = .none := by cases pu; rfl
  obtain ⟨ut, rfl⟩ : ∃ u, vs = .int (-1) u := by cases ps; exact ⟨_, rfl⟩
  have I5 : Inv X pins σ H4 { s4 with heap := s4.heap.push { cls := .type "slice", data := .fields #[.none, .none, .int (-1) ut] } } := I4.kept (t' := s4.toks) fun b ob q => Heap.get?_push_of_some _ q
  rcases q1 with ⟨a, xs, rfl, hx, q⟩ | ⟨z, rfl, hz, q⟩
  · cases r1
    obtain ⟨its, r, ht, hz⟩ := I5.tuple hx
    have hlen := r.length
    show wpAny (model X.prog X.w) X.A (subscriptTail e (.Slice none none (some (.UnaryOp .USub (.Constant (.int 1) k p1) p2)) p3) (.ref a) (.ref s4.heap.objs.size)) (EP X pins σ Q) X.xe { s4 with heap := s4.heap.push { cls := .type "slice", data := .fields #[.none, .none, .int (-1) ut] } }
    refine tail_any (ops := [.ref a, .ref s4.heap.objs.size]) ht.typeIs (PyProof.Rows.slot_tuple_getitem.lookup) ?_ (by with_unfolding_all rfl)
    refine getItem_tuple_rev ht (Heap.IsSliceOf.new _ _ _ _) ?_ (by rw [List.size_toArray]; omega)
    refine ⟨.ref _, _, I5.laid (t' := s4.toks) (o := .tup xs.reverse) (fun b ob q => Heap.get?_push_of_some _ q) (Nat.le_refl _) ?_, rfl, q _ (I5.hok.fresh (Nat.le_refl _))⟩
    exact ⟨by rw [List.length_reverse]; exact hz, _, r.reverse, by simp only [List.toList_toArray]; exact IsTup.new _ _⟩
  · obtain ⟨t, rfl⟩ := r1
    show wpAny (model X.prog X.w) X.A (subscriptTail e (.Slice none none (some (.UnaryOp .USub (.Constant (.int 1) k p1) p2)) p3) (.str z t) (.ref s4.heap.objs.size)) (EP X pins σ Q) X.xe { s4 with heap := s4.heap.push { cls := .type "slice", data := .fields #[.none, .none, .int (-1) ut] } }
    refine tail_any (ops := [.str z t, .ref s4.heap.objs.size]) (typeIs_str _ _ _) (F.slot_str_getitem.lookup) ?_ (by with_unfolding_all rfl)
    refine wpAny_getItem_str_slice (l := none) (u := none) (st := some (-1, ut)) (Heap.IsSliceOf.new _ _ _ _) rfl ?_
    show Made.post (if ((-1 : Int) == 1 && (Builtin.Str.strSliceIndices none none (-1) z.length).length == z.length) = true then Made.val (.str z t)
      else Made.str ⟨((Builtin.Str.strSliceIndices none none (-1) z.length).filterMap (z.cps[·]?)).toArray⟩) (EP X pins σ Q) _
    rw [if_neg (by simp)]
    have hl : (⟨((Builtin.Str.strSliceIndices none none (-1) z.length).filterMap (z.cps[·]?)).toArray⟩ : Str).length ≤ z.length := by
      show ((Builtin.Str.strSliceIndices none none (-1) z.length).filterMap (z.cps[·]?)).toArray.size ≤ z.length
      rw [List.size_toArray]
      refine Nat.le_trans (List.length_filterMap_le _ _) ?_
      have e : Builtin.Str.strSliceIndices none none (-1) z.length = sliceRange ((z.length : Int) - 1) (-1) (-1) := rfl
      rw [e, PySem.W.krv_sliceRange, List.length_map, List.length_range]
      exact Nat.le_refl _
    exact ⟨by rw [sizeLine_eq]; omega, .str _, H4, I5.tok _, ⟨_, rfl⟩, q _ hl⟩
/-- tuple(xs), xs a list: a new tuple, as an object that stands -/
def tTupF (K : PySem.W.Frag) (ta : TE) : TE := fun σ H Q => ta σ H fun x H1 => ∃ p xs, x = .ref p ∧ SqL K H1 p xs ∧ ∀ q o, H1 q = none → o.dict = none → Q (.ref q) (upd H1 q (.frz o (.tup xs)))
theorem pe_tupF {a : Expr} {ta : TE} {p pos : Pos} (hg : Gl X "tuple") (hm : X.mg "tuple" = none) (ha : PE X a ta) (na : starEach [a] X.env = (false, eval a X.env) :: starEach [] X.env := by rfl) :
    PE X (.Call (.Name "tuple" p) [a] [] pos) (tTupF X.K ta) := by
  refine ⟨fun pins s σ H Q I h => ?_⟩
  refine Call_ (ld_blt I hg hm boot_tuple (PyProof.Rows.callWith_type1 (one_arg ha I h (fun v s2 x H2 I2 r q => ?_) na) na))
  obtain ⟨p, xs, rfl, hs, q⟩ := q
  obtain rfl : v = .ref p := r
  obtain ⟨its, rv, pl, hz⟩ := I2.list hs
  refine call_tuple_list pl.isList (fun h' hk => ?_) (by rw [List.size_toArray, ← rv.length]; exact hz)
  have I3 : Inv X pins σ H2 { s2 with heap := h' } := I2.kept (t' := s2.toks) hk
  have I4 : Inv X pins σ (upd H2 h'.objs.size (.frz { cls := .type "tuple", data := .seq its.toArray } (.tup xs))) { s2 with heap := h'.push { cls := .type "tuple", data := .seq its.toArray } } :=
    I3.laid (t' := s2.toks) (fun b o e => Heap.get?_push_of_some _ e) (Nat.le_refl _) ⟨Heap.get?_push_size _ rfl, hz, its, rv, IsTup.new _ _⟩
  exact ⟨.ref h'.objs.size, _, I4, rfl, q _ _ (I3.hok.fresh (Nat.le_refl _)) rfl⟩
end
end KS

/-! Own layer: sorting tuples of whole numbers of any lengths, and sets of such. -/
namespace KV
open PySem PySem.Spec PyProof.Rows L2
/-- the order of tuples -/
def ltI : List Int → List Int → Bool
  | [], [] => false
  | [], _ :: _ => true
  | _ :: _, [] => false
  | a :: x, b :: y => if a = b then ltI x y else decide (a < b)
def lexF (z : Bool) : List Int → List Int → Bool
  | a :: x, b :: y => if a = b then lexF z x y else decide (a < b)
  | _, _ => z
theorem ltI_lex : ∀ x y : List Int, lexF (decide (x.length < y.length)) x y = ltI x y
  | [], [] => rfl
  | [], _ :: _ => rfl
  | _ :: _, [] => rfl
  | a :: x, b :: y => by
    have e : decide ((a :: x).length < (b :: y).length) = decide (x.length < y.length) := by simp
    rw [e]
    show (if a = b then lexF _ x y else decide (a < b)) = (if a = b then ltI x y else decide (a < b))
    rw [ltI_lex x y]
/-- a number that ranks tuples of at most so many numbers below B -/
def rk (B : Int) : Nat → List Int → Int
  | 0, _ => 0
  | _ + 1, [] => 0
  | D + 1, a :: x => (a + 1) * (B + 1) ^ D + rk B D x
def Dg (B : Int) (ns : List Int) : Prop := ∀ n ∈ ns, 0 ≤ n ∧ n < B
theorem pw_pos {B : Int} (h : 0 ≤ B) (D : Nat) : 0 < (B + 1) ^ D := Int.pow_pos (by omega)
theorem rk_bd {B : Int} (hB : 0 ≤ B) : ∀ (D : Nat) (x : List Int), Dg B x → 0 ≤ rk B D x ∧ rk B D x < (B + 1) ^ D
  | 0, _, _ => ⟨Int.le_refl _, by show (0 : Int) < (B + 1) ^ 0; rw [Int.pow_zero]; decide⟩
  | D + 1, [], _ => ⟨Int.le_refl _, pw_pos hB _⟩
  | D + 1, a :: x, h => by
    obtain ⟨h0, h1⟩ := rk_bd hB D x fun n hn => h n (List.mem_cons_of_mem _ hn)
    obtain ⟨a0, a1⟩ := h a List.mem_cons_self
    have p := pw_pos hB D
    show 0 ≤ (a + 1) * (B + 1) ^ D + rk B D x ∧ (a + 1) * (B + 1) ^ D + rk B D x < (B + 1) ^ (D + 1)
    rw [Int.pow_succ]
    generalize (B + 1) ^ D = M at p h1 ⊢
    have q1 : 0 ≤ (a + 1) * M := Int.mul_nonneg (by omega) (by omega)
    have q2 : (a + 1) * M ≤ B * M := Int.mul_le_mul_of_nonneg_right (by omega) (by omega)
    have q3 : M * (B + 1) = B * M + M := by rw [Int.mul_add, Int.mul_one, Int.mul_comm]
    omega
theorem rk_lt {B : Int} (hB : 0 ≤ B) : ∀ (D : Nat) (x y : List Int), Dg B x → Dg B y → x.length ≤ D → y.length ≤ D → (rk B D x < rk B D y ↔ ltI x y = true)
  | 0, x, y, _, _, lx, ly => by
    have e1 : x = [] := List.eq_nil_of_length_eq_zero (by omega)
    have e2 : y = [] := List.eq_nil_of_length_eq_zero (by omega)
    subst e1
    subst e2
    simp [rk, ltI]
  | D + 1, [], [], _, _, _, _ => by simp [rk, ltI]
  | D + 1, [], b :: y, _, hy, _, _ => by
    obtain ⟨h0, h1⟩ := rk_bd hB D y fun n hn => hy n (List.mem_cons_of_mem _ hn)
    obtain ⟨b0, b1⟩ := hy b List.mem_cons_self
    have p := pw_pos hB D
    show (0 : Int) < (b + 1) * (B + 1) ^ D + rk B D y ↔ ltI [] (b :: y) = true
    have : 0 < (b + 1) * (B + 1) ^ D := Int.mul_pos (by omega) p
    exact ⟨fun _ => rfl, fun _ => by omega⟩
  | D + 1, a :: x, [], hx, _, _, _ => by
    obtain ⟨h0, h1⟩ := rk_bd hB (D + 1) (a :: x) hx
    show rk B (D + 1) (a :: x) < 0 ↔ false = true
    exact ⟨fun h => absurd h (by omega), fun h => absurd h Bool.false_ne_true⟩
  | D + 1, a :: x, b :: y, hx, hy, lx, ly => by
    have tx : Dg B x := fun n hn => hx n (List.mem_cons_of_mem _ hn)
    have ty : Dg B y := fun n hn => hy n (List.mem_cons_of_mem _ hn)
    obtain ⟨x0, x1⟩ := rk_bd hB D x tx
    obtain ⟨y0, y1⟩ := rk_bd hB D y ty
    have p := pw_pos hB D
    have ih := rk_lt hB D x y tx ty (by simpa using lx) (by simpa using ly)
    show (a + 1) * (B + 1) ^ D + rk B D x < (b + 1) * (B + 1) ^ D + rk B D y ↔ (if a = b then ltI x y else decide (a < b)) = true
    generalize (B + 1) ^ D = M at p x1 y1 ⊢
    by_cases c : a = b
    · rw [if_pos c, ← ih, c]
      constructor <;> intro h <;> omega
    · rw [if_neg c, decide_eq_true_iff]
      rcases Int.lt_trichotomy a b with k | k | k
      · have : (a + 1) * M + M ≤ (b + 1) * M := by
          have z : (a + 1 + 1) * M ≤ (b + 1) * M := Int.mul_le_mul_of_nonneg_right (by omega) (by omega)
          rw [Int.add_mul (a + 1) 1 M, Int.one_mul] at z
          exact z
        exact ⟨fun _ => k, fun _ => by omega⟩
      · exact absurd k c
      · have : (b + 1) * M + M ≤ (a + 1) * M := by
          have z : (b + 1 + 1) * M ≤ (a + 1) * M := Int.mul_le_mul_of_nonneg_right (by omega) (by omega)
          rw [Int.add_mul (b + 1) 1 M, Int.one_mul] at z
          exact z
        exact ⟨fun h => by omega, fun h => by omega⟩
theorem rk_le {B : Int} (hB : 0 ≤ B) {D : Nat} {x y : List Int} (hx : Dg B x) (hy : Dg B y) (lx : x.length ≤ D) (ly : y.length ≤ D) : rk B D x ≤ rk B D y ↔ ltI y x = false := by
  have z := rk_lt hB D y x hy hx ly lx
  cases e : ltI y x with
  | true =>
    have := z.mpr e
    exact ⟨fun h => by omega, fun h => absurd h.symm Bool.false_ne_true⟩
  | false => exact ⟨fun _ => rfl, fun _ => by
      rcases Int.lt_or_le (rk B D y) (rk B D x) with k | k
      · rw [z.mp k] at e
        cases e
      · exact k⟩
section
variable {prog : Program} {w : World} {A : Around} {E : Value → Shared → Prop} {s : Shared}
theorem lex_any {Q : Bool → Shared → Prop} {b z : Bool} : ∀ {xs : List Value} {ns : List Int}, IntsAre xs ns → ∀ {ys : List Value} {ms : List Int} (i : Nat), IntsAre ys ms → Q (lexF z ns ms) s → PySem.W.KatLex prog w A b z Q (xs.zip ys) i s
  | _, _, .nil, _, _, _, _, h => PySem.W.kat_nil (by simpa [lexF] using h)
  | _, _, .cons _ _ _, _, _, _, .nil, h => PySem.W.kat_nil h
  | _, _, .cons p t hx, _, _, i, .cons q u hy, h => by
    refine PySem.W.kat_cons (wpAny_eqBool_int ?_)
    by_cases e : p = q
    · have h : Q (if p = q then lexF z _ _ else decide (p < q)) s := h
      rw [if_pos e] at h
      rw [beq_iff_eq.mpr e]
      exact PySem.W.kat_yes (lex_any hx (i + 1) hy h)
    · have h : Q (if p = q then lexF z _ _ else decide (p < q)) s := h
      rw [if_neg e] at h
      rw [beq_eq_false_iff_ne.mpr e]
      exact PySem.W.kat_no (TS.oneLt_ints _ h)
/-- tuples, none (), of at most D numbers below B -/
def TupsV (h : Heap) (D : Nat) (B : Int) (vs : List Value) : Prop := ∀ v ∈ vs, ∃ ns, TS.TupInts h v ns ∧ 1 ≤ ns.length ∧ ns.length ≤ D ∧ Dg B ns
theorem TupsV.keeps {h h' : Heap} {D : Nat} {B : Int} {vs : List Value} (x : TupsV h D B vs) (k : ∀ b o, h.get? b = some o → o.cls = .type "tuple" → h'.get? b = some o) : TupsV h' D B vs := fun v hv => by
  obtain ⟨ns, t, r⟩ := x v hv
  exact ⟨ns, t.keeps k, r⟩
theorem heads_of {h : Heap} {D : Nat} {B : Int} : ∀ {vs : List Value}, TupsV h D B vs → ∃ fs, PySem.W.KatTups h vs fs ∧ fs.length = vs.length ∧ ∀ f ∈ fs, ∃ n t, f = Value.int n t
  | [], _ => ⟨[], .nil, rfl, fun f hf => absurd hf List.not_mem_nil⟩
  | v :: vs, x => by
    obtain ⟨fs, k, l, i⟩ := heads_of fun u hu => x u (List.mem_cons_of_mem _ hu)
    obtain ⟨ns, ⟨a, xs, rfl, ⟨o, ho, hc, n, hd⟩, hi⟩, h1, _⟩ := x v List.mem_cons_self
    have lx : 0 < xs.toList.length := by
      have z := hi.length
      omega
    obtain ⟨m, t, hy⟩ := hi.all xs.toList[0] (List.getElem_mem lx)
    refine ⟨xs.toList[0] :: fs, .cons ho hc hd ?_ k, by rw [List.length_cons, List.length_cons, l], fun f hf => ?_⟩
    · rw [← Array.getElem?_toList]
      exact List.getElem?_eq_getElem lx
    · rcases List.mem_cons.mp hf with rfl | hf
      · exact ⟨m, t, hy⟩
      · exact i f hf
theorem kindV {D : Nat} {B : Int} (hB : 0 ≤ B) {vs : List Value} (h2 : 2 ≤ vs.length) (x : TupsV s.heap D B vs) (r : Value → Int) (hr : ∀ v ∈ vs, ∀ ns, TS.TupInts s.heap v ns → r v = rk B D ns) (Q : SortKind → Shared → Prop)
    (h : ∀ κ, TS.Cmp prog w A s κ (pairsOf vs) r → Q κ s) : wpAny (model prog w) A (keyKind' vs.toArray) Q E s := by
  obtain ⟨fs, k, l, i⟩ := heads_of x
  refine PySem.W.kat_kind (T := Value.type "int") k (by omega) (fun f hf => ?_) rfl (h _ fun p q hp hq Q2 E2 hQ => ?_)
  · obtain ⟨n, t, e⟩ := i f hf
    rw [e]
    exact PySem.W.Looks.of_pure rfl
  · rw [pairsOf_toList] at hp hq
    have mp := (mem_zip_self hp).2
    have mq := (mem_zip_self hq).2
    obtain ⟨ns, tp, _, lp, bp⟩ := x _ mp
    obtain ⟨ms, tq, _, lq, bq⟩ := x _ mq
    have e : decide (r p.1 < r q.1) = ltI ns ms := by
      rw [hr _ mp _ tp, hr _ mq _ tq]
      have z := rk_lt hB D ns ms bp bq lp lq
      cases c : ltI ns ms with
      | true => exact decide_eq_true (z.mpr c)
      | false => exact decide_eq_false fun y => by rw [z.mp y] at c; cases c
    rw [e, ← ltI_lex] at hQ
    obtain ⟨a, xs, e1, ⟨o, ho, hc, n, hd⟩, i1⟩ := tp
    obtain ⟨a', ys, e2, ⟨o', ho', hc', n', hd'⟩, i2⟩ := tq
    rw [e1, e2]
    refine PySem.W.kat_lt ho hd ho' hd' ?_
    have s1 : xs.size = ns.length := by rw [← i1.length, Array.length_toList]
    have s2 : ys.size = ms.length := by rw [← i2.length, Array.length_toList]
    rw [s1, s2]
    exact lex_any i1 0 i2 hQ
/-- list.sort of such a list -/
theorem sortV {a : Addr} {vs : List Value} {n D : Nat} {B : Int} (hB : 0 ≤ B) {P : PySem.Fin → Shared → Prop} (ho : s.heap.get? a = some (seqObj "list" vs.toArray n)) (h64 : vs.length < 64) (x : TupsV s.heap D B vs) (r : Value → Int)
    (hr : ∀ v ∈ vs, ∀ ns, TS.TupInts s.heap v ns → r v = rk B D ns) (h : ∀ out : Array Value, out.toList.Perm vs → out.toList.Pairwise (fun u v => r u ≤ r v) → P (.done (.ret .none)) { s with heap := sortedHeap s.heap a vs out }) :
    wpAny (model prog w) A (Builtin.«list.sort» ⟨[.ref a], []⟩) P E s := by
  have old : ∀ b o, s.heap.get? b = some o → o.cls = .type "tuple" → (TS.midHeap s.heap a vs).get? b = some o := fun b o e hc => TS.midHeap_old (fun z => by
    rw [z, ho] at e
    cases e
    exact absurd hc (by simp [seqObj])) e
  refine SK.plain_sort (r := r) ho h64 (fun h2 Q hQ => kindV (s := { s with heap := TS.midHeap s.heap a vs }) hB h2 (x.keeps old) r (fun v hv ns t => ?_) Q hQ) fun ps out h1 h2 h3 => ?_
  · obtain ⟨ns0, t0, _⟩ := x v hv
    rw [show ns = ns0 from t.ints.symm.trans (t0.keeps old).ints]
    exact hr v hv ns0 t0
  · obtain ⟨p, o⟩ := TS.out_rank h1 h2 h3
    exact h out p o
theorem call_sortV {a : Addr} {vs : List Value} {n D : Nat} {B : Int} (hB : 0 ≤ B) {Q : Value → Shared → Prop} (ho : s.heap.get? a = some (seqObj "list" vs.toArray n)) (h64 : vs.length < 64) (x : TupsV s.heap D B vs)
    (h : ∀ out : Array Value, out.toList.Perm vs → out.toList.Pairwise (fun u v => rk B D (TS.intsOf s.heap u) ≤ rk B D (TS.intsOf s.heap v)) → Q .none { s with heap := sortedHeap s.heap a vs out }) :
    wpAny (model prog w) A (call (.builtin "list.sort") [.ref a]) Q E s :=
  wpAny_call_entry slot_list_sort ⟨_, ho, rfl⟩ entry_list_sort (sortV hB ho h64 x (fun v => rk B D (TS.intsOf s.heap v)) (fun v _ ns t => congrArg (rk B D) t.ints) fun out h1 h2 => ⟨_, rfl, h out h1 h2⟩) (args_list_sort _)
/-- sorted(xs), xs a list of such -/
theorem sortedV {l : Addr} {vs : List Value} {D : Nat} {B : Int} (hB : 0 ≤ B) {Q : Value → Shared → Prop} (hl : s.heap.IsList l vs.toArray) (h64 : vs.length < 64) (x : TupsV s.heap D B vs)
    (h : ∀ out : Array Value, out.toList.Perm vs → out.toList.Pairwise (fun u v => rk B D (TS.intsOf s.heap u) ≤ rk B D (TS.intsOf s.heap v)) → Q (.ref (s.heap.objs.size + 1)) { s with heap := sortedAll s.heap vs out }) :
    wpAny (model prog w) A (call (.builtin "sorted") [.ref l]) Q E s := by
  refine Calls.call_function_entry kind_sorted plain_sorted entry_sorted (args_sorted1 _) ?_
  unfold Builtin.«sorted»
  refine wpAny_bind (m := checkCount "sorted" 1 1 _) (wpAny_pure (wpAny_bind (collect_list hl ?_ (by rw [sizeLine_eq]; omega))))
  refine wpAny_bind (wpAny_newList ?_ (by rw [sizeLine_eq]; omega))
  have size : ((s.heap.push (seqObj "list" #[] 0)).update s.heap.objs.size (Obj.mapSeq (· ++ vs.toArray))).objs.size = s.heap.objs.size + 1 := by rw [Heap.size_update, size_push']
  have own : (((s.heap.push (seqObj "list" #[] 0)).update s.heap.objs.size (Obj.mapSeq (· ++ vs.toArray))).push (seqObj "list" vs.toArray 0)).get? (s.heap.objs.size + 1) = some (seqObj "list" vs.toArray 0) := by
    rw [← size]
    exact Heap.get?_push_size _ rfl
  have old : ∀ b o, s.heap.get? b = some o → o.cls = .type "tuple" → (((s.heap.push (seqObj "list" #[] 0)).update s.heap.objs.size (Obj.mapSeq (· ++ vs.toArray))).push (seqObj "list" vs.toArray 0)).get? b = some o := fun b o e _ => by
    have lt := Heap.lt_size e
    rw [Heap.get?_push_ne _ _ _ (by rw [size]; exact Nat.ne_of_lt (Nat.lt_succ_of_lt lt)), Heap.get?_update_ne _ _ _ _ (Nat.ne_of_lt lt), Heap.get?_push_ne _ _ _ (Nat.ne_of_lt lt)]
    exact e
  show wpAny _ _ _ _ _ { s with heap := ((s.heap.push (seqObj "list" #[] 0)).update s.heap.objs.size (Obj.mapSeq (· ++ vs.toArray))).push (seqObj "list" vs.toArray 0) }
  rw [size]
  refine wpAny_bind (wpAny_holding (wpAny_call_entry slot_list_sort ⟨_, own, rfl⟩ entry_list_sort (sortV hB own h64 (x.keeps old) (fun v => rk B D (TS.intsOf s.heap v)) (fun v hv ns t => ?_) fun out a1 a2 => ⟨_, rfl, wpAny_pure ⟨_, rfl, h out a1 a2⟩⟩) (args_list_sort _)))
  obtain ⟨ns0, t0, _⟩ := x v hv
  rw [show ns = ns0 from t.ints.symm.trans (t0.keeps old).ints]
  exact congrArg (rk B D) t0.ints
end
/-- sorted(xs), xs a list of fewer than 64 tuples, none (), of at most D whole numbers below B: a new list of the same, ascending -/
def rSortV (K : PySem.W.Frag) (D : Nat) (B : Int) : List V → Hp → VK → Prop := fun vs H Q => ∃ (a : Addr) (xs : List V), vs = [V.ref a] ∧ SqL K H a xs ∧ xs.length < 64 ∧ (∀ x ∈ xs, ∃ ns, TupI K H x ns ∧ 1 ≤ ns.length ∧ ns.length ≤ D ∧ Dg B ns) ∧
  ∀ (ys : List V) (p : Addr), ys.Perm xs → ys.Pairwise (fun x y => ∀ n m, TupI K H x n → TupI K H y m → ltI m n = false) → H p = none → Q (.ref p) (upd H p (.lst ys))
theorem cr_sortV {X : Cx} {D : Nat} {B : Int} (hB : 0 ≤ B) : CallR X (.builtin "sorted") (rSortV X.K D B) := by
  intro pins s σ H vs us Q I r h
  obtain ⟨a, xs, rfl, hs, h64, hx, q⟩ := h
  obtain ⟨its, rv, hl, hz⟩ := I.list hs
  rw [Vals.ref1 r]
  obtain ⟨e1, e2⟩ := bkV_refs rv fun x m => by
    obtain ⟨ns, ⟨t, e, _⟩, _⟩ := hx x m
    exact ⟨t, e⟩
  have ok : TupsV s.heap D B its := fun v hv => by
    obtain ⟨t, rfl⟩ := e2 v hv
    obtain ⟨ns, ⟨t', e, ht⟩, r⟩ := hx (V.ref t) (by rw [e1]; exact List.mem_map.mpr ⟨_, hv, rfl⟩)
    cases e
    exact ⟨ns, tupI_raw I ht, r⟩
  refine sortedV (D := D) (B := B) hB hl.isList (by rw [← rv.length]; exact h64) ok fun out h1 h2 => ?_
  obtain ⟨ep, he⟩ := PyProof.Rows.sortedAll_at s.heap its out
  have h3 : ∀ u ∈ out.toList, ∃ a, u = Value.ref a := fun u hu => e2 u (h1.mem_iff.mp hu)
  have hp : (out.toList.map bkV).Perm xs := by
    rw [e1]
    exact h1.map bkV
  refine ⟨.ref _, upd H (s.heap.objs.size + 1) (.lst (out.toList.map bkV)), I.laid (t' := s.toks) (fun _ _ => PyProof.Rows.sortedAll_old) (Nat.le_succ _) ⟨by rw [hp.length_eq]; exact hz, out.toList, ep, bkV_vals h3, he⟩, rfl, q _ _ hp ?_ (I.hok.fresh (Nat.le_succ _))⟩
  rw [List.pairwise_map]
  refine List.Pairwise.imp_of_mem (fun {u v} hu hv huv n m hn hm => ?_) h2
  obtain ⟨t, et, ht⟩ := hn
  obtain ⟨t', et', ht'⟩ := hm
  obtain ⟨ns, t1, _, l1, b1⟩ := ok u (h1.mem_iff.mp hu)
  obtain ⟨ms, t2, _, l2, b2⟩ := ok v (h1.mem_iff.mp hv)
  have i1 : n = ns := by
    rw [bkV_ref et] at t1
    exact (tupI_raw I ht).ints.symm.trans t1.ints
  have i2 : m = ms := by
    rw [bkV_ref et'] at t2
    exact (tupI_raw I ht').ints.symm.trans t2.ints
  rw [t1.ints, t2.ints] at huv
  rw [i1, i2]
  exact (rk_le hB b1 b2 l1 l2).mp huv
end KV

/-! Own layer: sorted(set(t)), t a tuple of whole numbers, or of tuples of such. -/
namespace KV
open PySem PySem.Spec PyProof.Rows L2
section
variable {X : Cx}
/-- set(t), t a tuple of whole numbers -/
def rSetI (K : PySem.W.Frag) (w : World) : List V → Hp → VK → Prop := fun xs H Q => ∃ (p : Addr) (ns : List Int), xs = [.ref p] ∧ SqT K H p (ns.map V.int) ∧ ns.length < 64 ∧ ∀ a c, H a = none → c ≤ ns.length → Q (.ref a) (upd H a (SetO w a (fun j => decide (j ∈ ns)) c))
theorem cr_setI (hc : X.calm = true) : CallR X (.type "set") (rSetI X.K X.w) := by
  intro pins s σ H xs us Q I r h
  obtain ⟨p, ns, rfl, hp, hf, q⟩ := h
  rw [Vals.ref1 r]
  obtain ⟨its, rv, pl, hz⟩ := I.tuple hp
  refine call_set_tupI (P := X.prog) (w := X.w) ns (I.ok.hd hc) pl (by simpa using rv.ints) (by unfold scanBound; omega) fun h' tk c S hc' k => ?_
  exact ⟨.ref s.heap.objs.size, _, I.laid (t' := tk) k (Nat.le_refl _) (setO_new S), rfl, q _ c (I.hok.fresh (Nat.le_refl _)) hc'⟩
end
section
variable {P : Program} {w : World} {A : Around} {E : Value → Shared → Prop} {s : Shared}
theorem set_tups {l : Addr} {its : Array Value} (ks : List (Addr × List Int)) {Q : Value → Shared → Prop} (hh : A.handled = none) (hl : s.heap.IsTuple l its) (hi : its.toList = ks.map fun p => Value.ref p.1) (hk : ∀ p ∈ ks, IsT P w s.heap p.2 p.1) (hf : ks.length < 64) (hu : A.units + 3 < cLine)
    (h : ∀ (h' : Heap) (tk : Nat) (L : List (Addr × List Int)) (es : Array (Int × Value)) (ep : Nat) (t : SetTable), SetTR P w h' s.heap.objs.size L es ep t → Got ks ks.length L → (∀ b o, s.heap.get? b = some o → h'.get? b = some o) → Q (.ref s.heap.objs.size) { s with heap := h', toks := tk }) :
    wpAny (model P w) A (call (.type "set") [.ref l]) Q E s := by
  have hz : its.size = ks.length := by
    have z := congrArg List.length hi
    rwa [Array.length_toList, List.length_map] at z
  obtain ⟨m1, m2, chain⟩ := F.called_set.mro
  have own1 := F.called_set.made
  have own2 := F.called_set.sub
  have own3 := F.called_set.notType
  have own4 := F.called_set.canCreate
  have own5 := F.typeCall_set_1 (.ref l)
  generalize hled : (!w.params.followText "set-order") = led
  refine wpAny_call (codeAny_of_tree ?_)
  show wpAny _ _ (callAny (.type "set") _) _ _ _
  refine wpAny_pure ⟨Code.quiet_builtin _ (by decide +kernel), codeAny_builtin F.entry_type_call ?_⟩
  rw [Around.under_plain (weight_type_call_type "set" [.ref l] []) rfl]
  repeat (any_goals (first | assumption | wp_step))
  refine codeAny_mono (code_set_led1 (.ref l) (E := E) (Q₁ := fun obj s₁ => obj = .ref s.heap.objs.size ∧ s₁ = { s with heap := s.heap.push { cls := .type "set", dict := none, data := .set #[] 0 (.fresh 0 0 led) } }) ⟨rfl, by rw [hled]⟩) fun res st hst => ?_
  cases res with
  | error e => exact hst
  | ok fl =>
  cases fl with
  | next => exact hst.elim
  | brk => exact hst.elim
  | cont => exact hst.elim
  | ret obj =>
  obtain ⟨rfl, rfl⟩ := hst
  have hS := Heap.get?_push_size s.heap (o := { cls := .type "set", dict := none, data := .set #[] 0 (.fresh 0 0 led) }) rfl
  have ty : Shared.TypeIs { s with heap := s.heap.push { cls := .type "set", dict := none, data := .set #[] 0 (.fresh 0 0 led) } } (.ref s.heap.objs.size) "set" := ⟨_, hS, rfl⟩
  have own6 := F.called_set.init.lookup
  have own7 := F.called_set.init.bind (.ref s.heap.objs.size)
  repeat (any_goals (first | assumption | wp_step))
  refine codeAny_mono (codeAny_call_builtin (R := wants (fun r st => r = .none ∧ ∃ h' tk L es ep t, st = { s with heap := h', toks := tk } ∧ SetTR P w h' s.heap.objs.size L es ep t ∧ Got ks ks.length L ∧ ∀ b o, s.heap.get? b = some o → h'.get? b = some o) E) F.called_set.init.plain F.entry_set_init (check_set_init_1 ty ?_)) fun res st hst => ?_
  · have hlt : l < s.heap.objs.size := let ⟨_, e, _⟩ := hl; Heap.lt_size e
    have tup : (s.heap.push { cls := .type "set", dict := none, data := .set #[] 0 (.fresh 0 0 led) }).IsTuple l its := hl.push _
    obtain ⟨⟨tc, td, tdat, tsl⟩, g1, g2, tn, g3⟩ := id tup
    simp only at g2 g3
    subst g2 g3
    have no1 := F.sub_tuple_set
    have no2 := F.sub_tuple_frozenset
    have no3 : (Value.type "tuple" == Value.type "dict") = false := by decide
    unfold Builtin.«set.__init__» noKeywords Builtin.Frozenset.updateFrom
    generalize walkTo : pyIter = go
    wp_walk
    subst walkTo
    refine wpAny_pyIter_tuple tup (wpAny_bind (wpAny_runValue ?_))
    have sz := Heap.size_push s.heap { cls := .type "set", dict := none, data := .set #[] 0 (.fresh 0 0 led) }
    have apart : l ≠ (s.heap.push { cls := .type "set", dict := none, data := .set #[] 0 (.fresh 0 0 led) }).objs.size := by
      rw [sz]
      exact Nat.ne_of_lt (Nat.lt_succ_of_lt hlt)
    have free : s.heap.objs.size ∉ [(s.heap.push { cls := .type "set", dict := none, data := .set #[] 0 (.fresh 0 0 led) }).objs.size, l] := fun m => by
      rcases List.mem_cons.mp m with z | z
      · rw [sz] at z
        exact Nat.ne_of_lt (Nat.lt_succ_self _) z
      · exact Nat.ne_of_gt hlt (List.mem_singleton.mp z)
    have off : ∀ b, s.heap.objs.size ≤ b → s.heap.get? b = none := fun b hb => by
      cases q : s.heap.get? b with
      | none => rfl
      | some o => exact absurd (Heap.lt_size q) (Nat.not_lt_of_le hb)
    refine set_update_tups ((Walks.tuple (show A.in1.in1.in1.handled = none from hh) _ l apart its).toS) s.heap.objs.size free ks hz hf (fun i v e => ?_) s.heap hk (off _ (Nat.le_refl _)) (fun b hb => off b (by rw [List.mem_singleton.mp hb, sz]; exact Nat.le_succ _)) hu (its.size - 0) 0 _ (Nat.sub_zero _) (Nat.zero_le _)
      ⟨⟨_, Heap.get?_push_size _ rfl, rfl, rfl⟩, tup.push _⟩ (fun b o e => Heap.get?_push_of_some _ (Heap.get?_push_of_some _ e)) ⟨[], #[], 0, _, setTR_fresh (by rw [hled]; exact Heap.get?_push_of_some _ hS), Got.zero ks⟩ fun s' L es ep t mv S' g' kp => ?_
    · have z : its.toList[i]? = some v := by rw [Array.getElem?_toList]; exact e
      rw [hi, List.getElem?_map] at z
      obtain ⟨p, hp, e2⟩ := Option.map_eq_some_iff.mp z
      exact ⟨p, hp, e2.symm⟩
    · obtain ⟨h', g2, d', tk', os'⟩ := s'
      have e1 : g2 = s.gens := mv.gens
      have e2 : d' = s.drawn := mv.drawn
      have e3 : os' = s.os := mv.os
      subst e1 e2 e3
      rw [hz] at g'
      exact wpAny_pure (wpAny_pure ⟨rfl, h', tk', L, es, ep, t, rfl, S', g', kp⟩)
  · cases res with
    | error e => exact hst
    | ok fl =>
    cases fl with
    | next => exact hst.elim
    | brk => exact hst.elim
    | cont => exact hst.elim
    | ret r =>
    obtain ⟨rfl, h', tk, L, es, ep, t, rfl, S', g', kp⟩ := hst
    repeat (any_goals (first | assumption | wp_step))
    exact h h' tk L es ep t S' g' kp
/-- sorted of a set of tuples, none (), of at most D whole numbers below B -/
theorem sorted_setV {a : Addr} {L : List (Addr × List Int)} {es : Array (Int × Value)} {ep : Nat} {t : SetTable} {Q : Value → Shared → Prop} (R : SetTR P w s.heap a L es ep t) (hh : A.handled = none) {D : Nat} {B : Int} (hB : 0 ≤ B) (hL : ∀ p ∈ L, 1 ≤ p.2.length ∧ p.2.length ≤ D ∧ Dg B p.2)
    (hQ : ∀ s' p (out : Array Value) (c : Nat) (L' : List (Addr × List Int)), (∀ b o, s.heap.get? b = some o → s'.heap.get? b = some o) → s'.gens = s.gens → s'.os = s.os → s.heap.objs.size ≤ p →
      s'.heap.get? p = some (seqObj "list" out c) → out.toList = L'.map (fun q => Value.ref q.1) → L'.Perm L → L'.Pairwise (fun q r => ltI r.2 q.2 = false) → Q (.ref p) s') :
    wpAny (model P w) A (call (.builtin "sorted") [.ref a]) Q E s := by
  obtain ⟨o, ho, hex, hd⟩ := R.ob
  have hsz := R.size
  have hfew := R.few
  refine Calls.call_function_entry kind_sorted plain_sorted entry_sorted (args_sorted1 _) ?_
  unfold Builtin.«sorted»
  refine wpAny_bind (m := checkCount "sorted" 1 1 _) (wpAny_pure (wpAny_bind (collect_set (A := A.in1) hh ⟨o, ho, hex.1, hd⟩ R.fits (by unfold scanBound; omega) R.tab.ris R.led fun s1 vs k1 hz g1 o1 pm => ?_)))
  have rows : es.toList.map (·.2) = L.map fun q => Value.ref q.1 := by
    rw [R.rows]
    unfold rowsOf
    rw [List.map_map]
    rfl
  rw [rows] at pm
  have back : ∀ vs : List Value, (∀ v ∈ vs, v ∈ L.map fun q => Value.ref q.1) → ∃ M : List (Addr × List Int), vs = M.map (fun q => Value.ref q.1) ∧ ∀ q ∈ M, q ∈ L := by
    intro vs
    induction vs with
    | nil => exact fun _ => ⟨[], rfl, fun q hq => absurd hq List.not_mem_nil⟩
    | cons v vs ih =>
      intro hv
      obtain ⟨q, hq, e⟩ := List.mem_map.mp (hv v List.mem_cons_self)
      obtain ⟨M, e1, hs⟩ := ih fun u hu => hv u (List.mem_cons_of_mem _ hu)
      exact ⟨q :: M, by rw [List.map_cons, e, e1], fun r hr => (List.mem_cons.mp hr).elim (fun z => z ▸ hq) (hs r)⟩
  have same : ∀ q ∈ L, ∀ r ∈ L, q.1 = r.1 → q = r := fun q hq r hr e => by
    have a1 := R.tup q hq
    rw [e] at a1
    exact Prod.ext e (a1.inj (R.tup r hr))
  have nL : L.Nodup := nodup_of_map R.nd
  have nR : (L.map fun q => Value.ref q.1).Nodup := List.pairwise_map.mpr (nL.imp_of_mem fun {q r} hq hr ne e => ne (same q hq r hr (Value.ref.inj e)))
  have few : vs.length < 64 := by rw [pm.length_eq, List.length_map]; exact hfew
  refine wpAny_bind (wpAny_newList ?_ (by rw [sizeLine_eq]; omega))
  have own : (s1.heap.push (seqObj "list" vs.toArray 0)).get? s1.heap.objs.size = some (seqObj "list" vs.toArray 0) := Heap.get?_push_size _ rfl
  have ofq : ∀ q ∈ L, TS.TupInts (s1.heap.push (seqObj "list" vs.toArray 0)) (.ref q.1) q.2 := fun q hq => tupInts_of (P := P) (w := w) (isT_keep (R.tup q hq) fun b u e => Heap.get?_push_of_some _ (k1 b u e))
  have x : TupsV (s1.heap.push (seqObj "list" vs.toArray 0)) D B vs := fun v hv => by
    obtain ⟨q, hq, e⟩ := List.mem_map.mp (pm.mem_iff.mp hv)
    rw [← e]
    exact ⟨q.2, ofq q hq, hL q hq⟩
  refine wpAny_bind (wpAny_holding (call_sortV (s := { s1 with heap := s1.heap.push (seqObj "list" vs.toArray 0) }) hB own few x fun out a1 a2 => ?_))
  obtain ⟨c, hc⟩ := sortedHeap_at (vs := vs) (out := out) own
  obtain ⟨M, e, sub⟩ := back out.toList fun v hv => pm.mem_iff.mp (a1.mem_iff.mp hv)
  have pM : (M.map fun q => Value.ref q.1).Perm (L.map fun q => Value.ref q.1) := by rw [← e]; exact a1.trans pm
  have nM : M.Nodup := nodup_of_map (pM.nodup_iff.mpr nR)
  have perm : M.Perm L := (List.perm_ext_iff_of_nodup nM nL).mpr fun q => ⟨sub q, fun hq => by
    obtain ⟨r, hr, z⟩ := List.mem_map.mp (pM.mem_iff.mpr (List.mem_map.mpr ⟨q, hq, rfl⟩))
    rw [← same r (sub r hr) q hq (Value.ref.inj z)]
    exact hr⟩
  have up : M.Pairwise (fun q r => ltI r.2 q.2 = false) := by
    rw [e] at a2
    refine (List.pairwise_map.mp a2).imp_of_mem fun {q r} hq hr le => ?_
    rw [(ofq q (sub q hq)).ints, (ofq r (sub r hr)).ints] at le
    exact (rk_le hB (hL q (sub q hq)).2.2 (hL r (sub r hr)).2.2 (hL q (sub q hq)).2.1 (hL r (sub r hr)).2.1).mp le
  refine wpAny_pure ⟨_, rfl, hQ _ s1.heap.objs.size out c M (fun b u z => ?_) g1 o1 hz hc e perm up⟩
  have lt := Heap.lt_size (k1 b u z)
  show (sortedHeap (s1.heap.push (seqObj "list" vs.toArray 0)) s1.heap.objs.size vs out).get? b = some u
  rw [sortedHeap_old (Nat.ne_of_lt lt) (by rw [size_push']; exact Nat.lt_succ_of_lt lt)]
  exact Heap.get?_push_of_some _ (k1 b u z)
end
section
variable {X : Cx}
/-- set(t), t a tuple of tuples of whole numbers -/
def rSetTT (K : PySem.W.Frag) (P : Program) (w : World) : List V → Hp → VK → Prop := fun xs H Q => ∃ (l : Addr) (ks : List (Addr × List Int)), xs = [V.ref l] ∧ SqT K H l (ks.map fun p => V.ref p.1) ∧ (∀ p ∈ ks, SqT K H p.1 (p.2.map V.int)) ∧ ks.length < 64 ∧
  ∀ a L, H a = none → (∀ p ∈ L, p ∈ ks) → (∀ p ∈ ks, p.2 ∈ L.map (·.2)) → Q (.ref a) (upd H a (SetTO P w a L))
theorem cr_setTT (hc : X.calm = true) (hu : X.A.units + 64 < cLine) : CallR X (.type "set") (rSetTT X.K X.prog X.w) := by
  intro pins s σ H xs us Q I r h
  obtain ⟨l, ks, rfl, hl, hk, hf, q⟩ := h
  rw [Vals.ref1 r]
  obtain ⟨its, rv, pl, hz⟩ := I.tuple hl
  refine set_tups (P := X.prog) (w := X.w) ks (I.ok.hd hc) pl (by simpa using refs_of_vals rv) (fun p hp => I.isT (hk p hp)) hf (by omega) fun h' tk L es ep t R g k => ?_
  exact ⟨.ref s.heap.objs.size, _, I.laid (t' := tk) k (Nat.le_refl _) (setTO_new R.t0), rfl, q _ L (I.hok.fresh (Nat.le_refl _)) (fun p hp => List.mem_of_mem_take (g.sub p hp)) fun p hp => g.all p (by rw [List.take_length]; exact hp)⟩
/-- sorted of such a set -/
def rSortSV (K : PySem.W.Frag) (P : Program) (w : World) : List V → Hp → VK → Prop := fun vs H Q => ∃ (a : Addr) (L : List (Addr × List Int)) (D : Nat) (B : Int), vs = [V.ref a] ∧ H a = some (SetTO P w a L) ∧ (∀ p ∈ L, SqT K H p.1 (p.2.map V.int)) ∧ 0 ≤ B ∧ (∀ p ∈ L, 1 ≤ p.2.length ∧ p.2.length ≤ D ∧ Dg B p.2) ∧
  ∀ (M : List (Addr × List Int)) (p : Addr), M.Perm L → (M.map (·.2)).Nodup → M.Pairwise (fun q r => ltI r.2 q.2 = false) → H p = none → Q (.ref p) (upd H p (.lst (M.map fun q => V.ref q.1)))
theorem cr_sortSV (hc : X.calm = true) : CallR X (.builtin "sorted") (rSortSV X.K X.prog X.w) := by
  intro pins s σ H vs us Q I r h
  obtain ⟨a, L, D, B, rfl, ha, hk, hB, hL, q⟩ := h
  have R0 : SetT0 X.prog X.w s.heap a L := (I.hok a _ ha).1
  obtain ⟨es, ep, t, R⟩ := R0.full fun p hp => I.isT (hk p hp)
  rw [Vals.ref1 r]
  refine sorted_setV R (I.ok.hd hc) hB hL fun s' p out c M k g o hp hg hout pm pw => ?_
  have few : M.length < 64 := by rw [pm.length_eq]; exact R.few
  have free : H p = none := I.hok.fresh hp
  obtain ⟨h', g', d', t', os'⟩ := s'
  cases o
  have J : Inv X pins σ (upd H p (.lst (M.map fun q => V.ref q.1))) ⟨h', g', d', t', s.os⟩ :=
    I.call (ch := []) (Un.laid k hp free) (I.hok.laid k hp ⟨by rw [List.length_map, sizeLine_eq]; omega, out.toList, c, by rw [hout]; exact vals_of_refs M, hg⟩) (by cases g; exact I.bare) (fun _ z => nomatch z)
  exact ⟨.ref p, _, J, rfl, q M p pm ((pm.map (·.2)).nodup_iff.mpr R.nd) pw free⟩
end
end KV

namespace GR
open PySem PySem.Spec PyProof.Rows L2 KL KG KS
theorem Kp.off {Z : Addr → Prop} {H G : Hp} {p : Addr} {o : HO} (k : Kp Z H G) (n : H p = none) : Kp Z H (upd G p o) := fun b u nz e => by
  rw [upd_ne (ne_of_none e n)]
  exact k b u nz e
/-- pigeons, of any kind -/
theorem nodup_le {α : Type} [DecidableEq α] : ∀ (l D : List α), l.Nodup → (∀ x ∈ l, x ∈ D) → l.length ≤ D.length
  | [], _, _, _ => Nat.zero_le _
  | x :: l, D, hn, hs => by
    obtain ⟨h1, h2⟩ := List.nodup_cons.mp hn
    have hx : x ∈ D := hs x List.mem_cons_self
    have ih := nodup_le l (D.erase x) h2 fun y hy => (List.mem_erase_of_ne (fun (e : y = x) => h1 (by rw [← e]; exact hy))).2 (hs y (List.mem_cons_of_mem _ hy))
    have e := List.length_erase_of_mem hx
    have p : 0 < D.length := List.length_pos_of_mem hx
    rw [List.length_cons]
    omega
theorem in_str_iff {x : Str} {ws : List Str} : inV (.str x) (ws.map V.str) = true ↔ x ∈ ws := by
  unfold inV
  rw [List.any_eq_true]
  constructor
  · rintro ⟨v, hv, e⟩
    obtain ⟨y, hy, rfl⟩ := List.mem_map.mp hv
    have e : (x == y) = true ∨ (y == x) = true := by first | exact .inl e | exact .inr e
    rcases e with e | e
    · rw [beq_iff_eq.mp e]
      exact hy
    · rw [← beq_iff_eq.mp e]
      exact hy
  · intro h
    exact ⟨.str x, List.mem_map.mpr ⟨x, h, rfl⟩, beq_self_eq_true x⟩
def Wl (H : Hp) (a : Addr) : Prop := ∃ x y z : Int, H a = some (.lst [.int x, .int y, .int z])
/-- only the well at a has changed -/
def Mv (a : Addr) (H G : Hp) : Prop := Kp (fun b => b = a) H G ∧ Wl G a
theorem Mv.tr {a : Addr} {H G J : Hp} (h : Mv a H G) (k : Mv a G J) : Mv a H J := ⟨h.1.tr k.1, k.2⟩
theorem Mv.trk {a : Addr} {H G : Hp} (h : Mv a H G) : ∀ b, tracked H b → tracked G b := fun b t => by
  by_cases e : b = a
  · obtain ⟨x, y, z, q⟩ := h.2
    rw [e]
    intro n
    rw [q] at n
    cases n
  · intro n
    apply t
    cases q : H b with
    | none => rfl
    | some o =>
      have := h.1 b o e q
      rw [n] at this
      cases this
theorem Wl.ne {H : Hp} {a p : Addr} (h : Wl H a) (n : H p = none) : a ≠ p := by
  obtain ⟨x, y, z, q⟩ := h
  exact ne_of_none q n
theorem Wl.new {H : Hp} {a p : Addr} {o : HO} (h : Wl H a) (n : H p = none) : Wl (upd H p o) a := by
  have e := h.ne n
  obtain ⟨x, y, z, q⟩ := h
  exact ⟨x, y, z, by rw [upd_ne e]; exact q⟩
theorem Mv.new {H : Hp} {a p : Addr} {o : HO} (h : Wl H a) (n : H p = none) : Mv a H (upd H p o) := ⟨Kp.new n, h.new n⟩
theorem trk_ne {H : Hp} {a p : Addr} (h : tracked H a) (n : H p = none) : a ≠ p := fun e => h (e ▸ n)

/-- the names of a graph's first part -/
def strsD : PyData → List Str
  | .tuple ds => ds.map valS
  | _ => []
def rowsD : PyData → List (List Int)
  | .tuple ds => ds.map rowD
  | _ => []
def LotN (n : Nat) (ns : List Int) : Prop := ns.Pairwise (· < ·) ∧ ∀ x ∈ ns, 0 ≤ x ∧ x < (n : Int)
end GR

namespace GR
open PySem PySem.Spec PyProof.Rows L2 KL KG KS KV
/-! ### data: lots, bounds -/
def dInts (ns : List Int) : PyData := .tuple (ns.map .int)
theorem row_dInts (ns : List Int) : rowD (dInts ns) = ns := by
  show (ns.map PyData.int).map valI = ns
  rw [List.map_map]
  exact List.map_id ns
theorem len_dInts (ns : List Int) : lenD (dInts ns) = ns.length := List.length_map ..
theorem asc_of {ns : List Int} (h : ns.Pairwise (· < ·)) : ascL ns = true := by
  unfold ascL
  rw [List.all_eq_true]
  intro i hi
  have hi := List.mem_range.mp hi
  have h1 : i < ns.length := by omega
  have h2 : i + 1 < ns.length := by omega
  refine decide_eq_true ?_
  rw [List.getD_eq_getElem?_getD, List.getD_eq_getElem?_getD, List.getElem?_eq_getElem h1, List.getElem?_eq_getElem h2]
  exact List.pairwise_iff_getElem.mp h i (i + 1) h1 h2 (by omega)
theorem asc_to {ns : List Int} (h : ascL ns = true) : ns.Pairwise (· < ·) := by
  unfold ascL at h
  rw [List.all_eq_true] at h
  have step : ∀ i, (h2 : i + 1 < ns.length) → ns[i]'(by omega) < ns[i + 1] := fun i h2 => by
    have z := of_decide_eq_true (h i (List.mem_range.mpr (by omega)))
    rw [List.getD_eq_getElem?_getD, List.getD_eq_getElem?_getD, List.getElem?_eq_getElem (show i < ns.length by omega), List.getElem?_eq_getElem h2] at z
    exact z
  refine List.pairwise_iff_getElem.mpr fun i j hi hj lt => ?_
  have key : ∀ k, (hk : i + 1 + k < ns.length) → ns[i] < ns[i + 1 + k] := by
    intro k
    induction k with
    | zero => exact fun hk => step i hk
    | succ k ih => exact fun hk => Int.lt_trans (ih (by omega)) (step (i + 1 + k) hk)
  have z := key (j - (i + 1)) (by omega)
  have e : i + 1 + (j - (i + 1)) = j := by omega
  simp only [e] at z
  exact z
theorem lot_data {n : Nat} {ns : List Int} (h : LotN n ns) : isLotD (n : Int) (dInts ns) = true := by
  show ((ns.map PyData.int).all (inB n) && ascL ((ns.map PyData.int).map valI)) = true
  rw [List.map_map, show ns.map (valI ∘ PyData.int) = ns from List.map_id ns, asc_of h.1, Bool.and_true, List.all_eq_true]
  intro d hd
  obtain ⟨x, hx, rfl⟩ := List.mem_map.mp hd
  obtain ⟨h1, h2⟩ := h.2 x hx
  show (decide (0 ≤ x) && decide (x < (n : Int))) = true
  rw [decide_eq_true h1, decide_eq_true h2]
  rfl
/-- the order of tuples, as the comparison gives it -/
theorem lexAt_shift {e r e' r' : Nat → Bool} {z : Bool} (he : ∀ i, e' i = e (i + 1)) (hr : ∀ i, r' i = r (i + 1)) : ∀ k i, Ob.lexAt e r z (i + 1) k = Ob.lexAt e' r' z i k
  | 0, i => rfl
  | k + 1, i => by
    rw [Ob.lexAt_succ, Ob.lexAt_succ, he, hr, lexAt_shift he hr k (i + 1)]
theorem ltT_I : ∀ x y : List Int, ltT x y = ltI x y
  | [], [] => rfl
  | [], _ :: _ => rfl
  | _ :: _, [] => rfl
  | a :: x, b :: y => by
    have ih := ltT_I x y
    unfold ltT at ih ⊢
    have e : min (a :: x).length (b :: y).length = min x.length y.length + 1 := by
      simp only [List.length_cons]
      omega
    rw [e, Ob.lexAt_succ]
    have l : decide ((a :: x).length < (b :: y).length) = decide (x.length < y.length) := by simp
    rw [l, lexAt_shift (e' := fun j => decide (x.getD j 0 = y.getD j 0)) (r' := fun j => decide (x.getD j 0 < y.getD j 0)) (fun i => rfl) (fun i => rfl), ih]
    show (if decide (a = b) = true then ltI x y else decide (a < b)) = if a = b then ltI x y else decide (a < b)
    by_cases c : a = b
    · rw [if_pos c, if_pos (decide_eq_true c)]
    · rw [if_neg c, if_neg (by rw [decide_eq_false c]; exact Bool.false_ne_true)]
theorem ltI_tri : ∀ {x y : List Int}, ltI y x = false → x ≠ y → ltI x y = true
  | [], [], _, h => absurd rfl h
  | [], _ :: _, _, _ => rfl
  | _ :: _, [], h, _ => by cases h
  | a :: x, b :: y, h, ne => by
    have h : (if b = a then ltI y x else decide (b < a)) = false := h
    show (if a = b then ltI x y else decide (a < b)) = true
    by_cases c : a = b
    · rw [if_pos c.symm] at h
      rw [if_pos c]
      exact ltI_tri h fun z => ne (by rw [c, z])
    · rw [if_neg (fun z => c z.symm)] at h
      rw [if_neg c]
      have := of_decide_eq_false h
      exact decide_eq_true (by omega)
theorem ltI_irr : ∀ x : List Int, ltI x x = false
  | [] => rfl
  | a :: x => by
    show (if a = a then ltI x x else decide (a < a)) = false
    rw [if_pos rfl]
    exact ltI_irr x
theorem ltI_trans : ∀ {x y z : List Int}, ltI x y = true → ltI y z = true → ltI x z = true
  | [], [], _, h, _ => by cases h
  | [], _ :: _, [], _, h => by cases h
  | [], _ :: _, _ :: _, _, _ => rfl
  | _ :: _, [], _, h, _ => by cases h
  | _ :: _, _ :: _, [], _, h => by cases h
  | a :: x, b :: y, c :: z, h1, h2 => by
    have h1 : (if a = b then ltI x y else decide (a < b)) = true := h1
    have h2 : (if b = c then ltI y z else decide (b < c)) = true := h2
    show (if a = c then ltI x z else decide (a < c)) = true
    by_cases e1 : a = b
    · rw [if_pos e1] at h1
      by_cases e2 : b = c
      · rw [if_pos e2] at h2
        rw [if_pos (e1.trans e2)]
        exact ltI_trans h1 h2
      · rw [if_neg e2] at h2
        rw [if_neg (by rw [e1]; exact e2), e1]
        exact h2
    · rw [if_neg e1] at h1
      have l1 := of_decide_eq_true h1
      by_cases e2 : b = c
      · rw [if_neg (by rw [← e2]; exact e1), ← e2]
        exact h1
      · rw [if_neg e2] at h2
        have l2 := of_decide_eq_true h2
        rw [if_neg (by omega)]
        exact decide_eq_true (by omega)
theorem ascR_of {rows : List (List Int)} (h : rows.Pairwise (fun x y => ltI x y = true)) : ascR rows = true := by
  unfold ascR
  rw [List.all_eq_true]
  intro i hi
  have hi := List.mem_range.mp hi
  have h1 : i < rows.length := by omega
  have h2 : i + 1 < rows.length := by omega
  rw [List.getD_eq_getElem?_getD, List.getD_eq_getElem?_getD, List.getElem?_eq_getElem h1, List.getElem?_eq_getElem h2, ltT_I]
  exact List.pairwise_iff_getElem.mp h i (i + 1) h1 h2 (by omega)
theorem ascR_to {rows : List (List Int)} (h : ascR rows = true) : rows.Pairwise (fun x y => ltI x y = true) := by
  unfold ascR at h
  rw [List.all_eq_true] at h
  have step : ∀ i, (h2 : i + 1 < rows.length) → ltI (rows[i]'(by omega)) rows[i + 1] = true := fun i h2 => by
    have z := h i (List.mem_range.mpr (by omega))
    rw [List.getD_eq_getElem?_getD, List.getD_eq_getElem?_getD, List.getElem?_eq_getElem (show i < rows.length by omega), List.getElem?_eq_getElem h2, ltT_I] at z
    exact z
  refine List.pairwise_iff_getElem.mpr fun i j hi hj lt => ?_
  have key : ∀ k, (hk : i + 1 + k < rows.length) → ltI rows[i] rows[i + 1 + k] = true := by
    intro k
    induction k with
    | zero => exact fun hk => step i hk
    | succ k ih => exact fun hk => ltI_trans (ih (by omega)) (step (i + 1 + k) hk)
  have z := key (j - (i + 1)) (by omega)
  have e : i + 1 + (j - (i + 1)) = j := by omega
  simp only [e] at z
  exact z
/-! ### data of bounded size -/
mutual
def okd (n : Nat) : PyData → Bool
  | .none => true
  | .bool _ => true
  | .int i => decide (i.natAbs < 2 ^ 100)
  | .str x => decide (x.length ≤ 1000)
  | .list ds => decide (ds.length ≤ n) && okdL n ds
  | .tuple ds => decide (ds.length ≤ n) && okdL n ds
  | .dict kvs => kvs.isEmpty
def okdL (n : Nat) : List PyData → Bool
  | [] => true
  | d :: ds => okd n d && okdL n ds
end
theorem okdL_iff {n : Nat} : ∀ {ds : List PyData}, okdL n ds = true ↔ ∀ d ∈ ds, okd n d = true
  | [] => by simp [okdL]
  | d :: ds => by
    simp only [okdL, Bool.and_eq_true, okdL_iff (ds := ds), List.mem_cons, forall_eq_or_imp]
theorem okd_tup {n : Nat} {ds : List PyData} : okd n (.tuple ds) = true ↔ ds.length ≤ n ∧ ∀ d ∈ ds, okd n d = true := by
  simp only [okd, Bool.and_eq_true, okdL_iff, decide_eq_true_iff]
theorem okd_lst {n : Nat} {ds : List PyData} : okd n (.list ds) = true ↔ ds.length ≤ n ∧ ∀ d ∈ ds, okd n d = true := by
  simp only [okd, Bool.and_eq_true, okdL_iff, decide_eq_true_iff]
theorem okd_str {n : Nat} {x : Str} : okd n (.str x) = true ↔ x.length ≤ 1000 := by
  simp only [okd, decide_eq_true_iff]
theorem okd_int {n : Nat} {i : Int} : okd n (.int i) = true ↔ i.natAbs < 2 ^ 100 := by
  simp only [okd, decide_eq_true_iff]
mutual
theorem okd_up {n m : Nat} (h : n ≤ m) : ∀ {d : PyData}, okd n d = true → okd m d = true
  | .none, _ => rfl
  | .bool _, _ => rfl
  | .int _, e => okd_int.mpr (okd_int.mp e)
  | .str _, e => okd_str.mpr (okd_str.mp e)
  | .list ds, e => okd_lst.mpr ⟨Nat.le_trans (okd_lst.mp e).1 h, okdL_iff.mp (okdL_up h (okdL_iff.mpr (okd_lst.mp e).2))⟩
  | .tuple ds, e => okd_tup.mpr ⟨Nat.le_trans (okd_tup.mp e).1 h, okdL_iff.mp (okdL_up h (okdL_iff.mpr (okd_tup.mp e).2))⟩
  | .dict kvs, e => by simpa [okd] using e
theorem okdL_up {n m : Nat} (h : n ≤ m) : ∀ {ds : List PyData}, okdL n ds = true → okdL m ds = true
  | [], _ => rfl
  | d :: ds, e => by
    have e : (okd n d && okdL n ds) = true := by simpa [okdL] using e
    rw [Bool.and_eq_true] at e
    show (okd m d && okdL m ds) = true
    rw [okd_up h e.1, okdL_up h e.2]
    rfl
end
theorem okd_len {n : Nat} (hn : n ≤ 1000000) : ∀ (k : Nat) {d : PyData}, okd n d = true → LenD k d
  | 0, d, h => by
    show LenOk d
    cases d with
    | tuple ds => exact Nat.le_trans (okd_tup.mp h).1 hn
    | str x => exact Nat.le_trans (okd_str.mp h) (by decide)
    | _ => exact True.intro
  | k + 1, d, h => ⟨okd_len hn 0 h, fun ds e x hx => okd_len hn k (by subst e; exact (okd_tup.mp h).2 x hx)⟩
theorem okd_ints {n m : Nat} {ns : List Int} (hm : m ≤ 1000) (h : ∀ x ∈ ns, 0 ≤ x ∧ x < (m : Int)) (hl : ns.length ≤ n) : okd n (dInts ns) = true := by
  refine okd_tup.mpr ⟨by rw [List.length_map]; exact hl, fun d hd => ?_⟩
  obtain ⟨x, hx, rfl⟩ := List.mem_map.mp hd
  obtain ⟨h1, h2⟩ := h x hx
  refine okd_int.mpr (Nat.lt_of_lt_of_le (m := 1000) (by omega) (by decide))
/-! ### data and the other words for it -/
theorem DqL.ints {Z : Addr → Prop} {H : Hp} : ∀ ns : List Int, DqL Z H (ns.map V.int) (ns.map PyData.int)
  | [] => .nil
  | n :: ns => .cons (.int n) (DqL.ints ns)
theorem dInts_new {Z : Addr → Prop} {H : Hp} {p : Addr} {ns : List Int} (e : H p = some (.tup (ns.map V.int))) (z : ¬ Z p) : Dq Z H (.ref p) (dInts ns) := .tup (.inl e) z (DqL.ints ns)
theorem dInts_tup {Z : Addr → Prop} {H : Hp} {v : V} {ns : List Int} (h : Dq Z H v (dInts ns)) : ∃ p, v = .ref p ∧ Rd H p (.tup (ns.map V.int)) ∧ ¬ Z p := by
  unfold dInts at h
  cases h with
  | tup e z L =>
    refine ⟨_, rfl, ?_, z⟩
    have key : ∀ {xs : List V} {ns : List Int}, DqL Z H xs (ns.map PyData.int) → xs = ns.map V.int := by
      intro xs ns
      induction ns generalizing xs with
      | nil => intro L; cases L; rfl
      | cons n ns ih =>
        intro L
        cases L with
        | cons h t =>
          cases h
          rw [ih t]
          rfl
    rw [← key L]
    exact e
theorem DqL.perm {Z : Addr → Prop} {H : Hp} {xs ys : List V} (p : ys.Perm xs) : ∀ {ds : List PyData}, DqL Z H xs ds → ∃ es, es.Perm ds ∧ DqL Z H ys es := by
  induction p with
  | nil => exact fun L => ⟨_, .refl _, L⟩
  | cons x _ ih =>
    intro ds L
    cases L with
    | cons h t =>
      obtain ⟨es, pe, L'⟩ := ih t
      exact ⟨_, pe.cons _, .cons h L'⟩
  | swap x y l =>
    intro ds L
    cases L with
    | cons h t =>
      cases t with
      | cons h2 t => exact ⟨_, .swap _ _ _, .cons h2 (.cons h t)⟩
  | trans _ _ ih1 ih2 =>
    intro ds L
    obtain ⟨es, p1, L1⟩ := ih2 L
    obtain ⟨fs, p2, L2⟩ := ih1 L1
    exact ⟨fs, p2.trans p1, L2⟩
theorem rows_perm {es : List PyData} {rows : List (List Int)} (p : es.Perm (rows.map dInts)) : ∃ rs : List (List Int), es = rs.map dInts ∧ rs.Perm rows := by
  refine ⟨es.map rowD, ?_, ?_⟩
  · rw [List.map_map]
    refine (List.map_id es).symm.trans (List.map_congr_left fun d hd => ?_)
    obtain ⟨r, _, rfl⟩ := List.mem_map.mp (p.mem_iff.mp hd)
    show dInts r = dInts (rowD (dInts r))
    rw [row_dInts]
  · have z := p.map rowD
    rw [List.map_map] at z
    have e : rows.map (rowD ∘ dInts) = rows := (List.map_congr_left fun r _ => row_dInts r).trans (List.map_id rows)
    rwa [e] at z
mutual
def noDict : PyData → Bool
  | .list ds => noDictL ds
  | .tuple ds => noDictL ds
  | .dict _ => false
  | _ => true
def noDictL : List PyData → Bool
  | [] => true
  | d :: ds => noDict d && noDictL ds
end
mutual
theorem Dq.dp {K : PySem.W.Frag} {Z : Addr → Prop} {H : Hp} : ∀ (d : PyData) (v : V), noDict d = true → Dq Z H v d → Dp K H v d
  | .none, _, _, h => by cases h; exact .non
  | .bool _, _, _, h => by cases h; exact .bl _
  | .int _, _, _, h => by cases h; exact .int _
  | .str _, _, _, h => by cases h; exact .str _
  | .list ds, _, n, h => by
    cases h with
    | lst e z m L => exact .lst (.inl (.inl e)) (DqL.dp ds _ (by simpa [noDict] using n) L)
  | .tuple ds, _, n, h => by
    cases h with
    | tup e z L => exact .tup (.inl e) (DqL.dp ds _ (by simpa [noDict] using n) L)
  | .dict _, _, n, _ => by simp [noDict] at n
theorem DqL.dp {K : PySem.W.Frag} {Z : Addr → Prop} {H : Hp} : ∀ (ds : List PyData) (vs : List V), noDictL ds = true → DqL Z H vs ds → DpAll K H vs ds
  | [], _, _, h => by cases h; exact .nil
  | d :: ds, _, n, h => by
    cases h with
    | cons a t =>
      have n : (noDict d && noDictL ds) = true := by simpa [noDictL] using n
      rw [Bool.and_eq_true] at n
      exact .cons (Dq.dp d _ n.1 a) (DqL.dp ds _ n.2 t)
end
theorem noDictL_iff : ∀ {ds : List PyData}, noDictL ds = true ↔ ∀ d ∈ ds, noDict d = true
  | [] => by simp [noDictL]
  | d :: ds => by simp only [noDictL, Bool.and_eq_true, noDictL_iff (ds := ds), List.mem_cons, forall_eq_or_imp]
theorem noDict_ints (ns : List Int) : noDict (dInts ns) = true := by
  show noDictL (ns.map PyData.int) = true
  rw [noDictL_iff]
  intro d hd
  obtain ⟨x, _, rfl⟩ := List.mem_map.mp hd
  rfl
end GR

namespace GR
open PySem PySem.Spec PyProof.Rows L2 KL KG KS KV
/-! ### _law_graph -/
/-- arrows below n, ascending -/
def ArrN (n : Nat) (rows : List (List Int)) : Prop := rows.Pairwise (fun x y => ltI x y = true) ∧ ∀ r ∈ rows, LotN n r ∧ r.length = 2
/-- hidden lots below n, ascending -/
def HidN (n : Nat) (rows : List (List Int)) : Prop := rows.Pairwise (fun x y => ltI x y = true) ∧ rows.length ≤ 28 ∧ ∀ r ∈ rows, LotN n r ∧ 2 ≤ r.length
def dRows (rows : List (List Int)) : PyData := .tuple (rows.map dInts)
def dStrs (ws : List Str) : PyData := .tuple (ws.map .str)
def dGraph (ws : List Str) (ar hd : List (List Int)) : PyData := .tuple [dStrs ws, dRows ar, dRows hd]
theorem strs_of (ws : List Str) : strsD (dStrs ws) = ws := by
  show (ws.map PyData.str).map valS = ws
  rw [List.map_map]
  exact List.map_id ws
theorem rows_of (rows : List (List Int)) : rowsD (dRows rows) = rows := by
  show (rows.map dInts).map rowD = rows
  rw [List.map_map]
  exact (List.map_congr_left fun r _ => row_dInts r).trans (List.map_id rows)
theorem names_data {ws : List Str} (h0 : 1 ≤ ws.length) (h1 : ws.length ≤ 8) (nd : ws.Nodup) (nm : ∀ x ∈ ws, isNameD (.str x) = true) : isNamesD (dStrs ws) = true := by
  show ((decide (1 ≤ (ws.map PyData.str).length) && decide ((ws.map PyData.str).length ≤ 8)) && ((ws.map PyData.str).all isNameD && decide (((ws.map PyData.str).map valS).Nodup))) = true
  have e : (ws.map PyData.str).map valS = ws := strs_of ws
  have a : (ws.map PyData.str).all isNameD = true := by
    rw [List.all_eq_true]
    intro d hd
    obtain ⟨x, hx, rfl⟩ := List.mem_map.mp hd
    exact nm x hx
  rw [e, a, List.length_map, decide_eq_true h0, decide_eq_true h1, decide_eq_true nd]
  rfl
theorem arrows_data {n : Nat} {rows : List (List Int)} (h : ArrN n rows) : isArrD (n : Int) (dRows rows) = true := by
  show ((rows.map dInts).all (fun e => isLotD n e && decide (lenD e = 2)) && ascR ((rows.map dInts).map rowD)) = true
  rw [show (rows.map dInts).map rowD = rows from rows_of rows, ascR_of h.1, Bool.and_true, List.all_eq_true]
  intro d hd
  obtain ⟨r, hr, rfl⟩ := List.mem_map.mp hd
  rw [lot_data (h.2 r hr).1, len_dInts, decide_eq_true (h.2 r hr).2]
  rfl
theorem hidden_data {n : Nat} {rows : List (List Int)} (h : HidN n rows) : isHidD (n : Int) (dRows rows) = true := by
  show (decide ((rows.map dInts).length ≤ 28) && ((rows.map dInts).all (fun e => isLotD n e && decide (2 ≤ lenD e)) && ascR ((rows.map dInts).map rowD))) = true
  have a : (rows.map dInts).all (fun e => isLotD n e && decide (2 ≤ lenD e)) = true := by
    rw [List.all_eq_true]
    intro d hd
    obtain ⟨r, hr, rfl⟩ := List.mem_map.mp hd
    rw [lot_data (h.2.2 r hr).1, len_dInts, decide_eq_true (h.2.2 r hr).2]
    rfl
  rw [show (rows.map dInts).map rowD = rows from rows_of rows, ascR_of h.1, a, List.length_map, decide_eq_true h.2.1]
  rfl
theorem lot_short {n : Nat} {ns : List Int} (h : LotN n ns) : ns.length ≤ n := by
  have e := nodup_le (ns.map Int.toNat) (List.range n) (List.pairwise_map.mpr (h.1.imp_of_mem fun {a b} ha hb lt => by
    have := (h.2 a ha).1
    have := (h.2 b hb).1
    omega)) (fun x hx => by
    obtain ⟨y, hy, rfl⟩ := List.mem_map.mp hx
    have := h.2 y hy
    exact List.mem_range.mpr (by omega))
  rw [List.length_map, List.length_range] at e
  exact e
/-- a graph of n variables -/
structure GrN (n : Nat) (ws : List Str) (ar hd : List (List Int)) : Prop where
  one : 1 ≤ n
  most : n ≤ 8
  len : ws.length = n
  nd : ws.Nodup
  nm : ∀ x ∈ ws, isNameD (.str x) = true
  ar : ArrN n ar
  hd : HidN n hd
theorem lenD_strs (ws : List Str) : lenD (dStrs ws) = ws.length := List.length_map ..
theorem GrN.data {n : Nat} {ws : List Str} {ar hd : List (List Int)} (h : GrN n ws ar hd) : isGraphD (dGraph ws ar hd) = true := by
  show (isNamesD (dStrs ws) && (isArrD (lenD (dStrs ws) : Int) (dRows ar) && isHidD (lenD (dStrs ws) : Int) (dRows hd))) = true
  have l : lenD (dStrs ws) = n := (lenD_strs ws).trans h.len
  rw [l, names_data (by rw [h.len]; exact h.one) (by rw [h.len]; exact h.most) h.nd h.nm, arrows_data h.ar, hidden_data h.hd]
  rfl
theorem pair_lt {a b c d : Int} (h : a < c ∨ (a = c ∧ b < d)) : ltI [a, b] [c, d] = true := by
  show (if a = c then (if b = d then ltI [] [] else decide (b < d)) else decide (a < c)) = true
  rcases h with h | ⟨h, k⟩
  · rw [if_neg (by omega)]
    exact decide_eq_true h
  · rw [if_pos h, if_neg (by omega)]
    exact decide_eq_true k
/-- fewer than so many arrows -/
theorem arr_few {n : Nat} {rows : List (List Int)} (h : ArrN n rows) (hn : n ≤ 8) : rows.length ≤ 28 := by
  have inj : ∀ r ∈ rows, ∃ a b : Int, r = [a, b] ∧ 0 ≤ a ∧ a < n ∧ 0 ≤ b ∧ b < n ∧ a < b := fun r hr => by
    obtain ⟨⟨h1, h2⟩, h3⟩ := h.2 r hr
    match r, h3 with
    | [a, b], _ => exact ⟨a, b, rfl, (h2 a (by simp)).1, (h2 a (by simp)).2, (h2 b (by simp)).1, (h2 b (by simp)).2, (List.pairwise_cons.mp h1).1 b (by simp)⟩
  have e := nodup_le (rows.map fun r => (r.getD 0 0 * 8 + r.getD 1 0).toNat) ((List.range 64).filter fun c => decide (c / 8 < c % 8)) (List.pairwise_map.mpr (h.1.imp_of_mem fun {x y} hx hy lt z => by
    obtain ⟨a, b, rfl, a0, a1, b0, b1, _⟩ := inj x hx
    obtain ⟨c, d, rfl, c0, c1, d0, d1, _⟩ := inj y hy
    have z : (a * 8 + b).toNat = (c * 8 + d).toNat := z
    have e1 : a = c := by omega
    have e2 : b = d := by omega
    rw [e1, e2, ltI_irr] at lt
    cases lt)) (fun x hx => by
    obtain ⟨r, hr, rfl⟩ := List.mem_map.mp hx
    obtain ⟨a, b, rfl, a0, a1, b0, b1, ab⟩ := inj r hr
    have e1 : (a * 8 + b).toNat / 8 = a.toNat := by omega
    have e2 : (a * 8 + b).toNat % 8 = b.toNat := by omega
    refine List.mem_filter.mpr ⟨List.mem_range.mpr (by show (a * 8 + b).toNat < 64; omega), decide_eq_true ?_⟩
    show (a * 8 + b).toNat / 8 < (a * 8 + b).toNat % 8
    rw [e1, e2]
    omega)
  rw [List.length_map, show ((List.range 64).filter fun c => decide (c / 8 < c % 8)).length = 28 by decide] at e
  exact e
theorem GrN.ok {n : Nat} {ws : List Str} {ar hd : List (List Int)} (h : GrN n ws ar hd) : okd 30 (dGraph ws ar hd) = true := by
  have m := h.most
  refine okd_tup.mpr ⟨by show 3 ≤ 30; decide, fun d hd' => ?_⟩
  simp only [List.mem_cons, List.not_mem_nil, or_false] at hd'
  rcases hd' with rfl | rfl | rfl
  · refine okd_tup.mpr ⟨by rw [List.length_map, h.len]; omega, fun d hd' => ?_⟩
    obtain ⟨x, hx, rfl⟩ := List.mem_map.mp hd'
    have z := h.nm x hx
    have z : (!inV (.str x) (wordsL.map V.str) && ((decide (1 ≤ x.length) && decide (x.length ≤ 8)) && (firstOk x && x.cps.toList.all (fun c => letterC c || figureC c)))) = true := z
    simp only [Bool.and_eq_true, decide_eq_true_iff] at z
    exact okd_str.mpr (by omega)
  · refine okd_tup.mpr ⟨by rw [List.length_map]; have := arr_few h.ar m; omega, fun d hd' => ?_⟩
    obtain ⟨r, hr, rfl⟩ := List.mem_map.mp hd'
    exact okd_ints (m := n) (by omega) (h.ar.2 r hr).1.2 (by have := lot_short (h.ar.2 r hr).1; omega)
  · refine okd_tup.mpr ⟨by rw [List.length_map]; have := h.hd.2.1; omega, fun d hd' => ?_⟩
    obtain ⟨r, hr, rfl⟩ := List.mem_map.mp hd'
    exact okd_ints (m := n) (by omega) (h.hd.2.2 r hr).1.2 (by have := lot_short (h.hd.2.2 r hr).1; omega)
end GR

/-! Own layer: expressions that make new data, all else standing as it stood. -/
namespace KY
open PySem PySem.Spec PyProof.Rows L2 KL KS GR
abbrev No : Addr → Prop := fun _ => False
def YS (Z : Addr → Prop) (Pd : PyData → Prop) (σ : L2.St) (H0 : Hp) (t : TE) : Prop := ∀ H, Kp No H0 H → ∀ Q : VK, (∀ v d G, Kp No H G → Dq Z G v d → Pd d → Q v G) → t σ H Q
def YA (Z : Addr → Prop) (n k : Nat) (σ : L2.St) (H0 : Hp) (t : TA) : Prop := ∀ H, Kp No H0 H → ∀ Q : List V → Hp → Prop, (∀ vs ds G, Kp No H G → DqL Z G vs ds → (∀ d ∈ ds, okd n d = true) → ds.length = k → Q vs G) → t σ H Q
def YP (σ : L2.St) (H0 : Hp) (t : TO) : Prop := ∀ H, Kp No H0 H → ∀ Q : Option Int → Hp → Prop, (∀ o G, Kp No H G → Q o G) → t σ H Q
def OK (n : Nat) (d : PyData) : Prop := okd n d = true
def OT (n : Nat) (d : PyData) : Prop := okd n d = true ∧ ∃ ds, d = .tuple ds
def OS (n : Nat) (d : PyData) : Prop := ∃ x, d = .str x ∧ x.length ≤ n
def OI (d : PyData) : Prop := ∃ i : Int, d = .int i ∧ i.natAbs < 2 ^ 90
section
variable {Z : Addr → Prop} {Pd Pe : PyData → Prop} {σ : L2.St} {H0 : Hp} {t ta tb : TE} {n m k : Nat} {K : PySem.W.Frag}
theorem up0 {H G : Hp} {v : V} {d : PyData} (h : Dq Z H v d) (k : Kp No H G) : Dq Z G v d := h.kp (k.wk fun _ z => z.elim)
theorem upL0 {H G : Hp} {v : List V} {d : List PyData} (h : DqL Z H v d) (k : Kp No H G) : DqL Z G v d := h.kp (k.wk fun _ z => z.elim)
theorem YS.mono (h : YS Z Pd σ H0 t) (w : ∀ d, Pd d → Pe d) : YS Z Pe σ H0 t := fun H k Q q => h H k Q fun v d G k2 dq p => q v d G k2 dq (w d p)
theorem YS.ok (h : YS Z (OT n) σ H0 t) (w : n ≤ m := by omega) : YS Z (OK m) σ H0 t := h.mono fun _ p => okd_up w p.1
theorem YS.okS (h : YS Z (OS n) σ H0 t) (w : n ≤ 1000 := by omega) : YS Z (OK m) σ H0 t := h.mono fun _ ⟨x, e, l⟩ => by
  subst e
  exact okd_str.mpr (Nat.le_trans l w)
theorem YS.okI (h : YS Z OI σ H0 t) : YS Z (OK m) σ H0 t := h.mono fun _ ⟨i, e, l⟩ => by
  subst e
  exact okd_int.mpr (Nat.lt_trans l (by decide))
theorem YS.up (h : YS Z (OT n) σ H0 t) (w : n ≤ m := by omega) : YS Z (OT m) σ H0 t := h.mono fun _ p => ⟨okd_up w p.1, p.2⟩
theorem ys_var {i : Nat} {v : V} {d : PyData} (e : σ[i]? = some (some v)) (h : Dq Z H0 v d) (p : Pd d) : YS Z Pd σ H0 (tVar i) := fun H k Q q => ⟨v, e, q v d H Kp.rfl' (up0 h k) p⟩
theorem ys_int {i : Int} (p : Pd (.int i)) : YS Z Pd σ H0 (tC (.int i)) := fun H k Q q => q _ _ H Kp.rfl' (.int i) p
theorem ys_str {x : Str} (p : Pd (.str x)) : YS Z Pd σ H0 (tC (.str x)) := fun H k Q q => q _ _ H Kp.rfl' (.str x) p
theorem ys_lit {d : PyData} (hZ : ∀ b, Z b → tracked H0 b) (p : Pd d) : YS Z Pd σ H0 (tLit d) := fun H k Q q v G k2 dq => q v d G k2 (dq.wk fun b z => k.trk b (hZ b z)) p
theorem free0 (hZ : ∀ b, Z b → tracked H0 b) {H : Hp} (k : Kp No H0 H) {p : Addr} (n : H p = none) : ¬ Z p := fun z => k.trk p (hZ p z) n
theorem ya_nil : YA Z n 0 σ H0 tNil := fun H k Q q => q [] [] H Kp.rfl' .nil (fun d hd => absurd hd List.not_mem_nil) rfl
theorem ya_cons {tr : TA} (h : YS Z (OK n) σ H0 t) (r : YA Z n k σ H0 tr) : YA Z n (k + 1) σ H0 (tCons t tr) := fun H k0 Q q => h H k0 _ fun v d G k1 dq p => r G (k0.tr k1) _ fun vs ds J k2 L all len =>
  q (v :: vs) (d :: ds) J (k1.tr k2) (.cons (up0 dq k2) L) (fun e he => (List.mem_cons.mp he).elim (fun z => z ▸ p) (all e)) (by rw [List.length_cons, len])
theorem ys_tup {tr : TA} (hZ : ∀ b, Z b → tracked H0 b) (h : YA Z n k σ H0 tr) (hk : k ≤ n := by omega) (hn : n ≤ 10000 := by omega) : YS Z (OT n) σ H0 (tTup tr) := fun H k0 Q q => h H k0 _ fun vs ds G k1 L all len =>
  ⟨by rw [L.len, len, sizeLine_eq]; omega, fun p np => q _ _ _ (k1.tr (Kp.new np)) (.tup (.inl upd_same) (free0 hZ (k0.tr k1) np) (upL0 L (Kp.new np))) ⟨okd_tup.mpr ⟨by omega, all⟩, _, rfl⟩⟩
theorem ys_lst {tr : TA} (hZ : ∀ b, Z b → tracked H0 b) (h : YA Z n k σ H0 tr) (hk : k ≤ n := by omega) (hn : n ≤ 10000 := by omega) : YS Z (OK n) σ H0 (tLstM tr) := fun H k0 Q q => h H k0 _ fun vs ds G k1 L all len =>
  ⟨by rw [L.len, len, sizeLine_eq]; omega, fun p np m => q _ _ _ (k1.tr (Kp.new np)) (.lst upd_same (free0 hZ (k0.tr k1) np) m (upL0 L (Kp.new np))) (okd_lst.mpr ⟨by omega, all⟩)⟩
theorem tup_at {H : Hp} {v : V} {d : PyData} (dq : Dq Z H v d) (p : OT n d) : ∃ a xs ds, v = .ref a ∧ d = .tuple ds ∧ Rd H a (.tup xs) ∧ ¬ Z a ∧ DqL Z H xs ds ∧ ds.length ≤ n ∧ ∀ e ∈ ds, okd n e = true := by
  obtain ⟨h, ds, rfl⟩ := p
  cases dq with
  | tup e z L => exact ⟨_, _, _, rfl, rfl, e, z, L, (okd_tup.mp h).1, (okd_tup.mp h).2⟩
theorem ys_cat (hZ : ∀ b, Z b → tracked H0 b) (ha : YS Z (OT n) σ H0 ta) (hb : YS Z (OT m) σ H0 tb) (hn : n + m ≤ 10000 := by omega) : YS Z (OT (n + m)) σ H0 (tOp (rCatA K) ta tb) := fun H k0 Q q => ha H k0 _ fun v d G k1 dq p => hb G (k0.tr k1) _ fun u e J k2 du r => by
  obtain ⟨a, xs, ds, rfl, rfl, ea, za, La, la, oa⟩ := tup_at (up0 dq k2) p
  obtain ⟨b, ys, es, rfl, rfl, eb, zb, Lb, lb, ob⟩ := tup_at du r
  have l1 := La.len
  have l2 := Lb.len
  refine ⟨a, b, xs, ys, rfl, rfl, .inl ea, .inl eb, by rw [sizeLine_eq]; omega, fun _ => q _ _ J (k1.tr k2) du ⟨okd_up (by omega) r.1, r.2⟩, fun _ _ => q _ _ J (k1.tr k2) (up0 dq k2) ⟨okd_up (by omega) p.1, p.2⟩, fun _ _ c nc => ?_⟩
  refine q _ (.tuple (ds ++ es)) _ ((k1.tr k2).tr (Kp.new nc)) (.tup (.inl upd_same) (free0 hZ ((k0.tr k1).tr k2) nc) ((upL0 La (Kp.new nc)).app (upL0 Lb (Kp.new nc)))) ⟨okd_tup.mpr ⟨by rw [List.length_append]; omega, fun x hx => ?_⟩, _, rfl⟩
  rcases List.mem_append.mp hx with z | z
  · exact okd_up (by omega) (oa x z)
  · exact okd_up (by omega) (ob x z)
theorem DqL.drop {H : Hp} : ∀ {xs : List V} {ds : List PyData} (i : Nat), DqL Z H xs ds → DqL Z H (xs.drop i) (ds.drop i)
  | _, _, 0, h => h
  | _, _, i + 1, .nil => .nil
  | _, _, i + 1, .cons _ t => DqL.drop i t
theorem DqL.take {H : Hp} : ∀ {xs : List V} {ds : List PyData} (i : Nat), DqL Z H xs ds → DqL Z H (xs.take i) (ds.take i)
  | _, _, 0, _ => by simpa using DqL.nil
  | _, _, i + 1, .nil => .nil
  | _, _, i + 1, .cons a t => .cons a (DqL.take i t)
theorem DqL.rev {H : Hp} : ∀ {xs : List V} {ds : List PyData}, DqL Z H xs ds → DqL Z H xs.reverse ds.reverse
  | _, _, .nil => .nil
  | _, _, .cons a t => by
    rw [List.reverse_cons, List.reverse_cons]
    exact (DqL.rev t).app (.cons a .nil)
theorem yp_none : YP σ H0 tNoPart := fun H k Q q => q none H Kp.rfl'
theorem yp_some (h : YS Z OI σ H0 t) : YP σ H0 (tPart t) := fun H k Q q => h H k _ fun v d G k1 dq ⟨i, e, _⟩ => by
  subst e
  cases dq
  exact ⟨i, rfl, q _ G k1⟩
theorem ys_sl {tl th : TO} (hZ : ∀ b, Z b → tracked H0 b) (ha : YS Z (OT n) σ H0 t) (hl : YP σ H0 tl) (hh : YP σ H0 th) (hn : n ≤ 10000 := by omega) : YS Z (OT n) σ H0 (tSl (rSlA K) t tl th) := fun H k0 Q q => ha H k0 _ fun v d G k1 dq p => hl G (k0.tr k1) _ fun lo J k2 => hh J ((k0.tr k1).tr k2) _ fun hi I k3 => by
  have kk := (k1.tr k2).tr k3
  obtain ⟨a, xs, ds, rfl, rfl, ea, za, La, la, oa⟩ := tup_at (up0 dq (k2.tr k3)) p
  refine ⟨a, xs, rfl, .inl ea, fun _ => q _ _ I kk (up0 dq (k2.tr k3)) p, fun _ c nc => ?_⟩
  refine q _ (.tuple ((ds.drop (HT.sIx xs.length 0 lo)).take (HT.sIx xs.length xs.length hi - HT.sIx xs.length 0 lo))) _ (kk.tr (Kp.new nc)) (.tup (.inl upd_same) (free0 hZ (k0.tr kk) nc) (upL0 (DqL.take _ (DqL.drop _ La)) (Kp.new nc))) ⟨okd_tup.mpr ⟨?_, fun x hx => oa x (List.mem_of_mem_drop (List.mem_of_mem_take hx))⟩, _, rfl⟩
  rw [List.length_take, List.length_drop]
  omega
theorem ys_slS {tl th : TO} (ha : YS Z (OS n) σ H0 t) (hl : YP σ H0 tl) (hh : YP σ H0 th) (hn : n ≤ 10000 := by omega) : YS Z (OS n) σ H0 (tSl rSlS t tl th) := fun H k0 Q q => ha H k0 _ fun v d G k1 dq p => hl G (k0.tr k1) _ fun lo J k2 => hh J ((k0.tr k1).tr k2) _ fun hi I k3 => by
  obtain ⟨x, rfl, l⟩ := p
  cases dq
  exact ⟨x, rfl, by rw [sizeLine_eq]; omega, q _ _ I ((k1.tr k2).tr k3) (.str _) ⟨_, rfl, Nat.le_trans (cutS_length x lo hi) l⟩⟩
theorem ys_rev (hZ : ∀ b, Z b → tracked H0 b) (ha : YS Z (OT n) σ H0 t) : YS Z (OT n) σ H0 (tRevA K t) := fun H k0 Q q => ha H k0 _ fun v d G k1 dq p => by
  obtain ⟨a, xs, ds, rfl, rfl, ea, za, La, la, oa⟩ := tup_at dq p
  exact .inl ⟨a, xs, rfl, .inl ea, fun c nc => q _ (.tuple ds.reverse) _ (k1.tr (Kp.new nc)) (.tup (.inl upd_same) (free0 hZ (k0.tr k1) nc) (upL0 (DqL.rev La) (Kp.new nc))) ⟨okd_tup.mpr ⟨by rw [List.length_reverse]; exact la, fun x hx => oa x (List.mem_reverse.mp hx)⟩, _, rfl⟩⟩
theorem ys_revS (ha : YS Z (OS n) σ H0 t) (hn : n ≤ 10000 := by omega) : YS Z (OS n) σ H0 (tRevA K t) := fun H k0 Q q => ha H k0 _ fun v d G k1 dq p => by
  obtain ⟨x, rfl, l⟩ := p
  cases dq
  exact .inr ⟨x, rfl, by omega, fun y hy => q _ _ G k1 (.str _) ⟨_, rfl, Nat.le_trans hy l⟩⟩
theorem ys_catS (ha : YS Z (OS n) σ H0 ta) (hb : YS Z (OS m) σ H0 tb) (hn : n + m ≤ 10000 := by omega) : YS Z (OS (n + m)) σ H0 (tOp (fun x y H Q => ∃ i j : Str, x = .str i ∧ y = .str j ∧ i.length + j.length ≤ sizeLine ∧ Q (.str (i ++ j)) H) ta tb) := fun H k0 Q q => ha H k0 _ fun v d G k1 dq p => hb G (k0.tr k1) _ fun u e J k2 du r => by
  obtain ⟨x, rfl, l⟩ := p
  obtain ⟨y, rfl, l'⟩ := r
  cases dq
  cases du
  have e : (x ++ y).length = x.length + y.length := by
    show (x.cps ++ y.cps).size = _
    rw [Array.size_append]
    rfl
  exact ⟨x, y, rfl, rfl, by rw [sizeLine_eq]; omega, q _ _ J (k1.tr k2) (.str _) ⟨_, rfl, by rw [e]; omega⟩⟩
end
/-- list(t) -/
def rLstM (K : PySem.W.Frag) : List V → Hp → VK → Prop := fun xs H Q => ∃ p ys, xs = [.ref p] ∧ SqT K H p ys ∧ ∀ l, H l = none → l ≠ sysModules → Q (.ref l) (upd H l (.lst ys))
theorem call_lstM {X : Cx} : CallR X (.type "list") (rLstM X.K) := by
  intro pins s σ H xs us Q I r h
  obtain ⟨p, ys, rfl, hq, q⟩ := h
  rw [Vals.ref1 r]
  obtain ⟨its, rv, pl, hz⟩ := I.tuple hq
  have len := rv.length
  obtain ⟨o, ho, hc, n, hd⟩ := pl
  refine call_list_seq p (.inr rfl) ho hc hd (fun h' c kp e => ?_) (by rw [List.size_toArray]; omega)
  exact ⟨.ref s.heap.objs.size, _, I.laid (t' := s.toks) kp (Nat.le_refl _) (show ObjOk X.prog X.w _ h' _ (.lst ys) from ⟨hz, its, c, rv, e⟩), rfl, q _ (I.hok.fresh (Nat.le_refl _)) (Nat.ne_of_gt I.big)⟩
theorem ys_list {Z : Addr → Prop} {σ : L2.St} {H0 : Hp} {t : TE} {n : Nat} {K : PySem.W.Frag} (hZ : ∀ b, Z b → tracked H0 b) (ha : YS Z (OT n) σ H0 t) : YS Z (OK n) σ H0 (tCB (rLstM K) (tCons t tNil)) := fun H k0 Q q => ha H k0 _ fun v d G k1 dq p => by
  obtain ⟨a, xs, ds, rfl, rfl, ea, za, La, la, oa⟩ := tup_at dq p
  exact ⟨a, xs, rfl, .inl ea, fun l nl m => q _ (.list ds) _ (k1.tr (Kp.new nl)) (.lst upd_same (free0 hZ (k0.tr k1) nl) m (upL0 La (Kp.new nl))) (okd_lst.mpr ⟨la, oa⟩)⟩
/-- a tuple of at most l things of data -/
def OL (l n : Nat) (d : PyData) : Prop := ∃ ds, d = .tuple ds ∧ ds.length ≤ l ∧ ∀ e ∈ ds, okd n e = true
section
variable {Z : Addr → Prop} {Pd Pe : PyData → Prop} {σ : L2.St} {H0 : Hp} {t ta tb : TE} {n m k l : Nat} {K : PySem.W.Frag}
theorem YS.ol (h : YS Z (OT m) σ H0 t) (w : m ≤ l := by omega) (w2 : m ≤ n := by omega) : YS Z (OL l n) σ H0 t := h.mono fun d ⟨o, ds, e⟩ => by
  subst e
  exact ⟨ds, rfl, Nat.le_trans (okd_tup.mp o).1 w, fun e he => okd_up w2 ((okd_tup.mp o).2 e he)⟩
theorem YS.okL (h : YS Z (OL l n) σ H0 t) (w : l ≤ n := by omega) : YS Z (OK n) σ H0 t := h.mono fun d ⟨ds, e, a, b⟩ => by
  subst e
  exact okd_tup.mpr ⟨Nat.le_trans a w, b⟩
theorem ys_tupL {tr : TA} (hZ : ∀ b, Z b → tracked H0 b) (h : YA Z n k σ H0 tr) (hk : k ≤ l := by omega) (hn : l ≤ 10000 := by omega) : YS Z (OL l n) σ H0 (tTup tr) := fun H k0 Q q => h H k0 _ fun vs ds G k1 L all len =>
  ⟨by rw [L.len, len, sizeLine_eq]; omega, fun p np => q _ _ _ (k1.tr (Kp.new np)) (.tup (.inl upd_same) (free0 hZ (k0.tr k1) np) (upL0 L (Kp.new np))) ⟨_, rfl, by omega, all⟩⟩
theorem tup_atL {H : Hp} {v : V} {d : PyData} (dq : Dq Z H v d) (p : OL l n d) : ∃ a xs ds, v = .ref a ∧ d = .tuple ds ∧ Rd H a (.tup xs) ∧ ¬ Z a ∧ DqL Z H xs ds ∧ ds.length ≤ l ∧ ∀ e ∈ ds, okd n e = true := by
  obtain ⟨ds, rfl, h1, h2⟩ := p
  cases dq with
  | tup e z L => exact ⟨_, _, _, rfl, rfl, e, z, L, h1, h2⟩
theorem ys_catL (hZ : ∀ b, Z b → tracked H0 b) (ha : YS Z (OL l n) σ H0 ta) (hb : YS Z (OL m n) σ H0 tb) (hn : l + m ≤ 10000 := by omega) : YS Z (OL (l + m) n) σ H0 (tOp (rCatA K) ta tb) := fun H k0 Q q => ha H k0 _ fun v d G k1 dq p => hb G (k0.tr k1) _ fun u e J k2 du r => by
  obtain ⟨a, xs, ds, rfl, rfl, ea, za, La, la, oa⟩ := tup_atL (up0 dq k2) p
  obtain ⟨b, ys, es, rfl, rfl, eb, zb, Lb, lb, ob⟩ := tup_atL du r
  have l1 := La.len
  have l2 := Lb.len
  refine ⟨a, b, xs, ys, rfl, rfl, .inl ea, .inl eb, by rw [sizeLine_eq]; omega, fun _ => q _ _ J (k1.tr k2) du ⟨es, rfl, by omega, ob⟩, fun _ _ => q _ _ J (k1.tr k2) (up0 dq k2) ⟨ds, rfl, by omega, oa⟩, fun _ _ c nc => ?_⟩
  exact q _ (.tuple (ds ++ es)) _ ((k1.tr k2).tr (Kp.new nc)) (.tup (.inl upd_same) (free0 hZ ((k0.tr k1).tr k2) nc) ((upL0 La (Kp.new nc)).app (upL0 Lb (Kp.new nc)))) ⟨_, rfl, by rw [List.length_append]; omega, fun x hx => (List.mem_append.mp hx).elim (oa x) (ob x)⟩
theorem ys_slL {tl th : TO} (hZ : ∀ b, Z b → tracked H0 b) (ha : YS Z (OL l n) σ H0 t) (hl : YP σ H0 tl) (hh : YP σ H0 th) : YS Z (OL l n) σ H0 (tSl (rSlA K) t tl th) := fun H k0 Q q => ha H k0 _ fun v d G k1 dq p => hl G (k0.tr k1) _ fun lo J k2 => hh J ((k0.tr k1).tr k2) _ fun hi I k3 => by
  have kk := (k1.tr k2).tr k3
  obtain ⟨a, xs, ds, rfl, rfl, ea, za, La, la, oa⟩ := tup_atL (up0 dq (k2.tr k3)) p
  refine ⟨a, xs, rfl, .inl ea, fun _ => q _ _ I kk (up0 dq (k2.tr k3)) ⟨ds, rfl, la, oa⟩, fun _ c nc => ?_⟩
  refine q _ (.tuple ((ds.drop (HT.sIx xs.length 0 lo)).take (HT.sIx xs.length xs.length hi - HT.sIx xs.length 0 lo))) _ (kk.tr (Kp.new nc)) (.tup (.inl upd_same) (free0 hZ (k0.tr kk) nc) (upL0 (DqL.take _ (DqL.drop _ La)) (Kp.new nc))) ⟨_, rfl, ?_, fun x hx => oa x (List.mem_of_mem_drop (List.mem_of_mem_take hx))⟩
  rw [List.length_take, List.length_drop]
  omega
end
end KY

namespace KY
open PySem PySem.Spec PyProof.Rows L2 KL KS GR
section
variable {Z : Addr → Prop} {H : Hp} {p : Addr}
mutual
/-- data has nothing at a free place -/
theorem Dq.out (n : H p = none) : ∀ (d : PyData) (v : V), Dq Z H v d → Dq (fun b => Z b ∨ b = p) H v d
  | .none, _, h => by cases h; exact .non
  | .bool _, _, h => by cases h; exact .bl _
  | .int _, _, h => by cases h; exact .int _
  | .str _, _, h => by cases h; exact .str _
  | .list ds, _, h => by
    cases h with
    | lst e z m L => exact .lst e (fun y => y.elim z (ne_of_none e n)) m (DqL.out n ds _ L)
  | .tuple ds, _, h => by
    cases h with
    | tup e z L => exact .tup e (fun y => y.elim z fun q => by
        subst q
        rcases e with e | ⟨o, e⟩ <;> rw [n] at e <;> cases e) (DqL.out n ds _ L)
  | .dict _, _, h => by
    cases h with
    | dct e z m => exact .dct e (fun y => y.elim z (ne_of_none e n)) m
theorem DqL.out (n : H p = none) : ∀ (ds : List PyData) (vs : List V), DqL Z H vs ds → DqL (fun b => Z b ∨ b = p) H vs ds
  | [], _, h => by cases h; exact .nil
  | d :: ds, _, h => by
    cases h with
    | cons a t => exact .cons (Dq.out n d _ a) (DqL.out n ds _ t)
end
end
/-- at L stands a list of k things of data -/
def Ls (Z : Addr → Prop) (n : Nat) (G : Hp) (L : Addr) (k : Nat) : Prop := ∃ xs ds, G L = some (.lst xs) ∧ DqL Z G xs ds ∧ (∀ d ∈ ds, okd n d = true) ∧ ds.length = k
theorem Ls.kp {Z : Addr → Prop} {n : Nat} {G J : Hp} {L : Addr} {k : Nat} (h : Ls Z n G L k) (kp : Kp Z G J) (e : J L = G L) : Ls Z n J L k := by
  obtain ⟨xs, ds, h1, h2, h3, h4⟩ := h
  exact ⟨xs, ds, e.trans h1, h2.kp kp, h3, h4⟩
/-- L.append(e): what is asked and what is left -/
theorem Ls.add {Z : Addr → Prop} {n : Nat} {G : Hp} {L : Addr} {k : Nat} {v : V} {d : PyData} (h : Ls Z n G L k) (zL : Z L) (dq : Dq Z G v d) (o : okd n d = true) : ∃ xs, G L = some (.lst xs) ∧ xs.length = k ∧ Ls Z n (upd G L (.lst (xs ++ [v]))) L (k + 1) := by
  obtain ⟨xs, ds, h1, h2, h3, h4⟩ := h
  refine ⟨xs, h1, by rw [h2.len, h4], xs ++ [v], ds ++ [d], upd_same, (h2.app (.cons dq .nil)).kp (Kp.at zL), fun e he => ?_, by rw [List.length_append, h4]; rfl⟩
  rcases List.mem_append.mp he with z | z
  · exact h3 e z
  · rw [List.mem_singleton.mp z]
    exact o
/-! ### statements -/
abbrev ForW (J : It) (g : TG) (tb : TS) (D : Ends) (σ : L2.St) (H : Hp) : Prop := ∃ W : Nat → Nat → L2.St → Hp → Prop, (∃ m, W 0 m σ H) ∧ ∀ i m σ H, W i m σ H →
  (J.stop i H ∧ D.nx σ H) ∨ (J.go i H ∧ ∃ N : L2.St → Hp → Prop, (∀ σ' H', N σ' H' → ∃ m', m' < m ∧ W (i + 1) m' σ' H') ∧ ∀ x H', J.yld i H x H' → g x σ H' fun σ2 H2 => tb { D with nx := N, ct := N, bk := D.nx } σ2 H2)
section
variable {Z : Addr → Prop} {n k i j : Nat} {σ : L2.St} {H : Hp} {D : Ends} {rest tb : TS} {te : TE} {ta : TA} {g : TG} {K : PySem.W.Frag}
theorem gn {v : V} {Q : L2.St → Hp → Prop} (q : Q (σ.set i (some v)) H) : gName i v σ H Q := q
/-- x = [..] -/
theorem sq_lst (h : YA Z n k σ H ta) (hk : k ≤ 1000) (q : ∀ vs ds G p, Kp No H G → DqL Z G vs ds → (∀ d ∈ ds, okd n d = true) → ds.length = k → G p = none → rest D (σ.set i (some (.ref p))) (upd G p (.lst vs))) : tSeq (tAsg (tLst ta) (gName i)) rest D σ H :=
  h H Kp.rfl' _ fun vs ds G k1 L all len => ⟨by rw [L.len, len, sizeLine_eq]; omega, fun p np => q vs ds G p k1 L all len np⟩
theorem sq_lit {d : PyData} (q : ∀ v G, Kp No H G → Dq (tracked H) G v d → rest D (σ.set i (some v)) G) : tSeq (tAsg (tLit d) (gName i)) rest D σ H := fun v G k dq => q v G k dq
/-- xs + [..] -/
theorem cat_lst {p : Addr} {xs : List V} {Q : VK} (e : σ[j]? = some (some (.ref p))) (hp : H p = some (.lst xs)) (hx : xs.length ≤ 1000) (h : YA Z n k σ H ta) (hk : k ≤ 1000) (q : ∀ vs ds G p2 p3, Kp No H G → DqL Z G vs ds → (∀ d ∈ ds, okd n d = true) → ds.length = k → G p2 = none → (upd G p2 (.lst vs)) p3 = none → Q (.ref p3) (upd (upd G p2 (.lst vs)) p3 (.lst (xs ++ vs)))) : tOp rCat (tVar j) (tLst ta) σ H Q :=
  ⟨_, e, h H Kp.rfl' _ fun vs ds G k1 L all len => ⟨by rw [L.len, len, sizeLine_eq]; omega, fun p2 n2 => by
    have ep := k1 p _ (fun z => z) hp
    have ne : p ≠ p2 := ne_of_none ep n2
    exact ⟨p, p2, xs, vs, rfl, rfl, (upd_ne ne).trans ep, upd_same, by rw [L.len, len, sizeLine_eq]; omega, fun p3 n3 => q vs ds G p2 p3 k1 L all len n2 n3⟩⟩⟩
theorem sq_cat {p : Addr} {xs : List V} (e : σ[j]? = some (some (.ref p))) (hp : H p = some (.lst xs)) (hx : xs.length ≤ 1000) (h : YA Z n k σ H ta) (hk : k ≤ 1000) (q : ∀ vs ds G p2 p3, Kp No H G → DqL Z G vs ds → (∀ d ∈ ds, okd n d = true) → ds.length = k → G p2 = none → (upd G p2 (.lst vs)) p3 = none → rest D (σ.set i (some (.ref p3))) (upd (upd G p2 (.lst vs)) p3 (.lst (xs ++ vs)))) : tSeq (tAsg (tOp rCat (tVar j) (tLst ta)) (gName i)) rest D σ H :=
  cat_lst e hp hx h hk q
/-- xs + [a, b, c], c not only made -/
theorem cat_three {t1 t2 t3 : TE} {p : Addr} {Q : VK} (e : σ[j]? = some (some (.ref p))) (h1 : YS Z (OK n) σ H t1) (h2 : YS Z (OK n) σ H t2)
    (q : ∀ v1 d1 v2 d2 G, Kp No H G → Dq Z G v1 d1 → okd n d1 = true → Dq Z G v2 d2 → okd n d2 = true → t3 σ G fun v3 G2 => 3 ≤ sizeLine ∧ ∀ p2, G2 p2 = none → rCat (.ref p) (.ref p2) (upd G2 p2 (.lst [v1, v2, v3])) Q) : tOp rCat (tVar j) (tLst (tCons t1 (tCons t2 (tCons t3 tNil)))) σ H Q :=
  ⟨_, e, h1 H Kp.rfl' _ fun v1 d1 G1 k1 q1 o1 => h2 G1 k1 _ fun v2 d2 G2 k2 q2 o2 => q v1 d1 v2 d2 G2 (k1.tr k2) (up0 q1 k2) o1 q2 o2⟩
/-- for x in t -/
theorem sq_for (h : YS Z (OT n) σ H te) (q : ∀ a xs ds G, Kp No H G → Rd G a (.tup xs) → ¬ Z a → DqL Z G xs ds → ds.length ≤ n → (∀ d ∈ ds, okd n d = true) → ForW (Itt K a) g tb { D with nx := rest D } σ G) : tSeq (tFor (iTup K te) g tb) rest D σ H :=
  h H Kp.rfl' _ fun v d G k1 dq p => by
    obtain ⟨a, xs, ds, rfl, rfl, ea, za, La, la, oa⟩ := tup_at dq p
    exact ⟨a, rfl, ⟨xs, .inl ea⟩, q a xs ds G k1 ea za La la oa⟩
/-- L.append(e), L a list of data -/
theorem sq_app {L : Addr} (e : σ[j]? = some (some (.ref L))) (ls : Ls Z n H L k) (zL : Z L) (hk : k ≤ 1000) (h : YS Z (OK n) σ H te) (q : ∀ G xs, Kp No H G → Ls Z n (upd G L (.lst xs)) L (k + 1) → D.nx σ (upd G L (.lst xs))) : tDrop (tBM K "list" rAppend (tVar j) (tCons te tNil)) D σ H := by
  have ls0 := ls
  obtain ⟨xs0, ds0, h1, _⟩ := ls0
  refine ⟨_, e, .inl ⟨rfl, xs0, .inl (.inl h1)⟩, h H Kp.rfl' _ fun v d G k1 dq p => ?_⟩
  have ls1 : Ls Z n G L k := ls.kp (k1.wk fun _ z => z.elim) ((k1 L _ (fun z => z) h1).trans h1.symm)
  obtain ⟨xs, hx, lx, ls2⟩ := ls1.add zL dq p
  exact ⟨L, xs, v, rfl, rfl, hx, by rw [lx, sizeLine_eq]; omega, q G _ k1 ls2⟩
end
end KY

namespace KY
open PySem PySem.Spec PyProof.Rows L2 KL KS GR
section
variable {Z : Addr → Prop} {Pd Pe : PyData → Prop} {σ : L2.St} {H0 : Hp} {t ta tb : TE} {n m k l : Nat} {K : PySem.W.Frag}
/-- (..)[i] -/
theorem ys_pick {tr : TA} {j : Nat} {w : Int} (e : σ[j]? = some (some (.int w))) (w0 : 0 ≤ w) (w1 : w < k) (h : YA Z n k σ H0 tr) (hk : k ≤ 10000 := by omega) : YS Z (OK n) σ H0 (tOp (rIxT K) (tTup tr) (tVar j)) := fun H k0 Q q => h H k0 _ fun vs ds G k1 L all len =>
  ⟨by rw [L.len, len, sizeLine_eq]; omega, fun p np => by
    obtain ⟨i, rfl⟩ : ∃ i : Nat, w = (i : Int) := ⟨w.toNat, (Int.toNat_of_nonneg w0).symm⟩
    have hv : i < vs.length := by rw [L.len]; omega
    obtain ⟨d, hd, dq⟩ := L.get (List.getElem?_eq_getElem hv)
    exact ⟨_, e, p, vs, (i : Int), vs[i], rfl, rfl, .inl (.inl upd_same), atI_nat (List.getElem?_eq_getElem hv), q _ d _ (k1.tr (Kp.new np)) (up0 dq (Kp.new np)) (all d (List.mem_of_getElem? hd))⟩⟩
abbrev YI (Z : Addr → Prop) (i : Int) (σ : L2.St) (H0 : Hp) (t : TE) : Prop := YS Z (fun d => d = .int i) σ H0 t
theorem ys_i {i j k : Int} {f : Int → Int → V} (ha : YI Z i σ H0 ta) (hb : YI Z j σ H0 tb) (e : f i j = .int k) : YI Z k σ H0 (tOp (rI0 f) ta tb) := fun H k0 Q q => ha H k0 _ fun v d G k1 dq p => hb G (k0.tr k1) _ fun u e' J k2 du r => by
  subst p
  subst r
  cases dq
  cases du
  exact ⟨i, j, rfl, rfl, by rw [e]; exact q _ _ J (k1.tr k2) (.int k) rfl⟩
theorem ys_b {i j : Int} {b : Bool} {f : Int → Int → V} (ha : YI Z i σ H0 ta) (hb : YI Z j σ H0 tb) (e : f i j = .bl b) : YS Z (OK n) σ H0 (tOp (rI0 f) ta tb) := fun H k0 Q q => ha H k0 _ fun v d G k1 dq p => hb G (k0.tr k1) _ fun u e' J k2 du r => by
  subst p
  subst r
  cases dq
  cases du
  exact ⟨i, j, rfl, rfl, by rw [e]; exact q _ _ J (k1.tr k2) (.bl b) rfl⟩
theorem YS.iok {i : Int} (h : YI Z i σ H0 t) (w : i.natAbs < 2000) : YS Z (OK n) σ H0 t := h.mono fun d e => by
  subst e
  exact okd_int.mpr (Nat.lt_trans w (by decide))
/-- str(i) -/
theorem ys_istr {i : Int} (h : YI Z i σ H0 t) (w : i.natAbs < 2000) (hn : 20 ≤ n := by omega) : YS Z (OK n) σ H0 (tCB (fun xs H Q => ∃ i : Int, xs = [.int i] ∧ i.natAbs.log2 < 1920 ∧ Q (.str (toString i)) H) (tCons t tNil)) := fun H k0 Q q => h H k0 _ fun v d G k1 dq p => by
  subst p
  cases dq
  refine ⟨i, rfl, ?_, q _ _ G k1 (.str _) ?_⟩
  · have := PySem.Flt.log2_lt_of (n := i.natAbs) (k := 64) (by decide) (Nat.lt_trans w (by decide))
    omega
  · refine okd_str.mpr ?_
    have := int_text_length_le10 (a := i) (k := 8) (by decide) (Nat.lt_trans w (by decide))
    rw [PySem.ofString_length]
    omega
/-- s.upper() -/
theorem ys_upper (h : YS Z (OS n) σ H0 t) (hn : n ≤ 10000 := by omega) : YS Z (OS (3 * n)) σ H0 (tM0 (fun x xs H Q => ∃ a, x = .str a ∧ xs = [] ∧ a.length ≤ 5592405 ∧ Q (.str (Txt.upper a)) H) t) := fun H k0 Q q => h H k0 _ fun v d G k1 dq p => by
  obtain ⟨x, rfl, l⟩ := p
  cases dq
  have u := len_upper x
  exact ⟨⟨x, rfl⟩, x, rfl, rfl, by omega, q _ _ G k1 (.str _) ⟨_, rfl, by omega⟩⟩
theorem sq1 {i : Nat} {D : Ends} (h : YS Z Pd σ H0 t) (q : ∀ v d G, Kp No H0 G → Dq Z G v d → Pd d → D.nx (σ.set i (some v)) G) : tAsg t (gName i) D σ H0 := h H0 Kp.rfl' _ fun v d G k dq p => q v d G k dq p
end
theorem trk_of {Y : Addr → Prop} {a : Addr} {J J' : Hp} (h : ∀ b, Y b → tracked J b) (m : Mv a J J') : ∀ b, Y b → tracked J' b := fun b y => m.trk b (h b y)
theorem if_ans {c : TT} {t u : TS} {D : Ends} {σ : L2.St} {H : Hp} {b : Bool} (h : Ans c σ H b) (ht : b = true → t D σ H) (hu : b = false → u D σ H) : tIfS c t u D σ H := h _ (by
  cases b with
  | true => exact (if_pos rfl).mpr (ht rfl)
  | false => exact (if_neg Bool.false_ne_true).mpr (hu rfl))
/-- what a statement leaves, said once -/
theorem sq_then {t rest : TS} {D : Ends} {σ : L2.St} {H : Hp} (Pm : L2.St → Hp → Prop) (h : ∀ nx : L2.St → Hp → Prop, (∀ σ J, Pm σ J → nx σ J) → t { D with nx := nx } σ H) (q : ∀ σ J, Pm σ J → rest D σ J) : tSeq t rest D σ H := h (rest D) q
/-- a loop over a range that may be left by break: what follows is shown from the word at any turn -/
theorem forB {lo : Int} {n : Nat} {g : TG} {tb : TS} {D : Ends} {σ : L2.St} {H : Hp} (Pv : Nat → L2.St → Hp → Prop) (h0 : Pv 0 σ H) (hd : ∀ i σ J, i ≤ n → Pv i σ J → D.nx σ J)
    (hs : (∀ i σ J, i ≤ n → Pv i σ J → D.nx σ J) → ∀ i σ H, i < n → Pv i σ H → g (.int (lo + i)) σ H fun σ2 H2 => tb { D with nx := Pv (i + 1), ct := Pv (i + 1), bk := D.nx } σ2 H2) : ForW (Itr lo n) g tb D σ H :=
  for_range Pv h0 (hs hd) fun σ J p => hd n σ J (Nat.le_refl _) p
end KY

namespace KY
open PySem PySem.Spec PyProof.Rows L2 KL KS GR
theorem if_ansH {c : TT} {t u : TS} {D : Ends} {σ : L2.St} {H : Hp} {b : Bool} (P : Hp → Prop) (h : ∀ Q : Bool → Hp → Prop, (∀ G, P G → Q b G) → c σ H Q) (ht : b = true → ∀ G, P G → t D σ G) (hu : b = false → ∀ G, P G → u D σ G) : tIfS c t u D σ H := h _ fun G p => by
  cases b with
  | true => exact (if_pos rfl).mpr (ht rfl G p)
  | false => exact (if_neg Bool.false_ne_true).mpr (hu rfl G p)
/-- a list of truths that a comprehension has made so far -/
def PvB (f : Nat → Bool) (H : Hp) (D : Addr) (i : Nat) (J : Hp) : Prop := J D = some (.lst (((List.range i).map f).map V.bl)) ∧ Kp No H J
theorem PvB.zero {f : Nat → Bool} {H : Hp} {D : Addr} (nD : H D = none) : PvB f H D 0 (upd H D (.lst [])) := ⟨upd_same, Kp.new nD⟩
theorem PvB.step {f : Nat → Bool} {H J G : Hp} {D : Addr} {i : Nat} {b : Bool} (p : PvB f H D i J) (nD : H D = none) (k : Kp No J G) (hi : i ≤ 1000) (e : b = f i) : ∃ acc, G D = some (.lst acc) ∧ acc.length < sizeLine ∧ PvB f H D (i + 1) (upd G D (.lst (acc ++ [.bl b]))) := by
  refine ⟨_, k _ _ (fun z => z) p.1, by rw [List.length_map, List.length_map, List.length_range, sizeLine_eq]; omega, ?_, Kp.off (p.2.tr k) nD⟩
  rw [upd_same, List.range_succ, List.map_append, List.map_append, e]
  rfl
theorem range_all {α : Type} (p : α → Bool) : ∀ xs : List α, ∀ f : Nat → Bool, (∀ i x, xs[i]? = some x → f i = p x) → ((List.range xs.length).map f).all id = xs.all p := by
  intro xs f h
  rw [List.all_map]
  have e1 : xs.all p = (List.range xs.length).all f := by
    rw [Bool.eq_iff_iff, List.all_eq_true, List.all_eq_true]
    constructor
    · intro a i hi
      have hi := List.mem_range.mp hi
      rw [h i _ (List.getElem?_eq_getElem hi)]
      exact a _ (List.getElem_mem hi)
    · intro a x hx
      obtain ⟨i, hi, e⟩ := List.getElem_of_mem hx
      rw [← h i x (by rw [← e]; exact List.getElem?_eq_getElem hi)]
      exact a i (List.mem_range.mpr hi)
  rw [e1]
  rfl
/-- two ascending rows of the same things are one -/
theorem asc_unique {α : Type} {lt : α → α → Prop} (irr : ∀ x, ¬ lt x x) (tr : ∀ {x y z}, lt x y → lt y z → lt x z) : ∀ {xs ys : List α}, xs.Pairwise lt → ys.Pairwise lt → (∀ k, k ∈ xs ↔ k ∈ ys) → xs = ys
  | [], [], _, _, _ => rfl
  | [], y :: ys, _, _, h => absurd ((h y).mpr List.mem_cons_self) List.not_mem_nil
  | x :: xs, [], _, _, h => absurd ((h x).mp List.mem_cons_self) List.not_mem_nil
  | x :: xs, y :: ys, a, b, h => by
    obtain ⟨a1, a2⟩ := List.pairwise_cons.mp a
    obtain ⟨b1, b2⟩ := List.pairwise_cons.mp b
    have e : x = y := by
      rcases List.mem_cons.mp ((h x).mp List.mem_cons_self) with z | z
      · exact z
      · rcases List.mem_cons.mp ((h y).mpr List.mem_cons_self) with w | w
        · exact w.symm
        · exact absurd (tr (a1 y w) (b1 x z)) (irr x)
    subst e
    refine congrArg (x :: ·) (asc_unique irr tr a2 b2 fun k => ⟨fun m => ?_, fun m => ?_⟩)
    · rcases List.mem_cons.mp ((h k).mp (List.mem_cons_of_mem _ m)) with z | z
      · exact absurd (z ▸ a1 k m) (irr _)
      · exact z
    · rcases List.mem_cons.mp ((h k).mpr (List.mem_cons_of_mem _ m)) with z | z
      · exact absurd (z ▸ b1 k m) (irr _)
      · exact z
end KY

namespace KS
open PySem PySem.Spec PyProof.Rows L2
/-- [.. for c in s] -/
theorem lc_str {z : Str} {g : TG} {tt : TT} {te : TE} {vs : List Nat} {σ : L2.St} {H1 : Hp} {D : Addr} {Qd : Hp → Prop} (Pv : Nat → Hp → Prop) (h0 : Pv 0 (upd H1 D (.lst [])))
    (hs : ∀ i c H, z.cps.toList[i]? = some c → Pv i H → g (.str ⟨#[c]⟩) (wipe σ vs) H fun σ2 H2 => wipe σ2 vs = wipe σ vs ∧ tt σ2 H2 fun b H3 => if b = true then te σ2 H3 fun y H4 => ∃ acc, H4 D = some (.lst acc) ∧ acc.length < sizeLine ∧ Pv (i + 1) (upd H4 D (.lst (acc ++ [y]))) else Pv (i + 1) H3) (hd : ∀ H, Pv z.cps.toList.length H → Qd H) :
    ∃ W : Nat → Nat → Hp → Prop, (∃ m, W 0 m (upd H1 D (.lst []))) ∧ ∀ i m H, W i m H →
      ((Its z).stop i H ∧ Qd H) ∨ ((Its z).go i H ∧ ∃ Nx : Hp → Prop, (∀ H', Nx H' → ∃ m', m' < m ∧ W (i + 1) m' H') ∧ ∀ x H', (Its z).yld i H x H' → g x (wipe σ vs) H' fun σ2 H2 => wipe σ2 vs = wipe σ vs ∧ tt σ2 H2 fun b H3 =>
        if b = true then te σ2 H3 fun y H4 => ∃ acc, H4 D = some (.lst acc) ∧ acc.length < sizeLine ∧ Nx (upd H4 D (.lst (acc ++ [y]))) else Nx H3) := by
  have sz : z.cps.toList.length = z.cps.size := by simp
  refine ⟨fun i m H => m = z.cps.size - i ∧ i ≤ z.cps.size ∧ Pv i H, ⟨z.cps.size, rfl, Nat.zero_le _, h0⟩, ?_⟩
  rintro i m H ⟨rfl, hi, p⟩
  by_cases hlt : i < z.cps.size
  · refine .inr ⟨hlt, Pv (i + 1), fun H' p' => ⟨z.cps.size - (i + 1), by omega, rfl, hlt, p'⟩, fun x H' y => ?_⟩
    obtain ⟨e, c, hc, rfl⟩ := y
    subst e
    exact hs i c _ (by rw [Array.getElem?_toList]; exact hc) p
  · have e : i = z.cps.size := by omega
    subst e
    exact .inl ⟨Nat.le_refl _, hd H (by rw [sz]; exact p)⟩
end KS

/-! Own layer: «for i, x in enumerate(t)», t a tuple. -/
namespace KS
open PySem PySem.Spec PyProof.Rows L2
abbrev enO (it : Addr) : Obj := { cls := .type "enumerate", data := .fields #[.none, .bool false, .ref it, rawInt 0, .none, .none] }
theorem new_enum {v : Value} {o : Obj} {Hs : Heap → Prop} (B : Begins v o Hs) :
    Meets (Builtin.«enumerate.__new__» ⟨[.type "enumerate", v], []⟩) (fun _ R s => Hs s.heap ∧ R (.ok (.ret (.ref (s.heap.push o).objs.size))) { s with heap := (s.heap.push o).push (enO s.heap.objs.size) }) := by
  refine .of_wp fun prog w A R s hp => ?_
  obtain ⟨there, fin⟩ := hp
  obtain ⟨heap, gl, di, tok, os⟩ := s
  have sub := sub_enumerate
  have begin_ : ∀ {A2 : Around} {E2 : Value → Shared → Prop} {Q2 : Value → Shared → Prop}, Q2 (.ref heap.objs.size) ⟨heap.push o, gl, di, tok, os⟩ → wpAny (model prog w) A2 (pyIter v) Q2 E2 ⟨heap, gl, di, tok, os⟩ :=
    fun x => B.iter prog w _ _ ⟨heap, gl, di, tok, os⟩ _ there x
  wp_walk using begin_
  refine wpAny_stack_any fun st => wpAny_pure ?_
  split
  · rename_i c _ _ _ _ _
    cases (c == Value.type "enumerate") <;> (wp_walk using begin_; exact ⟨_, rfl, fin⟩)
  · wp_walk using begin_
    exact ⟨_, rfl, fin⟩
theorem call_enumT {P : Program} {w : World} {A : Around} {E : Value → Shared → Prop} {s : Shared} {a : Addr} {items : Array Value} {Q : Value → Shared → Prop} (hT : s.heap.IsTuple a items)
    (q : ∀ h', IsEnum h' (s.heap.objs.size + 1) s.heap.objs.size 0 .none → h'.IsTupleIter s.heap.objs.size a 0 → (∀ b o, s.heap.get? b = some o → h'.get? b = some o) → Q (.ref (s.heap.objs.size + 1)) { s with heap := h' }) :
    wpAny (model P w) A (call (.type "enumerate") [.ref a]) Q E s := by
  have B := begins_tuple a items
  refine callType_new F.called_enumerate (by decide) (F.typeCall_enumerate_1 _) (F.newCall_enumerate_1 _) (fun obj => F.args_object_init_2 obj _) F.entry_enumerate_new (new_enum B) ⟨hT, ?_⟩
  generalize hh : s.heap.push { cls := .type "tuple_iterator", data := .fields #[.ref a, .int 0 0] } = h1
  have z1 : h1.objs.size = s.heap.objs.size + 1 := by rw [← hh]; exact Heap.size_push ..
  have e1 : h1.get? s.heap.objs.size = some { cls := .type "tuple_iterator", data := .fields #[.ref a, .int 0 0] } := by rw [← hh]; exact Heap.get?_push_size _ rfl
  have k1 : ∀ b o, s.heap.get? b = some o → h1.get? b = some o := fun b o x => by rw [← hh]; exact Heap.get?_push_of_some _ x
  have e2 : IsEnum (h1.push (enO s.heap.objs.size)) (s.heap.objs.size + 1) s.heap.objs.size 0 .none := by
    rw [← z1]
    exact Heap.get?_push_size _ rfl
  have tail : ∃ o, (h1.push (enO s.heap.objs.size)).get? (s.heap.objs.size + 1) = some o ∧ o.cls = .type "enumerate" := ⟨_, e2, rfl⟩
  have fin := q _ e2 ⟨_, Heap.get?_push_of_some _ e1, rfl, rfl⟩ fun b o x => Heap.get?_push_of_some _ (k1 b o x)
  show _ ∧ _
  rw [z1]
  exact ⟨tail, fin⟩
/-- a tuple's items in new pairs with their numbers -/
def Itn (a : Addr) : It :=
  ⟨fun i H => ∃ (xs : List V) (x : V), Rd H a (.tup xs) ∧ xs[i]? = some x, fun i H v H' => ∃ T x, v = .ref T ∧ H T = none ∧ H' = upd H T (.tup [.int (i : Nat), x]) ∧ ∀ xs, Rd H a (.tup xs) → xs[i]? = some x, fun i H => ∃ xs : List V, Rd H a (.tup xs) ∧ xs.length ≤ i⟩
theorem turn_enumT {P : Program} {w : World} {K : PySem.W.Frag} {elts : List Expr} {kk : Nat} {tpos : Pos} (a e it : Addr) :
    Turn P w K (.Tuple elts kk tpos) (Itn a) [e, it] e (fun i h => (∃ old, IsEnum h e it ((i : Nat) : Int) old) ∧ h.IsTupleIter it a i ∧ e ≠ it) where
  mem := List.mem_cons_self
  obj := fun i h ⟨⟨old, he⟩, ⟨o, ho, _, hd⟩, _⟩ b hb => by
    rcases List.mem_cons.mp hb with rfl | hb
    · exact ⟨_, he, fun v z => nomatch z⟩
    · rw [List.mem_singleton.mp hb]
      exact ⟨o, ho, fun v z => by rw [hd] at z; cases z⟩
  keep := fun i h h' ⟨⟨old, he⟩, hi, ne⟩ k => ⟨⟨old, k e List.mem_cons_self _ he⟩, hi.at fun o q => k it (List.mem_cons_of_mem _ List.mem_cons_self) o q, ne⟩
  item := by
    intro X hP hw hK hc i pins s σ H E I hf st hg
    subst hP hw hK
    obtain ⟨⟨old, he⟩, hit, ne⟩ := st
    obtain ⟨xs, x, hq, hx⟩ := hg
    obtain ⟨its, rv, p, hz⟩ := I.tuple (.inl hq)
    obtain ⟨u, hu, ru⟩ := rv.get hx
    have hel : e < s.heap.objs.size := Heap.lt_size he
    have hil : it < s.heap.objs.size := by obtain ⟨_, q, _⟩ := hit; exact Heap.lt_size q
    have untr : ∀ b ∈ [e, it], b ≠ a := fun b hb z => by
      have n := (hf b hb).1
      rw [z] at n
      rcases hq with q | ⟨o, q⟩ <;> exact absurd (n.symm.trans q) (fun z => nomatch z)
    have ea := untr e List.mem_cons_self
    have ia := untr it (List.mem_cons_of_mem _ List.mem_cons_self)
    have D : Draws X.prog X.w X.A.in1 it [it, a] its.toArray.size (fun i v => its.toArray[i]? = some v) (fun i h => h.IsTupleIter it a i ∧ h.IsTuple a its.toArray) := Draws.tuple (A := X.A.in1) (show X.A.in1.handled = none from I.ok.hd hc) it a (Ne.symm ia) _
    have hlt : i < its.toArray.size := by
      rw [List.size_toArray, ← rv.length]
      exact (List.getElem?_eq_some_iff.mp hx).1
    refine wpAny_pyNext_enum_itemD D he ⟨hit, p⟩ hlt ne (by simp [ne, ea]) fun v h' tk hv ho st' hT hsz hk => ?_
    have ev : v = u := by
      have hv : its.toArray[i]? = some v := hv
      have hu' : its.toArray[i]? = some u := by simpa using hu
      rw [hv] at hu'
      exact Option.some.inj hu'
    subst ev
    refine ⟨_, rfl, wpAny_letOwnedTupleGo_enum (s := { s with heap := h', toks := tk + 1 }) ho fun h'' he' sb => ?_⟩
    have hT2 : h''.get? s.heap.objs.size = some { cls := .type "tuple", data := .seq #[.int i tk, v] } := (sb.2 _ (Nat.ne_of_gt hel)).trans hT
    have new : ObjOk X.prog X.w (upd H s.heap.objs.size (.tup [.int (i : Nat), x])) h'' s.heap.objs.size (.tup [.int (i : Nat), x]) :=
      ⟨by show 2 ≤ sizeLine; decide, [.int i tk, v], .cons ⟨_, rfl⟩ (.cons ru .nil), ⟨_, hT2, rfl, _, rfl⟩⟩
    have I1 : Inv X pins σ (upd H s.heap.objs.size (.tup [.int (i : Nat), x])) { s with heap := h'', toks := tk + 1 } :=
      I.turnedNew (ch := [e, it]) (fun b ob hb q => (sb.2 b (fun z => hb (by simp [z]))).trans (hk b ob (fun z => hb (by simp [z])) (fun z => hb (by simp [z])) q)) hf (Nat.le_refl _) new
    refine ⟨.ref s.heap.objs.size, _, I1, rfl, ⟨_, x, rfl, I.hok.fresh (Nat.le_refl _), rfl, fun ys hy => by rw [I.tuple_inj (.inl hy) (.inl hq)]; exact hx⟩, ⟨⟨v, ?_⟩, st'.1.at fun o q => (sb.2 it (Ne.symm ne)).trans q, ne⟩, fun b hb => ?_⟩
    · have e1 : ((i + 1 : Nat) : Int) = (i : Int) + 1 := by omega
      rw [e1]
      exact he'
    · have hb' : b < s.heap.objs.size := by
        rcases List.mem_cons.mp hb with z | z
        · rw [z]; exact hel
        · rw [List.mem_singleton.mp z]; exact hil
      rw [upd_ne (Nat.ne_of_lt hb')]
      exact (hf b hb).1
  done := by
    intro X hP hw hK hc i pins s σ H E I hf st hg
    subst hP hw hK
    obtain ⟨⟨old, he⟩, hit, ne⟩ := st
    obtain ⟨xs, hq, hx⟩ := hg
    obtain ⟨its, rv, p, hz⟩ := I.tuple (.inl hq)
    obtain ⟨f0, f1, f2, f3, f4, f5⟩ := hf it (List.mem_cons_of_mem _ List.mem_cons_self)
    have len := rv.length
    have hT : s.TypeIs (.ref e) "enumerate" := ⟨_, he, rfl⟩
    unfold pyNext
    refine wpAny_bind (wpAny_attempt (wpAny_callSpecial?_slot (name := Str.ofString "__next__") hT F.slot_enumerate_next (wpAny_call_entry F.slot_enumerate_next hT F.entry_enumerate_next ?_ (F.args_enumerate_next_1 _))))
    show wpAny _ _ (field (.ref e) 2 >>= _) _ _ _
    refine wpAny_bind (wpAny_field he rfl (x := .ref it) rfl ?_)
    refine wpAny_bind (wpAny_nextOf_tuple_end (I.ok.hd hc) hit p (by simp; omega) fun h' x eb ⟨o, ho, hcl⟩ => ?_)
    refine wpAny_bind (wpAny_isInstance (T := "StopIteration") (b := true) ⟨o, ho, hcl⟩ isSubtype_stop ?_)
    exact wpAny_pure ⟨rfl, I.turned (t' := s.toks) (fun b o hb q => eb b o hb q) f0 f1 f3 f4 f5⟩
  self := fun A i s Q E st h => let ⟨⟨_, he⟩, _⟩ := st; wpAny_pyIter_enum he h
def iEnT (ta : TA) : TI := fun σ H R => ta σ H fun vs H1 => ∃ (a : Addr) (xs : List V), vs = [.ref a] ∧ Rd H1 a (.tup xs) ∧ R (Itn a) H1
theorem pi_enumT {X : Cx} {e : Expr} {ta : TA} {p pos tpos : Pos} {elts : List Expr} {kk : Nat} (hg : Gl X "enumerate") (hm : X.mg "enumerate" = none) (ha : PA X [e] ta) (hs : starEach [e] X.env = [(false, eval e X.env)] := by rfl) :
    PI X (.Tuple elts kk tpos) (.Call (.Name "enumerate" p) [e] [] pos) (iEnT ta) := by
  refine ⟨fun pins s σ H R I h => ?_⟩
  refine Call_ (ld_blt I hg hm boot_enumerate (PyProof.Rows.callWith_type1 (thn (ha.run pos pins s σ H _ I h) fun us s1 ⟨vs, H1, I1, r1, a, xs, ex, hq, q⟩ => ?_) hs rfl))
  subst ex
  obtain rfl := Vals.ref1 r1
  obtain ⟨its, rv, p', hz⟩ := I1.tuple (.inl hq)
  refine call_enumT (show s1.heap.IsTuple a its.toArray from p') fun h' he hit hk => wpAny_pyIter_enum he ⟨s1.heap.objs.size + 1, [s1.heap.objs.size + 1, s1.heap.objs.size], _, _, H1, rfl, I1.kept (t' := s1.toks) hk, turn_enumT a (s1.heap.objs.size + 1) s1.heap.objs.size, ⟨⟨.none, he⟩, hit, Nat.succ_ne_self _⟩, fun b hb => ?_, q⟩
  have hle : s1.heap.objs.size ≤ b := by
    rcases List.mem_cons.mp hb with z | z
    · rw [z]; exact Nat.le_add_right _ _
    · rw [List.mem_singleton.mp z]; exact Nat.le_refl _
  exact I1.fpOk hle (I1.hok.fresh hle)
end KS

namespace KY
open PySem PySem.Spec PyProof.Rows L2 KL KS GR
/-! ### a def called by keywords alone -/
def tCallK0 (sp : Sp) (gV : List V → List V → List V) (E : XK) (tk : TA) : TE := fun σ H Q => tk σ H fun zs H1 => sp (gV [] zs) H1 Q E
theorem pe_callK0 {X : Cx} {CX : CXT} {k : Nat} {f : Addr} {fd : FuncData} {ps ks : List Str} {sp : Sp} {E : XK} {x : Str} {p pos : Pos} {kws : List Keyword} {tk : TA} {g : List Value → List Value → List Value} {gV : List V → List V → List V}
    (F : FnOk X.prog X.w X.K X.mg X.base CX k f fd ps sp) (hr : Room k X.A) (hg : Gl X x) (hm : X.mg x = some (.ref f)) (hk : PySem.W.keepIn X.K (.ref f) = true) (hb : KBinds X.K fd ps ks g gV) (hx : Passes CX X E) (hkw : PK X kws tk)
    (hall : (backToKw pos (keywordEach kws X.env)).all (·.1.isSome) = true := by rfl) (hks : (backToKw pos (keywordEach kws X.env)).filterMap (·.1) = ks := by rfl) (hdb : (x == ("__debug__" : Str)) = false := by decide)
    (hpl : ((backTo pos (starEach [] X.env)).any (·.1) || (backToKw pos (keywordEach kws X.env)).any (·.1.isNone)) = false := by rfl) : PE X (.Call (.Name x p) [] kws pos) (tCallK0 sp gV E tk) := by
  refine ⟨fun pins s σ H Q I h => wpAny_Call_Name_kw (ld_glob I hg hm ?_ hdb)⟩
  refine PySem.W.callWith_KW0 (h₀ := X.base) I.ok.mod.kin hk hall (thn (hkw.run pos pins s σ H _ I h) fun ws s1 ⟨zs, H1, I1, rz, q⟩ => ⟨I1.kIn, ?_⟩) hpl
  rw [hks]
  exact run_fnk (us := []) (vs := []) F hr hb hx I1 .nil rz q
def gRev : List Value → List Value → List Value
  | [], ws => ws.reverse
  | _ :: _, _ => []
def gRevV : List V → List V → List V
  | [], zs => zs.reverse
  | _ :: _, _ => []
def gOne : List Value → List Value → List Value
  | [], ws => ws
  | _ :: _, _ => []
def gOneV : List V → List V → List V
  | [], zs => zs
  | _ :: _, _ => []
theorem kb_rev {K : PySem.W.Frag} {fd : FuncData} {x y : Str} (h : ∀ (s : Shared) (u v : Value), BindsTo s fd ⟨[], [(y, u), (x, v)]⟩ [(x, v), (y, u)]) : KBinds K fd [x, y] [y, x] gRev gRevV := by
  refine ⟨fun s us ws _ hl => ?_, fun r rz => ?_⟩
  · match us, ws, hl with
    | [], [u, v], _ => exact h s u v
    | [], [], hl => cases hl
    | [], [_], hl => cases hl
    | [], _ :: _ :: _ :: _, hl =>
      have hl : (List.reverse _).length = 2 := hl
      rw [List.length_reverse] at hl
      cases hl
    | _ :: _, _, hl => cases hl
  · cases r with
    | nil => exact rz.reverse
    | cons _ _ => exact .nil
theorem kb_one {K : PySem.W.Frag} {fd : FuncData} {x : Str} (h : ∀ (s : Shared) (u : Value), BindsTo s fd ⟨[], [(x, u)]⟩ [(x, u)]) : KBinds K fd [x] [x] gOne gOneV := by
  refine ⟨fun s us ws _ hl => ?_, fun r rz => ?_⟩
  · match us, ws, hl with
    | [], [u], _ => exact h s u
    | [], [], hl => cases hl
    | [], _ :: _ :: _, hl => cases hl
    | _ :: _, _, hl => cases hl
  · cases r with
    | nil => exact rz
    | cons _ _ => exact .nil
/-- the turns of «for i, x in enumerate(t)» -/
theorem for_enumT {a : Addr} {xs : List V} {g : TG} {tb : TS} {D : Ends} {σ : L2.St} {H : Hp} (Pv : Nat → L2.St → Hp → Prop) (h0 : Pv 0 σ H) (hl : ∀ i σ H, Pv i σ H → Rd H a (.tup xs))
    (hs : ∀ i x σ H T, xs[i]? = some x → Pv i σ H → H T = none → g (.ref T) σ (upd H T (.tup [.int (i : Nat), x])) fun σ2 H2 => tb { D with nx := Pv (i + 1), ct := Pv (i + 1), bk := D.nx } σ2 H2) (hd : ∀ σ H, Pv xs.length σ H → D.nx σ H) :
    ∃ W : Nat → Nat → L2.St → Hp → Prop, (∃ m, W 0 m σ H) ∧ ∀ i m σ H, W i m σ H →
      ((Itn a).stop i H ∧ D.nx σ H) ∨ ((Itn a).go i H ∧ ∃ Nx : L2.St → Hp → Prop, (∀ σ' H', Nx σ' H' → ∃ m', m' < m ∧ W (i + 1) m' σ' H') ∧ ∀ x H', (Itn a).yld i H x H' → g x σ H' fun σ2 H2 => tb { D with nx := Nx, ct := Nx, bk := D.nx } σ2 H2) := by
  refine ⟨fun i m σ H => m + i = xs.length ∧ Pv i σ H, ⟨xs.length, rfl, h0⟩, ?_⟩
  rintro i m σ H ⟨e, p⟩
  have rd := hl i σ H p
  cases m with
  | zero =>
    have e : i = xs.length := by omega
    subst e
    exact .inl ⟨⟨xs, rd, Nat.le_refl _⟩, hd σ H p⟩
  | succ m =>
    have lt : i < xs.length := by omega
    refine .inr ⟨⟨xs, xs[i], rd, List.getElem?_eq_getElem lt⟩, Pv (i + 1), fun σ' H' p' => ⟨m, Nat.lt_succ_self m, by omega, p'⟩, fun x H' ⟨T, y, e1, nT, e2, get⟩ => ?_⟩
    subst e1 e2
    exact hs i y σ H T (get xs rd) p nT
end KY

namespace GR
open PySem PySem.Spec PyProof.Rows L2 KL KG KS KV KY
theorem shaped_ints (ns : List Int) : SeqAt.shaped (dInts ns) = true := by
  have a : ∀ ns : List Int, PyData.canLayAll0 (ns.map PyData.int) = true := fun ns => by
    induction ns with
    | nil => rfl
    | cons n ns ih =>
      show (PyData.canLay0 (.int n) && PyData.canLayAll0 (ns.map PyData.int)) = true
      rw [ih]
      rfl
  have b : ∀ ns : List Int, PyData.depthAll (ns.map PyData.int) ≤ 1 := fun ns => by
    induction ns with
    | nil => exact Nat.zero_le _
    | cons n ns ih =>
      simp only [List.map_cons, PyData.depthAll, PyData.depth]
      omega
  unfold SeqAt.shaped dInts
  have e1 : PyData.canLay0 (.tuple (ns.map PyData.int)) = true := a ns
  rw [e1, Bool.true_and]
  refine decide_eq_true ?_
  simp only [PyData.depth]
  have := b ns
  omega
theorem shaped_rows (rows : List (List Int)) : SeqAt.shaped (.list (rows.map dInts)) = true := by
  have a : ∀ rows : List (List Int), PyData.canLayAll0 (rows.map dInts) = true := fun rows => by
    induction rows with
    | nil => rfl
    | cons r rows ih =>
      show (PyData.canLay0 (dInts r) && PyData.canLayAll0 (rows.map dInts)) = true
      rw [ih, SeqAt.canLay_of_shaped (shaped_ints r)]
      rfl
  have b : ∀ rows : List (List Int), PyData.depthAll (rows.map dInts) ≤ 60 := fun rows => by
    induction rows with
    | nil => exact Nat.zero_le _
    | cons r rows ih =>
      have h : (dInts r).depth ≤ 2 := by
        have c : ∀ ns : List Int, PyData.depthAll (ns.map PyData.int) ≤ 1 := fun ns => by
          induction ns with
          | nil => exact Nat.zero_le _
          | cons n ns ih =>
            simp only [List.map_cons, PyData.depthAll, PyData.depth]
            omega
        have := c r
        simp only [dInts, PyData.depth]
        omega
      simp only [List.map_cons, PyData.depthAll]
      omega
  unfold SeqAt.shaped
  have e1 : PyData.canLay0 (.list (rows.map dInts)) = true := a rows
  rw [e1, Bool.true_and]
  refine decide_eq_true ?_
  simp only [PyData.depth]
  have := b rows
  omega
theorem eqv_ints : ∀ ms ns : List Int, PyData.eqvAll (ms.map PyData.int) (ns.map PyData.int) = decide (ms = ns)
  | [], [] => rfl
  | [], _ :: _ => rfl
  | _ :: _, [] => rfl
  | m :: ms, n :: ns => by
    show (PyData.eqv (.int m) (.int n) && PyData.eqvAll (ms.map PyData.int) (ns.map PyData.int)) = _
    rw [eqv_ints ms ns]
    show ((m == n) && decide (ms = ns)) = _
    by_cases h : m = n
    · rw [beq_iff_eq.mpr h, Bool.true_and]
      exact decide_eq_decide.mpr ⟨fun e => by rw [h, e], fun e => (List.cons.inj e).2⟩
    · rw [beq_eq_false_iff_ne.mpr h, Bool.false_and]
      exact (decide_eq_false fun e => h (List.cons.inj e).1).symm
theorem DpAll.ints {K : PySem.W.Frag} {H : Hp} : ∀ ns : List Int, DpAll K H (ns.map V.int) (ns.map PyData.int)
  | [] => .nil
  | n :: ns => .cons (.int n) (DpAll.ints ns)
theorem eqv_dInts (a b : List Int) : PyData.eqv (dInts a) (dInts b) = decide (a = b) := eqv_ints a b
end GR

namespace GR
open PySem PySem.Spec PyProof.Rows L2 KL KG KS KV KY
/-! ### lots: within, without -/
theorem in_ints {m : Int} {ns : List Int} : inV (.int m) (ns.map V.int) = decide (m ∈ ns) := by
  have e : inV (.int m) (ns.map V.int) = ns.any (fun k => k == m) := by
    unfold inV
    rw [List.any_map]
    rfl
  rw [e, Bool.eq_iff_iff, List.any_eq_true, decide_eq_true_iff]
  exact ⟨fun ⟨k, hk, z⟩ => (beq_iff_eq.mp z) ▸ hk, fun h => ⟨m, h, beq_self_eq_true m⟩⟩
theorem flat_ints (ns : List Int) : (ns.map V.int).all flatV = true := by
  rw [List.all_eq_true]
  intro x hx
  obtain ⟨y, _, rfl⟩ := List.mem_map.mp hx
  rfl
end GR

/-! Own layer, values: what defs do to values and a store of lists, without addresses. -/
namespace FL
open PySem PySem.Spec PyProof.Rows L2 KL KG GR

/-- a value: data of tuples and scalars, or the list number n of the store -/
inductive W where
  | d (x : PyData) | l (n : Nat)
/-- what stands in the store -/
inductive Ob where
  | ls (xs : List W) | dk (kvs : List (Int × Int))
abbrev Sto := List Ob
abbrev Ev := List (Option W)
abbrev WQ := W → Sto → Prop
abbrev ME := Ev → Sto → WQ → Prop
abbrev MT := Ev → Sto → (Bool → Sto → Prop) → Prop
abbrev MA := Ev → Sto → (List W → Sto → Prop) → Prop
abbrev MO := Ev → Sto → (Option Int → Sto → Prop) → Prop

/-! ### relations -/
/-- a list that nobody writes to: locked, or of the written part -/
def SqZ (K : PySem.W.Frag) (H : Hp) (a : Addr) (xs : List V) : Prop := (∃ o, H a = some (.frz o (.lst xs))) ∨
    ∃ (o : Obj) (its : Array Value) (n : Nat), K.lookup a = some o ∧ o.cls = .type "list" ∧ o.dict = none ∧ o.data = .seq its n ∧ its.size ≤ sizeLine ∧ Vals xs its.toList
theorem SqZ.sql {K : PySem.W.Frag} {H : Hp} {a : Addr} {xs : List V} (h : SqZ K H a xs) : SqL K H a xs := h.imp (fun h => .inr h) id
mutual
inductive TD (K : PySem.W.Frag) (H : Hp) : V → PyData → Prop
  | non : TD K H .non .none
  | bl (b : Bool) : TD K H (.bl b) (.bool b)
  | int (i : Int) : TD K H (.int i) (.int i)
  | str (x : Str) : TD K H (.str x) (.str x)
  | tup {a : Addr} {xs : List V} {ds : List PyData} (e : Rd H a (.tup xs)) (h : TDL K H xs ds) : TD K H (.ref a) (.tuple ds)
  | lst {a : Addr} {xs : List V} {ds : List PyData} (e : SqZ K H a xs) (h : TDL K H xs ds) : TD K H (.ref a) (.list ds)
inductive TDL (K : PySem.W.Frag) (H : Hp) : List V → List PyData → Prop
  | nil : TDL K H [] []
  | cons {v : V} {vs : List V} {d : PyData} {ds : List PyData} (h : TD K H v d) (t : TDL K H vs ds) : TDL K H (v :: vs) (d :: ds)
end
/-- what never changes -/
def stay : HO → Bool
  | .tup _ => true
  | .frz _ _ => true
  | .own _ => true
  | .xd _ => true
  | .met _ _ => true
  | .rng _ _ => true
  | _ => false
def Kt (H G : Hp) : Prop := ∀ b o, stay o = true → H b = some o → G b = some o
theorem Kt.rfl' {H : Hp} : Kt H H := fun _ _ _ h => h
theorem Kt.tr {H G J : Hp} (a : Kt H G) (b : Kt G J) : Kt H J := fun c o s h => b c o s (a c o s h)
theorem Kt.new {H : Hp} {p : Addr} {o : HO} (n : H p = none) : Kt H (upd H p o) := fun b u _ e => by rw [upd_ne (ne_of_none e n)]; exact e
theorem Kt.wr {H : Hp} {p : Addr} {o u : HO} (e : H p = some u) (s : stay u = false) : Kt H (upd H p o) := fun b v sv ev => by
  have ne : b ≠ p := fun z => by
    subst z
    rw [e] at ev
    cases ev
    rw [s] at sv
    cases sv
  rw [upd_ne ne]
  exact ev
theorem Kt.sqt {K : PySem.W.Frag} {H G : Hp} {a : Addr} {xs : List V} (k : Kt H G) (h : SqT K H a xs) : SqT K G a xs := by
  rcases h with (h | ⟨o, h⟩) | h
  · exact .inl (.inl (k _ _ rfl h))
  · exact .inl (.inr ⟨o, k _ _ rfl h⟩)
  · exact .inr h
theorem Kt.rd {H G : Hp} {a : Addr} {xs : List V} (k : Kt H G) (h : Rd H a (.tup xs)) : Rd G a (.tup xs) := h.imp (k _ _ rfl) fun ⟨o, h⟩ => ⟨o, k _ _ rfl h⟩
section
variable {K : PySem.W.Frag} {H G : Hp}
mutual
theorem TD.mv (k : Kt H G) : ∀ (d : PyData) (v : V), TD K H v d → TD K G v d
  | .none, _, h => by cases h; exact .non
  | .bool _, _, h => by cases h; exact .bl _
  | .int _, _, h => by cases h; exact .int _
  | .str _, _, h => by cases h; exact .str _
  | .tuple ds, _, h => by
    cases h with
    | tup e h => exact .tup (k.rd e) (TDL.mv k ds _ h)
  | .list ds, _, h => by
    cases h with
    | lst e h => exact .lst (e.imp (fun ⟨o, h⟩ => ⟨o, k _ _ rfl h⟩) id) (TDL.mv k ds _ h)
  | .dict _, _, h => by cases h
theorem TDL.mv (k : Kt H G) : ∀ (ds : List PyData) (vs : List V), TDL K H vs ds → TDL K G vs ds
  | [], _, h => by cases h; exact .nil
  | d :: ds, _, h => by
    cases h with
    | cons h t => exact .cons (TD.mv k d _ h) (TDL.mv k ds _ t)
end
theorem TDL.len : ∀ {vs : List V} {ds : List PyData}, TDL K H vs ds → vs.length = ds.length
  | _, _, .nil => rfl
  | _, _, .cons _ t => congrArg Nat.succ t.len
theorem TDL.app : ∀ {vs ws : List V} {ds es : List PyData}, TDL K H vs ds → TDL K H ws es → TDL K H (vs ++ ws) (ds ++ es)
  | _, _, _, _, .nil, h => h
  | _, _, _, _, .cons a t, h => .cons a (t.app h)
theorem TDL.drop : ∀ {vs : List V} {ds : List PyData} (i : Nat), TDL K H vs ds → TDL K H (vs.drop i) (ds.drop i)
  | _, _, 0, h => h
  | _, _, i + 1, .nil => .nil
  | _, _, i + 1, .cons _ t => TDL.drop i t
theorem TDL.take : ∀ {vs : List V} {ds : List PyData} (i : Nat), TDL K H vs ds → TDL K H (vs.take i) (ds.take i)
  | _, _, 0, _ => by simpa using TDL.nil
  | _, _, i + 1, .nil => .nil
  | _, _, i + 1, .cons a t => .cons a (TDL.take i t)
theorem TDL.getD : ∀ {vs : List V} {ds : List PyData} {i : Nat} {d : PyData}, TDL K H vs ds → ds[i]? = some d → ∃ v, vs[i]? = some v ∧ TD K H v d
  | _, _, _, _, .nil, e => by simp at e
  | _, _, 0, _, .cons a _, e => by
    have q := Option.some.inj e
    subst q
    exact ⟨_, rfl, a⟩
  | _, _, i + 1, _, .cons _ t, e => t.getD (i := i) e
theorem TDL.ints : ∀ (ns : List Int) {vs : List V}, TDL K H vs (ns.map PyData.int) → vs = ns.map V.int
  | [], _, h => by cases h; rfl
  | n :: ns, _, h => by
    cases h with
    | cons a t =>
      cases a
      rw [TDL.ints ns t]
      rfl
theorem TDL.ofInts : ∀ ns : List Int, TDL K H (ns.map V.int) (ns.map PyData.int)
  | [] => .nil
  | n :: ns => .cons (.int n) (TDL.ofInts ns)
mutual
theorem TD.dp : ∀ (d : PyData) (v : V), TD K H v d → Dp K H v d
  | .none, _, h => by cases h; exact .non
  | .bool _, _, h => by cases h; exact .bl _
  | .int _, _, h => by cases h; exact .int _
  | .str _, _, h => by cases h; exact .str _
  | .tuple ds, _, h => by
    cases h with
    | tup e h => exact .tup (.inl e) (TDL.dp ds _ h)
  | .list ds, _, h => by
    cases h with
    | lst e h => exact .lst e.sql (TDL.dp ds _ h)
  | .dict _, _, h => by cases h
theorem TDL.dp : ∀ (ds : List PyData) (vs : List V), TDL K H vs ds → DpAll K H vs ds
  | [], _, h => by cases h; exact .nil
  | d :: ds, _, h => by
    cases h with
    | cons h t => exact .cons (TD.dp d _ h) (TDL.dp ds _ t)
end
end

mutual
/-- data of tuples and scalars alone -/
def tupOnly : PyData → Bool
  | .none => true
  | .bool _ => true
  | .int _ => true
  | .str _ => true
  | .tuple ds => tupOnlyL ds
  | .list _ => false
  | .dict _ => false
def tupOnlyL : List PyData → Bool
  | [] => true
  | d :: ds => tupOnly d && tupOnlyL ds
end
theorem tupOnlyL_iff : ∀ {ds : List PyData}, tupOnlyL ds = true ↔ ∀ d ∈ ds, tupOnly d = true
  | [] => ⟨fun _ d hd => absurd hd List.not_mem_nil, fun _ => rfl⟩
  | d :: ds => by
    show (tupOnly d && tupOnlyL ds) = true ↔ _
    rw [Bool.and_eq_true, tupOnlyL_iff (ds := ds), List.forall_mem_cons]
section
variable {K : PySem.W.Frag} {H : Hp} {ts : List Addr} (tb : Tb ts H)
include tb
theorem tb_ne {a : Addr} {xs : List V} (e : Rd H a (.tup xs)) : a ∉ ts := fun h => by
  obtain ⟨ps, q, _⟩ := tb a h
  rcases e with e | ⟨o, e⟩ <;> rw [q] at e <;> cases e
mutual
theorem TD.dq : ∀ (d : PyData) (v : V), tupOnly d = true → TD K H v d → Dq (fun b => b ∈ ts) H v d
  | .none, _, _, h => by cases h; exact .non
  | .bool _, _, _, h => by cases h; exact .bl _
  | .int _, _, _, h => by cases h; exact .int _
  | .str _, _, _, h => by cases h; exact .str _
  | .tuple ds, _, t, h => by
    cases h with
    | tup e h => exact .tup e (tb_ne tb e) (TDL.dq ds _ t h)
  | .list _, _, t, h => absurd t Bool.false_ne_true
  | .dict _, _, t, h => absurd t Bool.false_ne_true
theorem TDL.dq : ∀ (ds : List PyData) (vs : List V), tupOnlyL ds = true → TDL K H vs ds → DqL (fun b => b ∈ ts) H vs ds
  | [], _, _, h => by cases h; exact .nil
  | d :: ds, _, t, h => by
    cases h with
    | cons h r =>
      have t : (tupOnly d && tupOnlyL ds) = true := t
      rw [Bool.and_eq_true] at t
      exact .cons (TD.dq d _ t.1 h) (TDL.dq ds _ t.2 r)
end
end
def RW (K : PySem.W.Frag) (μ : List Addr) (H : Hp) (v : V) : W → Prop
  | .d x => TD K H v x
  | .l n => ∃ a, μ[n]? = some a ∧ v = .ref a
abbrev RWL (K : PySem.W.Frag) (μ : List Addr) (H : Hp) : List V → List W → Prop := Paired (RW K μ H)
/-- an int to an int, as the words say it -/
def eKV (p : Int × Int) : Key × V := (.inl p.1, .int p.2)
def ObR (K : PySem.W.Frag) (μ : List Addr) (H : Hp) (a : Addr) : Ob → Prop
  | .ls xs => ∃ vs, H a = some (.lst vs) ∧ RWL K μ H vs xs
  | .dk kvs => H a = some (.dK (kvs.map eKV))
structure SR (K : PySem.W.Frag) (ts : List Addr) (μ : List Addr) (st : Sto) (H : Hp) : Prop where
  len : μ.length = st.length
  nd : μ.Nodup
  ob : ∀ (n : Nat) (a : Addr) (o : Ob), μ[n]? = some a → st[n]? = some o → ObR K μ H a o
  tb : Tb ts H
abbrev RE (K : PySem.W.Frag) (μ : List Addr) (H : Hp) : L2.St → Ev → Prop := Paired fun o w => ∀ x, w = some x → ∃ v, o = some v ∧ RW K μ H v x
/-- the store has grown, all that never changes stands -/
def Gr (μ : List Addr) (H : Hp) (μ' : List Addr) (G : Hp) : Prop := μ <+: μ' ∧ Kt H G
section
variable {K : PySem.W.Frag} {ts μ μ' μ'' : List Addr} {H G J : Hp} {st : Sto}
theorem Gr.rfl' : Gr μ H μ H := ⟨List.prefix_refl _, Kt.rfl'⟩
theorem Gr.tr (a : Gr μ H μ' G) (b : Gr μ' G μ'' J) : Gr μ H μ'' J := ⟨a.1.trans b.1, a.2.tr b.2⟩
theorem pre_get {α : Type} {l l' : List α} {n : Nat} {x : α} (h : l <+: l') (e : l[n]? = some x) : l'[n]? = some x := by
  obtain ⟨r, rfl⟩ := h
  rw [List.getElem?_append_left (List.getElem?_eq_some_iff.mp e).1]
  exact e
theorem RW.mv {v : V} : ∀ {w : W}, RW K μ H v w → Gr μ H μ' G → RW K μ' G v w
  | .d x, h, g => TD.mv g.2 x v h
  | .l n, ⟨a, e, q⟩, g => ⟨a, pre_get g.1 e, q⟩
theorem RWL.mv (g : Gr μ H μ' G) : ∀ {vs : List V} {ws : List W}, RWL K μ H vs ws → RWL K μ' G vs ws
  | _, _, .nil => .nil
  | _, _, .cons a t => .cons (RW.mv a g) (RWL.mv g t)
theorem RE.mv (g : Gr μ H μ' G) : ∀ {σ : L2.St} {ρ : Ev}, RE K μ H σ ρ → RE K μ' G σ ρ
  | _, _, .nil => .nil
  | _, _, .cons a t => .cons (fun x e => let ⟨v, q, r⟩ := a x e; ⟨v, q, RW.mv r g⟩) (RE.mv g t)
theorem RE.get : ∀ {σ : L2.St} {ρ : Ev} {i : Nat} {w : W}, RE K μ H σ ρ → ρ[i]? = some (some w) → ∃ v, σ[i]? = some (some v) ∧ RW K μ H v w
  | _, _, _, _, .nil, e => by simp at e
  | _, _, 0, w, .cons a _, e => by
    obtain ⟨v, q, r⟩ := a w (Option.some.inj e)
    exact ⟨v, by rw [q]; rfl, r⟩
  | _, _, i + 1, _, .cons _ t, e => RE.get (i := i) t e
theorem RE.set {v : V} {w : W} (r : RW K μ H v w) : ∀ {σ : L2.St} {ρ : Ev} (i : Nat), RE K μ H σ ρ → RE K μ H (σ.set i (some v)) (ρ.set i (some w))
  | _, _, _, .nil => .nil
  | _, _, 0, .cons _ t => .cons (fun x e => ⟨v, rfl, by cases e; exact r⟩) t
  | _, _, i + 1, .cons a t => .cons a (RE.set r i t)
theorem nodup_at {α : Type} {l : List α} (h : l.Nodup) {i j : Nat} {x : α} (a : l[i]? = some x) (b : l[j]? = some x) : i = j := (List.getElem?_inj (List.getElem?_eq_some_iff.mp a).1 h).mp (a.trans b.symm)
/-- a new object at p -/
theorem SR.new {p : Addr} {o : HO} (S : SR K ts μ st H) (n : H p = none) : SR K ts μ st (upd H p o) := by
  refine ⟨S.len, S.nd, fun k a ob e1 e2 => ?_, fun P hP => ?_⟩
  · have z := S.ob k a ob e1 e2
    have g : Gr μ H μ (upd H p o) := ⟨List.prefix_refl _, Kt.new n⟩
    cases ob with
    | ls xs =>
      obtain ⟨vs, h1, h2⟩ := z
      exact ⟨vs, by rw [upd_ne (ne_of_none h1 n)]; exact h1, RWL.mv g h2⟩
    | dk kvs =>
      have z : H a = some (.dK (kvs.map eKV)) := z
      show upd H p o a = _
      rw [upd_ne (ne_of_none z n)]
      exact z
  · obtain ⟨ps, e, r⟩ := S.tb P hP
    exact ⟨ps, by rw [upd_ne (ne_of_none e n)]; exact e, r⟩
theorem SR.lt (S : SR K ts μ st H) {n : Nat} {o : Ob} (e : st[n]? = some o) : ∃ a, μ[n]? = some a := by
  have h := (List.getElem?_eq_some_iff.mp e).1
  rw [← S.len] at h
  exact ⟨_, List.getElem?_eq_getElem h⟩
theorem SR.fresh {p : Addr} (S : SR K ts μ st H) (n : H p = none) : p ∉ μ := fun hm => by
  obtain ⟨k, hk⟩ := List.getElem?_of_mem hm
  have hk' := (List.getElem?_eq_some_iff.mp hk).1
  rw [S.len] at hk'
  have z := S.ob k p _ hk (List.getElem?_eq_getElem hk')
  revert z
  cases st[k] with
  | ls ys =>
    rintro ⟨ws, h1, _⟩
    rw [n] at h1
    cases h1
  | dk kvs =>
    intro z
    have z : H p = some (.dK (kvs.map eKV)) := z
    rw [n] at z
    cases z
/-- a new object -/
theorem SR.allocO {p : Addr} {o : HO} {ob : Ob} (S : SR K ts μ st H) (n : H p = none) (r : ObR K (μ ++ [p]) (upd H p o) p ob) : SR K ts (μ ++ [p]) (st ++ [ob]) (upd H p o) := by
  have g : Gr μ H (μ ++ [p]) (upd H p o) := ⟨List.prefix_append _ _, Kt.new n⟩
  have S1 := S.new (o := o) n
  have fresh := S.fresh n
  refine ⟨by rw [List.length_append, List.length_append, S.len]; rfl, ?_, fun k a u e1 e2 => ?_, S1.tb⟩
  · rw [List.nodup_append]
    exact ⟨S.nd, by simp, fun a ha b hb => by
      rw [List.mem_singleton.mp hb]
      rintro rfl
      exact fresh ha⟩
  · have hk : k < st.length ∨ k = st.length := by
      have := (List.getElem?_eq_some_iff.mp e2).1
      rw [List.length_append] at this
      simp at this
      omega
    rcases hk with hk | rfl
    · rw [List.getElem?_append_left (by rw [S.len]; exact hk)] at e1
      rw [List.getElem?_append_left hk] at e2
      have z := S1.ob k a u e1 e2
      cases u with
      | ls ys =>
        obtain ⟨ws, h1, h2⟩ := z
        exact ⟨ws, h1, RWL.mv ⟨List.prefix_append _ _, Kt.rfl'⟩ h2⟩
      | dk kvs => exact z
    · rw [← S.len] at e1
      simp at e1
      rw [List.getElem?_append_right (Nat.le_refl _)] at e2
      simp at e2
      subst e1 e2
      exact r
/-- a new list -/
theorem SR.alloc {p : Addr} {vs : List V} {xs : List W} (S : SR K ts μ st H) (n : H p = none) (r : RWL K μ H vs xs) : SR K ts (μ ++ [p]) (st ++ [.ls xs]) (upd H p (.lst vs)) :=
  S.allocO n ⟨vs, upd_same, RWL.mv ⟨List.prefix_append _ _, Kt.new n⟩ r⟩
/-- a new dict -/
theorem SR.allocD {p : Addr} (S : SR K ts μ st H) (n : H p = none) : SR K ts (μ ++ [p]) (st ++ [.dk []]) (upd H p (.dK [])) := S.allocO n (by show upd H p _ p = _; exact upd_same)
/-- an object that may be written to -/
theorem SR.mut (S : SR K ts μ st H) {n : Nat} {a : Addr} {o : Ob} (e : μ[n]? = some a) (eo : st[n]? = some o) : ∃ u, H a = some u ∧ stay u = false := by
  have z := S.ob n a o e eo
  cases o with
  | ls ys => exact ⟨_, z.choose_spec.1, rfl⟩
  | dk kvs => exact ⟨_, z, rfl⟩
/-- an object is changed -/
theorem SR.writeO {n : Nat} {a : Addr} {o ob : Ob} {u : HO} (S : SR K ts μ st H) (e : μ[n]? = some a) (eo : st[n]? = some o) (r : ObR K μ (upd H a u) a ob) (hs : ∀ k, u ≠ .tbl k) : SR K ts μ (st.set n ob) (upd H a u) ∧ Kt H (upd H a u) := by
  obtain ⟨v, hu, sv⟩ := S.mut e eo
  have kt : Kt H (upd H a u) := Kt.wr hu sv
  have g : Gr μ H μ (upd H a u) := ⟨List.prefix_refl _, kt⟩
  refine ⟨⟨by rw [List.length_set]; exact S.len, S.nd, fun k b w e1 e2 => ?_, fun P hP => ?_⟩, kt⟩
  · by_cases hk : k = n
    · subst hk
      rw [e] at e1
      cases e1
      rw [List.getElem?_set_self (List.getElem?_eq_some_iff.mp eo).1] at e2
      cases e2
      exact r
    · rw [List.getElem?_set_ne (fun z => hk z.symm)] at e2
      have ne : b ≠ a := fun z => by
        subst z
        exact hk (nodup_at S.nd e1 e)
      have z := S.ob k b w e1 e2
      cases w with
      | ls ys =>
        obtain ⟨ws, h1, h2⟩ := z
        exact ⟨ws, by rw [upd_ne ne]; exact h1, RWL.mv g h2⟩
      | dk kvs =>
        have z : H b = some (.dK (kvs.map eKV)) := z
        show upd H a u b = _
        rw [upd_ne ne]
        exact z
  · obtain ⟨ps, e3, r3⟩ := S.tb P hP
    refine ⟨ps, ?_, r3⟩
    have ne : P ≠ a := fun z => by
      have w := S.ob n a o e eo
      subst z
      cases o with
      | ls ys =>
        obtain ⟨vs, w, _⟩ := w
        rw [e3] at w
        cases w
      | dk kvs =>
        have w : H P = some (.dK (kvs.map eKV)) := w
        rw [e3] at w
        cases w
    rw [upd_ne ne]
    exact e3
/-- a list is changed -/
theorem SR.write {n : Nat} {a : Addr} {o : Ob} {vs : List V} {xs : List W} (S : SR K ts μ st H) (e : μ[n]? = some a) (eo : st[n]? = some o) (r : RWL K μ H vs xs) : SR K ts μ (st.set n (.ls xs)) (upd H a (.lst vs)) ∧ Kt H (upd H a (.lst vs)) := by
  obtain ⟨v, hu, sv⟩ := S.mut e eo
  exact S.writeO e eo ⟨vs, upd_same, RWL.mv ⟨List.prefix_refl _, Kt.wr hu sv⟩ r⟩ fun k z => by cases z
theorem SR.writeD {n : Nat} {a : Addr} {o : Ob} {kvs : List (Int × Int)} (S : SR K ts μ st H) (e : μ[n]? = some a) (eo : st[n]? = some o) : SR K ts μ (st.set n (.dk kvs)) (upd H a (.dK (kvs.map eKV))) ∧ Kt H (upd H a (.dK (kvs.map eKV))) :=
  S.writeO e eo (by show upd H a _ a = _; exact upd_same) fun k z => by cases z
/-- tables alone have changed -/
theorem SR.ms (S : SR K ts μ st H) (h : Ms ts H G) : Gr μ H μ G ∧ SR K ts μ st G := by
  have kt : Kt H G := fun b o so e => h.1 b o (fun hb => by
    obtain ⟨ps, q, _⟩ := S.tb b hb
    rw [q] at e
    cases e
    cases so) e
  refine ⟨⟨List.prefix_refl _, kt⟩, S.len, S.nd, fun k a o e1 e2 => ?_, h.2⟩
  have z := S.ob k a o e1 e2
  cases o with
  | ls xs =>
    obtain ⟨vs, h1, h2⟩ := z
    exact ⟨vs, h.1 a _ (fun hb => by
      obtain ⟨ps, q, _⟩ := S.tb a hb
      rw [q] at h1
      cases h1) h1, RWL.mv ⟨List.prefix_refl _, kt⟩ h2⟩
  | dk kvs =>
    have z : H a = some (.dK (kvs.map eKV)) := z
    exact h.1 a _ (fun hb => by
      obtain ⟨ps, q, _⟩ := S.tb a hb
      rw [q] at z
      cases z) z
end
end FL

/-! Own layer: as LW, the script a list that nobody writes to. -/
namespace KL
open PySem PySem.Spec PyProof.Rows L2
section
variable {P : Program} {w : World} {K : PySem.W.Frag} {mg mb : Str → Option Value} {k : Nat} {fa a : Addr} {cs : List (Addr × Addr)} {fd : FuncData} {x : Str} {sp : Sp} {s : Shared} {vs : List Value} {ns : List Int}
theorem lawZT (inK : K.In s.heap) (hns : s.heap.Ns mainGlobals mg) (hb : s.heap.Ns builtinsNs mb) (hbb : ∀ y : Str, y ≠ "__name__" → mb y = bootBuiltins y) (lim : s.heap.NoLimit) (hg : s.gens = #[])
    (hT : ∀ p ∈ cs, s.heap.get? p.2 = some { cls := .none, data := .fields #[] }) (nT : ∀ p ∈ cs, K.lookup p.2 = none) (hC : ∀ p ∈ cs, PySem.W.CodeHd s.heap p.1 p.2)
    (hM : ∃ (bm : Addr) (ob : Obj), mg "__builtins__" = some (.ref bm) ∧ bm ≠ builtinsNs ∧ s.heap.get? bm = some ob ∧ ob.cls = .type "module" ∧ ob.dict = some builtinsNs ∧ ob.data = .plain)
    (ha : s.heap.get? a = some { cls := .type "list", data := .seq vs.toArray }) (hi : IntsAre vs ns) (hl : ns.length ≤ sizeLine) (hr : Room k callerA)
    (F : ∀ base : Heap, K.In base → base.Ns mainGlobals mg → (∀ p ∈ cs, GxR.TabB base mg p.1 p.2) → FnG P w K mg base CX0 k fa fd [x] sp) (hbind : ∀ (s : Shared) (u : Value), BindsTo s fd ⟨[u], []⟩ [(x, u)])
    (hsp : ∀ H : Hp, (∀ p ∈ cs, H p.2 = some (.tbl #[])) → FL.SqZ K H a (ns.map V.int) → sp [.ref a] H (fun v _ => v = .bl true) E0) :
    codeAny (model P w) callerA (.call (.ref fa) ⟨[.ref a], []⟩) (fun r s' => r = .ok (.ret (.bool true)) ∧ OldK s.heap s'.heap ∧ s'.os = s.os ∧ AllBare s'.gens) s := by
  have rv := vals_ints hi
  have tabs : ∀ b ∈ cs.map (·.2), s.heap.get? b = some { cls := .none, data := .fields #[] } := fun b m => by
    obtain ⟨p, hp, rfl⟩ := List.mem_map.mp m
    exact hT p hp
  have aNo : a ∉ cs.map (·.2) := fun m => by
    have z := tabs a m
    rw [ha] at z
    injection z with z
    injection z with _ _ z _
    cases z
  obtain ⟨H, h1, h2, h3⟩ := firstH K a (cs.map (·.2)) { cls := .type "list", data := .seq vs.toArray } (.lst (ns.map V.int)) aNo
  have inT : ∀ p ∈ cs, p.2 ∈ cs.map (·.2) := fun p hp => List.mem_map.mpr ⟨p, hp, rfl⟩
  have script : FL.SqZ K H a (ns.map V.int) := by
    cases hk : K.lookup a with
    | some o =>
      have e := inK a o hk
      rw [ha] at e
      cases e
      exact .inr ⟨_, vs.toArray, _, hk, rfl, rfl, rfl, by rw [List.size_toArray, hi.length]; exact hl, by simpa using rv⟩
    | none => exact .inl ⟨_, h2 hk⟩
  have hok : HOk P w H s.heap := fun b u e => by
    rcases h3 b u e with ⟨m, rfl⟩ | ⟨rfl, _, rfl⟩
    · exact tabs b m
    · exact ⟨ha, by rw [List.length_map]; exact hl, vs, _, rv, ha⟩
  -- what is neither a table nor the script is not tracked
  have clear : ∀ {b : Addr} {o : Obj}, s.heap.get? b = some o → (∀ v n, o.data ≠ .seq v n) → o.data ≠ .fields #[] → H b = none := fun {b o} e d1 d2 => by
    cases q : H b with
    | none => rfl
    | some u =>
      rcases h3 b u q with ⟨m, _⟩ | ⟨rfl, _, _⟩
      · rw [tabs b m] at e
        cases e
        exact absurd rfl d2
      · rw [ha] at e
        cases e
        exact absurd rfl (d1 _ _)
  have see : ∀ {b : Addr} {o : Obj}, s.heap.get? b = some o → (∀ v n, o.data ≠ .seq v n) → o.data ≠ .fields #[] → (hidT s.heap H).get? b = some o := fun e d1 d2 => hidT_get e (clear e d1 d2)
  have seeNs : ∀ {b : Addr} {m : Str → Option Value}, s.heap.Ns b m → (hidT s.heap H).Ns b m := fun {b m} ⟨o, es, ep, e, d, rest⟩ => ⟨o, es, ep, see e (fun v n z => by rw [d] at z; cases z) (fun z => by rw [d] at z; cases z), d, rest⟩
  have inB : K.In (hidT s.heap H) := fun b o e => hidT_get (inK b o e) (by
    cases q : H b with
    | none => rfl
    | some u =>
      rcases h3 b u q with ⟨m, _⟩ | ⟨rfl, z, _⟩
      · obtain ⟨p, hp, rfl⟩ := List.mem_map.mp m
        rw [nT p hp] at e
        cases e
      · rw [z] at e
        cases e)
  have M : Mod K mg (hidT s.heap H) := ⟨inB, seeNs hns, ⟨mb, seeNs hb, hbb⟩, let ⟨mc, z1, z2⟩ := lim; ⟨mc, seeNs z1, z2⟩⟩
  have glob : ∀ {b : Addr} {o : Obj}, s.heap.get? b = some o → (∀ es n, o.data ≠ .dict es n) → mainGlobals ≠ b := fun {b o} e d z => by
    obtain ⟨o', es, ep, e', d', _⟩ := hns
    rw [z, e] at e'
    cases e'
    exact d _ _ d'
  have TB : ∀ p ∈ cs, GxR.TabB (hidT s.heap H) mg p.1 p.2 := fun p hp => by
    have t0 := hT p hp
    obtain ⟨bm, ob, m1, m2, m3, m4, m5, m6⟩ := hM
    refine ⟨?_, ⟨bm, ob, m1, m2, (glob m3 fun es n z => by rw [m6] at z; cases z).symm, fun z => ?_, see m3 (fun v n z => by rw [m6] at z; cases z) (fun z => by rw [m6] at z; cases z), m4, m5, m6⟩, glob t0 fun es n z => by cases z⟩
    · obtain ⟨o, us, c1, c2, c3, c4, c5, c6, c7, e1, e2, e3, e4, rest⟩ := hC p hp
      exact ⟨o, us, c1, c2, c3, c4, c5, c6, c7, see e1 (fun v n z => by rw [e3] at z; cases z) (fun z => by rw [e3] at z; injection z with z; rw [z] at e4; simp at e4), e2, e3, e4, rest⟩
    · rw [z, t0] at m3
      cases m3
      cases m6
  have e0 : Env0 P w K mg (hidT s.heap H) callerA [] s H := ⟨rfl, M, fun b o e => of_hidT e, Nat.le_of_eq (hidT_size _ _), trivial, (fun b z => absurd z List.not_mem_nil), hok, .of_eq hg⟩
  have call := (F _ inB (seeNs hns) TB).run callerA [] s H ⟨[.ref a], []⟩ [.ref a] [.ref a] (fun v _ => v = .bl true) E0 rfl hr e0 (hbind s (.ref a)) (.cons rfl .nil) (hsp H (fun p hp => h1 p.2 (inT p hp)) script)
  refine codeAny_mono call fun r s' z => ?_
  cases r with
  | error e => exact False.elim z
  | ok fl =>
  cases fl with
  | next => exact False.elim z
  | brk => exact False.elim z
  | cont => exact False.elim z
  | ret u =>
  obtain ⟨v, G, os, bare, un, ok', rv', q⟩ := z
  obtain rfl : v = .bl true := q
  obtain rfl : u = Value.bool true := rv'
  have grown : ∀ b ∈ cs.map (·.2), ∃ more : Array Value, s'.heap.get? b = some { cls := .none, data := .fields more } := fun b m => by
    obtain ⟨more, z⟩ := un.tbls b #[] (h1 b m)
    exact ⟨_, ok' b _ z⟩
  have kept : ∀ b o, b ∉ cs.map (·.2) → s.heap.get? b = some o → s'.heap.get? b = some o := fun b o nm e => by
    cases q : H b with
    | none => exact un.keep b o e q (fun z => absurd z List.not_mem_nil) List.not_mem_nil
    | some u =>
      rcases h3 b u q with ⟨m, _⟩ | ⟨rfl, _, rfl⟩
      · exact absurd m nm
      · obtain ⟨e2, _⟩ := ok' b _ (un.frzs b _ _ q)
        rw [ha] at e
        rw [e2]
        exact e
  refine ⟨rfl, ⟨fun b o e => ?_, fun b o e => ?_⟩, os, bare⟩
  · by_cases m : b ∈ cs.map (·.2)
    · obtain ⟨more, z⟩ := grown b m
      obtain ⟨p, hp, rfl⟩ := List.mem_map.mp m
      have t0 := hT p hp
      rw [t0] at e
      cases e
      exact .inr (.inl ⟨((hC p hp).tab t0).isCodeTable, rfl, #[], more, rfl, by rw [Array.empty_append]; exact z⟩)
    · exact .inl (kept b o m e)
  · by_cases m : b ∈ cs.map (·.2)
    · obtain ⟨more, z⟩ := grown b m
      exact ⟨_, z⟩
    · exact ⟨o, kept b o m e⟩
end
/-- what k_head leaves, from the law's def, where defs have tables -/
theorem walkZT {l : PySem.W.OpenLaw} {n k : Nat} {q : Program} {loose : List Str} {XP : (Str → Option Value) → Heap → Prop} {YP : World → Heap → Prop} {d : DefRec} {K : Params → PySem.W.Frag} {x : Str} (hn : l.most = some n) (hn2 : n ≤ sizeLine) (hdf : d.params.defaults = [])
    (hr : Room k callerA) (hY : ∀ (w : World) (h : Heap), YP w h → (K w.params).In h)
    (F : ∀ (w : World) (mg : Str → Option Value) (fa : Addr) (h : Heap), (K w.params).In h → h.Ns mainGlobals mg → mg d.name = some (.ref fa) → (∀ y : Str, ((recsOf q).any fun e => e.name == y) = true → TabOf (K w.params) mg y h) →
      ∃ (fd : FuncData) (cs : List (Addr × Addr)) (sp : Sp), (∀ p ∈ cs, h.get? p.2 = some { cls := .none, data := .fields #[] }) ∧ (∀ p ∈ cs, (K w.params).lookup p.2 = none) ∧ (∀ p ∈ cs, PySem.W.CodeHd h p.1 p.2) ∧ (∀ (s : Shared) (u : Value), BindsTo s fd ⟨[u], []⟩ [(x, u)]) ∧
        (∀ (H : Hp) (a : Addr) (ns : List Int), ns.length ≤ n → (∀ p ∈ cs, H p.2 = some (.tbl #[])) → FL.SqZ (K w.params) H a (ns.map V.int) → sp [.ref a] H (fun v _ => v = .bl true) E0) ∧
        ∀ base : Heap, (K w.params).In base → base.Ns mainGlobals mg → (∀ p ∈ cs, GxR.TabB base mg p.1 p.2) → FnG l.prog w (K w.params) mg base CX0 k fa fd [x] sp) :
    PySem.W.WalkO q loose XP YP l.row.toRowW d [] (fun f vs => PySem.call f vs) := by
  refine Att.attach_call hn hdf fun w s₀ s₁ mg mb fa o pm cd doc a vs ns G Y ho hd hcd hmg hobj hints hlen hg => ?_
  have inK := hY w _ Y
  have tab : ∀ y : Str, ((recsOf q).any fun e => e.name == y) = true → TabOf (K w.params) mg y s₁.heap := fun y hy f c P o1 fd1 e dd us sl k1 k2 k3 k4 k5 k6 => by
    obtain ⟨dr, hm, hn'⟩ := List.any_eq_true.mp hy
    obtain ⟨f', o', fd', c', P', j1, j2, j3, j4, _, ⟨⟨oc, vc, i1, _, i3, i4⟩, hP⟩⟩ := G.T.tab dr hm
    rw [beq_iff_eq.mp hn', k1] at j1
    obtain rfl := Value.ref.inj (Option.some.inj j1)
    rw [inK _ _ k2] at j2
    obtain rfl := Option.some.inj j2
    rw [k3] at j3
    obtain rfl := Data.func.inj j3
    rw [k4] at j4
    obtain rfl := Value.ref.inj j4
    rw [inK _ _ k5] at i1
    obtain rfl := Option.some.inj i1
    obtain rfl := Data.fields.inj i3
    rw [k6] at i4
    obtain rfl := Value.ref.inj (Option.some.inj i4)
    exact hP
  obtain ⟨fd, cs, sp, t1, t2, t3, hb, hsp, hF⟩ := F w mg fa _ inK G.T.g hmg tab
  exact lawZT inK G.T.g G.T.b G.T.builtins G.T.nolimit hg t1 t2 t3 G.T.bmain hobj hints (Nat.le_trans hlen hn2) hr hF hb fun H hH hS => hsp H a ns hlen hH hS
end KL

/-! Own layer, values: judgements, expressions. -/
namespace FL
open PySem PySem.Spec PyProof.Rows L2 KL KG GR

/-! ### looks at a value -/
def int1 (w : W) (k : Int → Prop) : Prop := match w with | .d (.int i) => k i | _ => False
def bl1 (w : W) (k : Bool → Prop) : Prop := match w with | .d (.bool b) => k b | _ => False
def str1 (w : W) (k : Str → Prop) : Prop := match w with | .d (.str x) => k x | _ => False
def tup1 (w : W) (k : List PyData → Prop) : Prop := match w with | .d (.tuple ds) => k ds | _ => False
def dat1 (w : W) (k : PyData → Prop) : Prop := match w with | .d x => k x | _ => False
def ls1 (w : W) (st : Sto) (k : Nat → List W → Prop) : Prop := match w with | .l n => ∃ xs, st[n]? = some (.ls xs) ∧ k n xs | _ => False
/-- a tuple's or a list's items -/
def sq1 (w : W) (st : Sto) (k : List W → Prop) : Prop := match w with | .d (.tuple ds) => k (ds.map .d) | .d (.list ds) => k (ds.map .d) | .l n => ∃ xs, st[n]? = some (.ls xs) ∧ k xs | _ => False
def allD : List W → (List PyData → Prop) → Prop
  | [], k => k []
  | .d x :: r, k => allD r fun ds => k (x :: ds)
  | .l _ :: _, _ => False
def intsD : List W → (List Int → Prop) → Prop
  | [], k => k []
  | .d (.int i) :: r, k => intsD r fun ns => k (i :: ns)
  | _ :: _, _ => False
def blsD : List W → (List Bool → Prop) → Prop
  | [], k => k []
  | .d (.bool i) :: r, k => blsD r fun ns => k (i :: ns)
  | _ :: _, _ => False
/-- truth -/
def tru1 (w : W) (st : Sto) (k : Bool → Prop) : Prop := match w with
  | .d .none => k false
  | .d (.bool b) => k b
  | .d (.int i) => k (i != 0)
  | .d (.str x) => x.length ≤ 1000000 ∧ k ((x.length : Int) != 0)
  | .d (.tuple ds) => k (!ds.isEmpty)
  | .l n => ∃ xs, st[n]? = some (.ls xs) ∧ k (!xs.isEmpty)
  | _ => False
section
variable {w : W} {st : Sto}
theorem int1.ex {k : Int → Prop} (h : int1 w k) : ∃ i, w = .d (.int i) ∧ k i := by
  unfold int1 at h
  split at h
  · exact ⟨_, rfl, h⟩
  · exact h.elim
theorem int1.imp {k k' : Int → Prop} (f : ∀ i, k i → k' i) (h : int1 w k) : int1 w k' := by obtain ⟨i, rfl, q⟩ := h.ex; exact f i q
theorem bl1.ex {k : Bool → Prop} (h : bl1 w k) : ∃ i, w = .d (.bool i) ∧ k i := by
  unfold bl1 at h
  split at h
  · exact ⟨_, rfl, h⟩
  · exact h.elim
theorem bl1.imp {k k' : Bool → Prop} (f : ∀ i, k i → k' i) (h : bl1 w k) : bl1 w k' := by obtain ⟨i, rfl, q⟩ := h.ex; exact f i q
theorem str1.ex {k : Str → Prop} (h : str1 w k) : ∃ i, w = .d (.str i) ∧ k i := by
  unfold str1 at h
  split at h
  · exact ⟨_, rfl, h⟩
  · exact h.elim
theorem str1.imp {k k' : Str → Prop} (f : ∀ i, k i → k' i) (h : str1 w k) : str1 w k' := by obtain ⟨i, rfl, q⟩ := h.ex; exact f i q
theorem tup1.ex {k : List PyData → Prop} (h : tup1 w k) : ∃ i, w = .d (.tuple i) ∧ k i := by
  unfold tup1 at h
  split at h
  · exact ⟨_, rfl, h⟩
  · exact h.elim
theorem tup1.imp {k k' : List PyData → Prop} (f : ∀ i, k i → k' i) (h : tup1 w k) : tup1 w k' := by obtain ⟨i, rfl, q⟩ := h.ex; exact f i q
theorem dat1.ex {k : PyData → Prop} (h : dat1 w k) : ∃ i, w = .d i ∧ k i := by
  unfold dat1 at h
  split at h
  · exact ⟨_, rfl, h⟩
  · exact h.elim
theorem dat1.imp {k k' : PyData → Prop} (f : ∀ i, k i → k' i) (h : dat1 w k) : dat1 w k' := by obtain ⟨i, rfl, q⟩ := h.ex; exact f i q
theorem ls1.ex {k : Nat → List W → Prop} (h : ls1 w st k) : ∃ n xs, w = .l n ∧ st[n]? = some (.ls xs) ∧ k n xs := by
  unfold ls1 at h
  split at h
  · obtain ⟨xs, e, q⟩ := h
    exact ⟨_, xs, rfl, e, q⟩
  · exact h.elim
theorem ls1.imp {k k' : Nat → List W → Prop} (f : ∀ n xs, k n xs → k' n xs) (h : ls1 w st k) : ls1 w st k' := by obtain ⟨n, xs, rfl, e, q⟩ := h.ex; exact ⟨xs, e, f n xs q⟩
theorem sq1.ex {k : List W → Prop} (h : sq1 w st k) : (∃ ds, w = .d (.tuple ds) ∧ k (ds.map .d)) ∨ (∃ ds, w = .d (.list ds) ∧ k (ds.map .d)) ∨ ∃ n xs, w = .l n ∧ st[n]? = some (.ls xs) ∧ k xs := by
  unfold sq1 at h
  split at h
  · exact .inl ⟨_, rfl, h⟩
  · exact .inr (.inl ⟨_, rfl, h⟩)
  · obtain ⟨xs, e, q⟩ := h
    exact .inr (.inr ⟨_, xs, rfl, e, q⟩)
  · exact h.elim
theorem sq1.imp {k k' : List W → Prop} (f : ∀ xs, k xs → k' xs) (h : sq1 w st k) : sq1 w st k' := by
  rcases h.ex with ⟨ds, rfl, q⟩ | ⟨ds, rfl, q⟩ | ⟨n, xs, rfl, e, q⟩
  · exact f _ q
  · exact f _ q
  · exact ⟨xs, e, f xs q⟩
theorem allD.ex : ∀ {ws : List W} {k : List PyData → Prop}, allD ws k → ∃ ds, ws = ds.map .d ∧ k ds
  | [], _, h => ⟨[], rfl, h⟩
  | .d x :: r, _, h => by
    obtain ⟨ds, rfl, q⟩ := allD.ex (ws := r) h
    exact ⟨x :: ds, rfl, q⟩
  | .l _ :: _, _, h => h.elim
theorem allD_map : ∀ (ds : List PyData) (k : List PyData → Prop), allD (ds.map .d) k = k ds
  | [], _ => rfl
  | x :: r, k => allD_map r _
theorem allD.imp {ws : List W} {k k' : List PyData → Prop} (f : ∀ i, k i → k' i) (h : allD ws k) : allD ws k' := by
  obtain ⟨ds, rfl, q⟩ := h.ex
  rw [allD_map]
  exact f _ q
theorem intsD.ex : ∀ {ws : List W} {k : List Int → Prop}, intsD ws k → ∃ ds : List Int, ws = ds.map (fun i => .d (.int i)) ∧ k ds
  | [], _, h => ⟨[], rfl, h⟩
  | .d (.int x) :: r, _, h => by
    obtain ⟨ds, rfl, q⟩ := intsD.ex (ws := r) h
    exact ⟨x :: ds, rfl, q⟩
  | .l _ :: _, _, h => h.elim
  | .d .none :: _, _, h => h.elim
  | .d (.bool _) :: _, _, h => h.elim
  | .d (.str _) :: _, _, h => h.elim
  | .d (.list _) :: _, _, h => h.elim
  | .d (.tuple _) :: _, _, h => h.elim
  | .d (.dict _) :: _, _, h => h.elim
theorem intsD_map : ∀ (ds : List Int) (k : List Int → Prop), intsD (ds.map fun i => .d (.int i)) k = k ds
  | [], _ => rfl
  | x :: r, k => intsD_map r _
theorem intsD.imp {ws : List W} {k k' : List Int → Prop} (f : ∀ i, k i → k' i) (h : intsD ws k) : intsD ws k' := by
  obtain ⟨ds, rfl, q⟩ := h.ex
  rw [intsD_map]
  exact f _ q
theorem blsD.ex : ∀ {ws : List W} {k : List Bool → Prop}, blsD ws k → ∃ ds : List Bool, ws = ds.map (fun i => .d (.bool i)) ∧ k ds
  | [], _, h => ⟨[], rfl, h⟩
  | .d (.bool x) :: r, _, h => by
    obtain ⟨ds, rfl, q⟩ := blsD.ex (ws := r) h
    exact ⟨x :: ds, rfl, q⟩
  | .l _ :: _, _, h => h.elim
  | .d .none :: _, _, h => h.elim
  | .d (.int _) :: _, _, h => h.elim
  | .d (.str _) :: _, _, h => h.elim
  | .d (.list _) :: _, _, h => h.elim
  | .d (.tuple _) :: _, _, h => h.elim
  | .d (.dict _) :: _, _, h => h.elim
theorem blsD_map : ∀ (ds : List Bool) (k : List Bool → Prop), blsD (ds.map fun i => .d (.bool i)) k = k ds
  | [], _ => rfl
  | x :: r, k => blsD_map r _
theorem blsD.imp {ws : List W} {k k' : List Bool → Prop} (f : ∀ i, k i → k' i) (h : blsD ws k) : blsD ws k' := by
  obtain ⟨ds, rfl, q⟩ := h.ex
  rw [blsD_map]
  exact f _ q
theorem tru1.imp {k k' : Bool → Prop} (f : ∀ b, k b → k' b) (h : tru1 w st k) : tru1 w st k' := by
  unfold tru1 at h ⊢
  split at h
  · exact f _ h
  · exact f _ h
  · exact f _ h
  · exact ⟨h.1, f _ h.2⟩
  · exact f _ h
  · obtain ⟨xs, e, q⟩ := h
    exact ⟨xs, e, f _ q⟩
  · exact h.elim
end

/-! ### judgements -/
def Aft (K : PySem.W.Frag) (ts μ : List Addr) (H : Hp) (Q : VK) : WQ := fun w st' => ∀ μ' G v, Gr μ H μ' G → SR K ts μ' st' G → RW K μ' G v w → Q v G
def AftT (K : PySem.W.Frag) (ts μ : List Addr) (H : Hp) (Q : Bool → Hp → Prop) : Bool → Sto → Prop := fun b st' => ∀ μ' G, Gr μ H μ' G → SR K ts μ' st' G → Q b G
def AftA (K : PySem.W.Frag) (ts μ : List Addr) (H : Hp) (Q : List V → Hp → Prop) : List W → Sto → Prop := fun ws st' => ∀ μ' G vs, Gr μ H μ' G → SR K ts μ' st' G → RWL K μ' G vs ws → Q vs G
def AftO (K : PySem.W.Frag) (ts μ : List Addr) (H : Hp) (Q : Option Int → Hp → Prop) : Option Int → Sto → Prop := fun o st' => ∀ μ' G, Gr μ H μ' G → SR K ts μ' st' G → Q o G
structure XE (K : PySem.W.Frag) (ts : List Addr) (t : TE) (m : ME) : Prop where
  mono : ∀ ρ st Q Q', (∀ w s, Q w s → Q' w s) → m ρ st Q → m ρ st Q'
  run : ∀ μ st H σ ρ Q, SR K ts μ st H → RE K μ H σ ρ → m ρ st (Aft K ts μ H Q) → t σ H Q
structure XT (K : PySem.W.Frag) (ts : List Addr) (t : TT) (m : MT) : Prop where
  mono : ∀ ρ st Q Q', (∀ w s, Q w s → Q' w s) → m ρ st Q → m ρ st Q'
  run : ∀ μ st H σ ρ Q, SR K ts μ st H → RE K μ H σ ρ → m ρ st (AftT K ts μ H Q) → t σ H Q
structure XA (K : PySem.W.Frag) (ts : List Addr) (t : TA) (m : MA) : Prop where
  mono : ∀ ρ st Q Q', (∀ w s, Q w s → Q' w s) → m ρ st Q → m ρ st Q'
  run : ∀ μ st H σ ρ Q, SR K ts μ st H → RE K μ H σ ρ → m ρ st (AftA K ts μ H Q) → t σ H Q
structure XP (K : PySem.W.Frag) (ts : List Addr) (t : TO) (m : MO) : Prop where
  mono : ∀ ρ st Q Q', (∀ w s, Q w s → Q' w s) → m ρ st Q → m ρ st Q'
  run : ∀ μ st H σ ρ Q, SR K ts μ st H → RE K μ H σ ρ → m ρ st (AftO K ts μ H Q) → t σ H Q
/-- an operator on two values; a call of a built-in with values -/
structure XO (K : PySem.W.Frag) (ts : List Addr) (r : R2) (o : W → W → Sto → WQ → Prop) : Prop where
  mono : ∀ w u st Q Q', (∀ w s, Q w s → Q' w s) → o w u st Q → o w u st Q'
  run : ∀ μ st H x y w u Q, SR K ts μ st H → RW K μ H x w → RW K μ H y u → o w u st (Aft K ts μ H Q) → r x y H Q
structure XC (K : PySem.W.Frag) (ts : List Addr) (r : List V → Hp → VK → Prop) (c : List W → Sto → WQ → Prop) : Prop where
  mono : ∀ ws st Q Q', (∀ w s, Q w s → Q' w s) → c ws st Q → c ws st Q'
  run : ∀ μ st H vs ws Q, SR K ts μ st H → RWL K μ H vs ws → c ws st (Aft K ts μ H Q) → r vs H Q

section
variable {K : PySem.W.Frag} {ts μ μ' : List Addr} {H G : Hp} {st : Sto} {t ta tb tc : TE} {m ma mb mc : ME} {σ : L2.St} {ρ : Ev}
theorem Aft.up {Q : VK} {w : W} {s : Sto} (g : Gr μ H μ' G) (h : Aft K ts μ H Q w s) : Aft K ts μ' G Q w s := fun μ2 J v g2 => h μ2 J v (g.tr g2)
theorem AftT.up {Q : Bool → Hp → Prop} {w : Bool} {s : Sto} (g : Gr μ H μ' G) (h : AftT K ts μ H Q w s) : AftT K ts μ' G Q w s := fun μ2 J g2 => h μ2 J (g.tr g2)
theorem AftA.up {Q : List V → Hp → Prop} {w : List W} {s : Sto} (g : Gr μ H μ' G) (h : AftA K ts μ H Q w s) : AftA K ts μ' G Q w s := fun μ2 J v g2 => h μ2 J v (g.tr g2)
theorem AftO.up {Q : Option Int → Hp → Prop} {w : Option Int} {s : Sto} (g : Gr μ H μ' G) (h : AftO K ts μ H Q w s) : AftO K ts μ' G Q w s := fun μ2 J g2 => h μ2 J (g.tr g2)
/-- run, and go on -/
theorem XE.thn (h : XE K ts t m) {R : WQ} {Q : VK} (S : SR K ts μ st H) (E : RE K μ H σ ρ) (q : m ρ st R) (f : ∀ w s μ' G v, R w s → Gr μ H μ' G → SR K ts μ' s G → RE K μ' G σ ρ → RW K μ' G v w → Q v G) : t σ H Q :=
  h.run μ st H σ ρ Q S E (h.mono ρ st R _ (fun w s r μ' G v g S' rv => f w s μ' G v r g S' (RE.mv g E) rv) q)
theorem XT.thn {t : TT} {m : MT} (h : XT K ts t m) {R : Bool → Sto → Prop} {Q : Bool → Hp → Prop} (S : SR K ts μ st H) (E : RE K μ H σ ρ) (q : m ρ st R) (f : ∀ w s μ' G, R w s → Gr μ H μ' G → SR K ts μ' s G → RE K μ' G σ ρ → Q w G) : t σ H Q :=
  h.run μ st H σ ρ Q S E (h.mono ρ st R _ (fun w s r μ' G g S' => f w s μ' G r g S' (RE.mv g E)) q)
theorem XA.thn {t : TA} {m : MA} (h : XA K ts t m) {R : List W → Sto → Prop} {Q : List V → Hp → Prop} (S : SR K ts μ st H) (E : RE K μ H σ ρ) (q : m ρ st R) (f : ∀ w s μ' G v, R w s → Gr μ H μ' G → SR K ts μ' s G → RE K μ' G σ ρ → RWL K μ' G v w → Q v G) : t σ H Q :=
  h.run μ st H σ ρ Q S E (h.mono ρ st R _ (fun w s r μ' G v g S' rv => f w s μ' G v r g S' (RE.mv g E) rv) q)
theorem XP.thn {t : TO} {m : MO} (h : XP K ts t m) {R : Option Int → Sto → Prop} {Q : Option Int → Hp → Prop} (S : SR K ts μ st H) (E : RE K μ H σ ρ) (q : m ρ st R) (f : ∀ w s μ' G, R w s → Gr μ H μ' G → SR K ts μ' s G → RE K μ' G σ ρ → Q w G) : t σ H Q :=
  h.run μ st H σ ρ Q S E (h.mono ρ st R _ (fun w s r μ' G g S' => f w s μ' G r g S' (RE.mv g E)) q)

/-! ### names, constants, operators -/
def mVar (i : Nat) : ME := fun ρ st Q => match ρ[i]? with | some (some w) => Q w st | _ => False
theorem xe_var (i : Nat) : XE K ts (tVar i) (mVar i) := by
  refine ⟨fun ρ st Q Q' f h => ?_, fun μ st H σ ρ Q S E h => ?_⟩
  · unfold mVar at h ⊢
    split at h
    · exact f _ _ h
    · exact h.elim
  · unfold mVar at h
    split at h
    · rename_i w e
      obtain ⟨v, e', r⟩ := RE.get E e
      exact ⟨v, e', h μ H v Gr.rfl' S r⟩
    · exact h.elim
def mC (x : PyData) : ME := fun _ st Q => Q (.d x) st
theorem xe_c {v : V} {x : PyData} (r : ∀ H, TD K H v x) : XE K ts (tC v) (mC x) := ⟨fun _ _ _ _ f h => f _ _ h, fun μ st H σ ρ Q S E h => h μ H v Gr.rfl' S (r H)⟩
theorem xe_int {i : Int} : XE K ts (tC (.int i)) (mC (.int i)) := xe_c fun _ => .int i
theorem xe_bl {b : Bool} : XE K ts (tC (.bl b)) (mC (.bool b)) := xe_c fun _ => .bl b
theorem xe_non : XE K ts (tC .non) (mC .none) := xe_c fun _ => .non
theorem xe_str {x : Str} : XE K ts (tC (.str x)) (mC (.str x)) := xe_c fun _ => .str x
def mOp (o : W → W → Sto → WQ → Prop) (ma mb : ME) : ME := fun ρ st Q => ma ρ st fun w s1 => mb ρ s1 fun u s2 => o w u s2 Q
theorem xe_op {r : R2} {o : W → W → Sto → WQ → Prop} (ho : XO K ts r o) (ha : XE K ts ta ma) (hb : XE K ts tb mb) : XE K ts (tOp r ta tb) (mOp o ma mb) := by
  refine ⟨fun ρ st Q Q' f h => ha.mono _ _ _ _ (fun w s h => hb.mono _ _ _ _ (fun u s h => ho.mono _ _ _ _ _ f h) h) h, fun μ st H σ ρ Q S E h => ?_⟩
  refine ha.thn S E h fun w s1 μ1 G1 x h g1 S1 E1 rx => hb.thn S1 E1 h fun u s2 μ2 G2 y h g2 S2 E2 ry => ?_
  exact ho.run μ2 s2 G2 x y w u Q S2 (RW.mv rx g2) ry (ho.mono _ _ _ _ _ (fun w s h => h.up (g1.tr g2)) h)
def oI (C : Int → Int → Prop) (f : Int → Int → PyData) : W → W → Sto → WQ → Prop := fun w u st Q => int1 w fun i => int1 u fun j => C i j ∧ Q (.d (f i j)) st
theorem oI.mono {C : Int → Int → Prop} {f : Int → Int → PyData} {w u : W} {st : Sto} {Q Q' : WQ} (h : ∀ w s, Q w s → Q' w s) : oI C f w u st Q → oI C f w u st Q' := int1.imp fun i => int1.imp fun j q => ⟨q.1, h _ _ q.2⟩
theorem xo_I {C : Int → Int → Prop} {g : Int → Int → V} {f : Int → Int → PyData} (r : ∀ H i j, TD K H (g i j) (f i j)) : XO K ts (rI C g) (oI C f) := by
  refine ⟨fun _ _ _ _ _ h => oI.mono h, fun μ st H x y w u Q S rx ry h => ?_⟩
  obtain ⟨i, rfl, h1⟩ := int1.ex h
  obtain ⟨j, rfl, c, h2⟩ := int1.ex h1
  cases rx
  cases ry
  exact ⟨i, j, rfl, rfl, c, h2 μ H _ Gr.rfl' S (r H i j)⟩
def oI0 (f : Int → Int → PyData) : W → W → Sto → WQ → Prop := fun w u st Q => int1 w fun i => int1 u fun j => Q (.d (f i j)) st
theorem xo_I0 {g : Int → Int → V} {f : Int → Int → PyData} (r : ∀ H i j, TD K H (g i j) (f i j)) : XO K ts (rI0 g) (oI0 f) := by
  refine ⟨fun _ _ _ _ _ h => int1.imp fun i => int1.imp fun j q => h _ _ q, fun μ st H x y w u Q S rx ry h => ?_⟩
  obtain ⟨i, rfl, h1⟩ := int1.ex h
  obtain ⟨j, rfl, h2⟩ := int1.ex h1
  cases rx
  cases ry
  exact ⟨i, j, rfl, rfl, h2 μ H _ Gr.rfl' S (r H i j)⟩
theorem xo_add : XO K ts (rI0 fun i j => .int (i + j)) (oI0 fun i j => .int (i + j)) := xo_I0 fun _ _ _ => .int _
theorem xo_sub : XO K ts (rI0 fun i j => .int (i - j)) (oI0 fun i j => .int (i - j)) := xo_I0 fun _ _ _ => .int _
theorem xo_mul : XO K ts (rI CMul fun i j => .int (i * j)) (oI CMul fun i j => .int (i * j)) := xo_I fun _ _ _ => .int _
theorem xo_fdiv : XO K ts (rI CDiv fun i j => .int (i / j)) (oI CDiv fun i j => .int (i / j)) := xo_I fun _ _ _ => .int _
theorem xo_mod : XO K ts (rI (fun _ j => 0 < j) fun i j => .int (i % j)) (oI (fun _ j => 0 < j) fun i j => .int (i % j)) := xo_I fun _ _ _ => .int _
theorem xo_lt : XO K ts (rI0 fun i j => .bl (decide (i < j))) (oI0 fun i j => .bool (decide (i < j))) := xo_I0 fun _ _ _ => .bl _
theorem xo_le : XO K ts (rI0 fun i j => .bl (decide (i ≤ j))) (oI0 fun i j => .bool (decide (i ≤ j))) := xo_I0 fun _ _ _ => .bl _
theorem xo_gt : XO K ts (rI0 fun i j => .bl (decide (j < i))) (oI0 fun i j => .bool (decide (j < i))) := xo_I0 fun _ _ _ => .bl _
theorem xo_ge : XO K ts (rI0 fun i j => .bl (decide (j ≤ i))) (oI0 fun i j => .bool (decide (j ≤ i))) := xo_I0 fun _ _ _ => .bl _
/-- == and != of two ints -/
theorem xo_eqI : XO K ts rEq (oI0 fun i j => .bool (decide (i = j))) := by
  refine ⟨fun _ _ _ _ _ h => int1.imp fun i => int1.imp fun j q => h _ _ q, fun μ st H x y w u Q S rx ry h => ?_⟩
  obtain ⟨i, rfl, h1⟩ := int1.ex h
  obtain ⟨j, rfl, h2⟩ := int1.ex h1
  cases rx
  cases ry
  refine ⟨rfl, ?_⟩
  have z := h2 μ H (.bl (decide (i = j))) Gr.rfl' S (.bl _)
  rw [dec_int, Bool.beq_eq_decide_eq]
  exact z
theorem xo_neI : XO K ts rNe (oI0 fun i j => .bool (!decide (i = j))) := by
  refine ⟨fun _ _ _ _ _ h => int1.imp fun i => int1.imp fun j q => h _ _ q, fun μ st H x y w u Q S rx ry h => ?_⟩
  obtain ⟨i, rfl, h1⟩ := int1.ex h
  obtain ⟨j, rfl, h2⟩ := int1.ex h1
  cases rx
  cases ry
  refine ⟨rfl, ?_⟩
  have z := h2 μ H (.bl (!decide (i = j))) Gr.rfl' S (.bl _)
  rw [dec_int, Bool.beq_eq_decide_eq]
  exact z
def oS0 (f : Str → Str → PyData) : W → W → Sto → WQ → Prop := fun w u st Q => str1 w fun i => str1 u fun j => Q (.d (f i j)) st
theorem xo_eqS : XO K ts rEq (oS0 fun i j => .bool (decide (i = j))) := by
  refine ⟨fun _ _ _ _ _ h => str1.imp fun i => str1.imp fun j q => h _ _ q, fun μ st H x y w u Q S rx ry h => ?_⟩
  obtain ⟨i, rfl, h1⟩ := str1.ex h
  obtain ⟨j, rfl, h2⟩ := str1.ex h1
  cases rx
  cases ry
  refine ⟨rfl, ?_⟩
  have e : decide (V.str i = V.str j) = decide (i = j) := by simp
  rw [e]
  exact h2 μ H (.bl (decide (i = j))) Gr.rfl' S (.bl _)
/-- texts joined -/
theorem xo_cats : XO K ts (fun x y H Q => ∃ i j : Str, x = .str i ∧ y = .str j ∧ i.length + j.length ≤ sizeLine ∧ Q (.str (i ++ j)) H) (fun w u st Q => str1 w fun i => str1 u fun j => i.length + j.length ≤ 1000000 ∧ Q (.d (.str (i ++ j))) st) := by
  refine ⟨fun _ _ _ _ _ h => str1.imp fun i => str1.imp fun j q => ⟨q.1, h _ _ q.2⟩, fun μ st H x y w u Q S rx ry h => ?_⟩
  obtain ⟨i, rfl, h1⟩ := str1.ex h
  obtain ⟨j, rfl, hl, h2⟩ := str1.ex h1
  cases rx
  cases ry
  exact ⟨i, j, rfl, rfl, by rw [sizeLine_eq]; omega, h2 μ H _ Gr.rfl' S (.str _)⟩
/-- - i -/
theorem xe_neg (ha : XE K ts ta ma) : XE K ts (tUn (rU fun i => .int (-i)) ta) (fun ρ st Q => ma ρ st fun w s => int1 w fun i => Q (.d (.int (-i))) s) := by
  refine ⟨fun ρ st Q Q' f h => ha.mono _ _ _ _ (fun w s => int1.imp fun i q => f _ _ q) h, fun μ st H σ ρ Q S E h => ha.thn S E h fun w s μ1 G x h g S1 E1 rx => ?_⟩
  obtain ⟨i, rfl, h1⟩ := int1.ex h
  cases rx
  exact ⟨i, rfl, h1 μ1 G _ g S1 (.int _)⟩

/-! ### arguments, displays -/
def aNil : MA := fun _ st Q => Q [] st
def aCons (ma : ME) (mr : MA) : MA := fun ρ st Q => ma ρ st fun w s1 => mr ρ s1 fun ws s2 => Q (w :: ws) s2
theorem xa_nil : XA K ts tNil aNil := ⟨fun _ _ _ _ f h => f _ _ h, fun μ st H σ ρ Q S E h => h μ H [] Gr.rfl' S .nil⟩
theorem xa_cons {tr : TA} {mr : MA} (ha : XE K ts ta ma) (hr : XA K ts tr mr) : XA K ts (tCons ta tr) (aCons ma mr) := by
  refine ⟨fun ρ st Q Q' f h => ha.mono _ _ _ _ (fun w s h => hr.mono _ _ _ _ (fun u s h => f _ _ h) h) h, fun μ st H σ ρ Q S E h => ?_⟩
  exact ha.thn S E h fun w s1 μ1 G1 x h g1 S1 E1 rx => hr.thn S1 E1 h fun ws s2 μ2 G2 xs h g2 S2 E2 rxs => h μ2 G2 (x :: xs) (g1.tr g2) S2 (.cons (RW.mv rx g2) rxs)
theorem RWL.data : ∀ {ds : List PyData} {vs : List V}, RWL K μ H vs (ds.map .d) → TDL K H vs ds
  | [], _, h => by cases h; exact .nil
  | d :: ds, _, h => by
    cases h with
    | cons a t => exact .cons a (RWL.data t)
theorem TDL.rwl : ∀ {ds : List PyData} {vs : List V}, TDL K H vs ds → RWL K μ H vs (ds.map .d)
  | [], _, h => by cases h; exact .nil
  | d :: ds, _, h => by
    cases h with
    | cons a t => exact .cons a (TDL.rwl t)
theorem RWL.len : ∀ {vs : List V} {ws : List W}, RWL K μ H vs ws → vs.length = ws.length := fun h => Paired.length h
def mTup (a : MA) : ME := fun ρ st Q => a ρ st fun ws s => allD ws fun ds => ds.length ≤ 1000000 ∧ Q (.d (.tuple ds)) s
theorem td_new {p : Addr} {vs : List V} {ds : List PyData} (n : H p = none) (h : TDL K H vs ds) : TD K (upd H p (.tup vs)) (.ref p) (.tuple ds) := .tup (.inl upd_same) (TDL.mv (Kt.new n) ds vs h)
theorem xe_tup {tr : TA} {a : MA} (hr : XA K ts tr a) : XE K ts (tTup tr) (mTup a) := by
  refine ⟨fun ρ st Q Q' f h => hr.mono _ _ _ _ (fun w s => allD.imp fun ds q => ⟨q.1, f _ _ q.2⟩) h, fun μ st H σ ρ Q S E h => hr.thn S E h fun ws s μ1 G vs h g S1 E1 rx => ?_⟩
  obtain ⟨ds, rfl, hl, h⟩ := allD.ex h
  have td := RWL.data rx
  exact ⟨by rw [td.len, sizeLine_eq]; omega, fun p np => h μ1 _ _ (g.tr ⟨List.prefix_refl _, Kt.new np⟩) (S1.new np) (td_new np td)⟩
def mLst (a : MA) : ME := fun ρ st Q => a ρ st fun ws s => ws.length ≤ 1000000 ∧ Q (.l s.length) (s ++ [.ls ws])
theorem SR.allocR {p : Addr} {vs : List V} {ws : List W} (S : SR K ts μ st H) (np : H p = none) (r : RWL K μ H vs ws) : Gr μ H (μ ++ [p]) (upd H p (.lst vs)) ∧ SR K ts (μ ++ [p]) (st ++ [.ls ws]) (upd H p (.lst vs)) ∧ RW K (μ ++ [p]) (upd H p (.lst vs)) (.ref p) (.l st.length) :=
  ⟨⟨List.prefix_append _ _, Kt.new np⟩, S.alloc np r, p, by rw [← S.len]; simp, rfl⟩
theorem xe_lst {tr : TA} {a : MA} (hr : XA K ts tr a) : XE K ts (tLst tr) (mLst a) := by
  refine ⟨fun ρ st Q Q' f h => hr.mono _ _ _ _ (fun w s h => ⟨h.1, f _ _ h.2⟩) h, fun μ st H σ ρ Q S E h => hr.thn S E h fun ws s μ1 G vs h g S1 E1 rx => ?_⟩
  refine ⟨by rw [RWL.len rx, sizeLine_eq]; omega, fun p np => ?_⟩
  obtain ⟨g2, S2, r2⟩ := S1.allocR np rx
  exact h.2 _ _ _ (g.tr g2) S2 r2

/-! ### calls -/
def mCB (c : List W → Sto → WQ → Prop) (a : MA) : ME := fun ρ st Q => a ρ st fun ws s => c ws s Q
theorem xe_cb {r : List V → Hp → VK → Prop} {c : List W → Sto → WQ → Prop} {tr : TA} {a : MA} (hc : XC K ts r c) (hr : XA K ts tr a) : XE K ts (tCB r tr) (mCB c a) := by
  refine ⟨fun ρ st Q Q' f h => hr.mono _ _ _ _ (fun w s => hc.mono _ _ _ _ f) h, fun μ st H σ ρ Q S E h => hr.thn S E h fun ws s μ1 G vs h g S1 E1 rx => ?_⟩
  exact hc.run μ1 s G vs ws Q S1 rx (hc.mono _ _ _ _ (fun w s h => h.up g) h)
/-- the promise of a def by what it does to values -/
def spS (K : PySem.W.Frag) (ts : List Addr) (F : List W → Sto → WQ → Prop) : Sp := fun vs H Q _ => ∃ μ st ws, SR K ts μ st H ∧ RWL K μ H vs ws ∧ F ws st (Aft K ts μ H Q)
structure MonoF (F : List W → Sto → WQ → Prop) : Prop where
  mono : ∀ ws st Q Q', (∀ w s, Q w s → Q' w s) → F ws st Q → F ws st Q'
theorem xe_call {F : List W → Sto → WQ → Prop} {E : XK} {tr : TA} {a : MA} (hF : MonoF F) (hr : XA K ts tr a) : XE K ts (tCall (spS K ts F) [] E tr) (mCB F a) := by
  refine ⟨fun ρ st Q Q' f h => hr.mono _ _ _ _ (fun w s => hF.mono _ _ _ _ f) h, fun μ st H σ ρ Q S E h => hr.thn S E h fun ws s μ1 G vs h g S1 E1 rx => ?_⟩
  refine ⟨μ1, s, ws, S1, ?_, hF.mono _ _ _ _ (fun w s h => h.up g) h⟩
  rw [List.append_nil]
  exact rx

/-! ### what was made on the way is let go -/
def okW (n : Nat) : W → Prop
  | .d _ => True
  | .l k => k < n
def okO (n : Nat) : Ob → Prop
  | .ls xs => ∀ w ∈ xs, okW n w
  | .dk _ => True
theorem okW.up {n k : Nat} (h : n ≤ k) : ∀ {w : W}, okW n w → okW k w
  | .d _, _ => trivial
  | .l _, q => Nat.lt_of_lt_of_le q h
theorem okO.up {n k : Nat} (h : n ≤ k) : ∀ {o : Ob}, okO n o → okO k o
  | .ls _, q => fun w hw => okW.up h (q w hw)
  | .dk _, _ => trivial
theorem RW.ok {v : V} : ∀ {w : W}, RW K μ H v w → okW μ.length w
  | .d _, _ => trivial
  | .l n, ⟨a, e, _⟩ => (List.getElem?_eq_some_iff.mp e).1
theorem RWL.ok : ∀ {vs : List V} {ws : List W}, RWL K μ H vs ws → ∀ w ∈ ws, okW μ.length w
  | _, _, .nil => fun w h => absurd h List.not_mem_nil
  | _, _, .cons a t => fun w h => (List.mem_cons.mp h).elim (fun e => by subst e; exact RW.ok a) (RWL.ok t w)
theorem RW.tk {v : V} {n : Nat} : ∀ {w : W}, RW K μ H v w → okW n w → RW K (μ.take n) H v w
  | .d _, h, _ => h
  | .l k, ⟨a, e, q⟩, h => ⟨a, by rw [List.getElem?_take, if_pos (show k < n from h)]; exact e, q⟩
theorem RWL.tk {n : Nat} : ∀ {vs : List V} {ws : List W}, RWL K μ H vs ws → (∀ w ∈ ws, okW n w) → RWL K (μ.take n) H vs ws
  | _, _, .nil, _ => .nil
  | _, _, .cons a t, h => .cons (RW.tk a (h _ List.mem_cons_self)) (RWL.tk t fun w hw => h w (List.mem_cons_of_mem _ hw))
theorem SR.ok (S : SR K ts μ st H) {k : Nat} {o : Ob} (e : st[k]? = some o) : okO st.length o := by
  obtain ⟨a, ea⟩ := S.lt e
  have z := S.ob k a o ea e
  rw [← S.len]
  cases o with
  | ls xs =>
    obtain ⟨vs, _, r⟩ := z
    exact RWL.ok r
  | dk kvs => trivial
/-- s0 holds what st holds, or what leans on nothing behind s0 -/
def Gcd (st s0 : Sto) : Prop := st.length ≤ s0.length ∧ ∀ (k : Nat) (o : Ob), s0[k]? = some o → st[k]? = some o ∨ okO s0.length o
theorem Gcd.rfl' : Gcd st st := ⟨Nat.le_refl _, fun _ _ e => .inl e⟩
theorem Gcd.app {s0 : Sto} {o : Ob} (h : Gcd st s0) (p : okO (s0.length + 1) o) : Gcd st (s0 ++ [o]) := by
  have l : (s0 ++ [o]).length = s0.length + 1 := by rw [List.length_append]; rfl
  refine ⟨by rw [l]; exact Nat.le_succ_of_le h.1, fun k u e => ?_⟩
  rw [l]
  by_cases hk : k < s0.length
  · rw [List.getElem?_append_left hk] at e
    exact (h.2 k u e).imp id fun z => z.up (Nat.le_succ _)
  · rw [List.getElem?_append_right (by omega)] at e
    have : k - s0.length = 0 := by
      have := (List.getElem?_eq_some_iff.mp e).1
      rw [List.length_singleton] at this
      omega
    rw [this] at e
    cases e
    exact .inr p
theorem Gcd.set {s0 : Sto} {o : Ob} {n : Nat} (h : Gcd st s0) (p : okO s0.length o) : Gcd st (s0.set n o) := by
  refine ⟨by rw [List.length_set]; exact h.1, fun k u e => ?_⟩
  rw [List.length_set]
  by_cases hk : n = k
  · subst hk
    have hl : n < s0.length := by
      have := (List.getElem?_eq_some_iff.mp e).1
      rw [List.length_set] at this
      exact this
    rw [List.getElem?_set_self hl] at e
    cases e
    exact .inr p
  · rw [List.getElem?_set_ne hk] at e
    exact h.2 k u e
theorem SR.drop {s s0 g : Sto} (S : SR K ts μ st H) (S' : SR K ts μ' s G) (gr : Gr μ H μ' G) (e : s = s0 ++ g) (gc : Gcd st s0) : SR K ts (μ'.take s0.length) s0 G ∧ Gr μ H (μ'.take s0.length) G := by
  subst e
  have le : s0.length ≤ μ'.length := by rw [S'.len, List.length_append]; omega
  refine ⟨⟨by rw [List.length_take]; omega, S'.nd.sublist (List.take_sublist _ _), fun k a o e1 e2 => ?_, S'.tb⟩, ?_, gr.2⟩
  · have e1' : μ'[k]? = some a := by
      rw [List.getElem?_take] at e1
      split at e1
      · exact e1
      · cases e1
    have e2' : (s0 ++ g)[k]? = some o := by rw [List.getElem?_append_left (List.getElem?_eq_some_iff.mp e2).1]; exact e2
    have z := S'.ob k a o e1' e2'
    have ok : okO s0.length o := (gc.2 k o e2).elim (fun q => (S.ok q).up gc.1) id
    cases o with
    | ls xs =>
      obtain ⟨vs, h1, h2⟩ := z
      exact ⟨vs, h1, RWL.tk h2 ok⟩
    | dk kvs => exact z
  · obtain ⟨r, hr⟩ := gr.1
    subst hr
    rw [List.take_append, List.take_of_length_le (by rw [S.len]; exact gc.1)]
    exact List.prefix_append _ _
def mGc (m : ME) : ME := fun ρ st Q => m ρ st fun w s => ∃ s0 g, s = s0 ++ g ∧ Gcd st s0 ∧ okW s0.length w ∧ Q w s0
theorem xe_gc (h : XE K ts t m) : XE K ts t (mGc m) := by
  refine ⟨fun ρ st Q Q' f q => h.mono _ _ _ _ (fun w s ⟨s0, g, e, gc, ok, q⟩ => ⟨s0, g, e, gc, ok, f _ _ q⟩) q, fun μ st H σ ρ Q S E q => h.thn S E q fun w s μ1 G v ⟨s0, g, e, gc, ok, q⟩ g1 S1 E1 rv => ?_⟩
  obtain ⟨S2, g2⟩ := SR.drop S S1 g1 e gc
  exact q _ _ v g2 S2 (RW.tk rv ok)
def mGcT (m : MT) : MT := fun ρ st Q => m ρ st fun w s => ∃ s0 g, s = s0 ++ g ∧ Gcd st s0 ∧ Q w s0
theorem xt_gc {t : TT} {m : MT} (h : XT K ts t m) : XT K ts t (mGcT m) := by
  refine ⟨fun ρ st Q Q' f q => h.mono _ _ _ _ (fun w s ⟨s0, g, e, gc, q⟩ => ⟨s0, g, e, gc, f _ _ q⟩) q, fun μ st H σ ρ Q S E q => h.thn S E q fun w s μ1 G ⟨s0, g, e, gc, q⟩ g1 S1 E1 => ?_⟩
  obtain ⟨S2, g2⟩ := SR.drop S S1 g1 e gc
  exact q _ _ g2 S2
end
end FL

namespace KY
open PySem PySem.Spec PyProof.Rows L2 KL KS GR
/-- x in t, t a tuple of data of any depth -/
def rInT (K : PySem.W.Frag) : R2 := fun x y H Q => ∃ d ds, Dp K H x d ∧ Dp K H y (.tuple ds) ∧ SeqAt.shaped d = true ∧ SeqAt.shaped (.tuple ds) = true ∧ Q (.bl (ds.any fun z => PyData.eqv z d)) H
theorem op_inT {X : Cx} (hu : X.A.units + 65 < cLine) : OpR X (compareOp .In) (rInT X.K) := by
  rintro pins s σ H x y v u Q I rx ry ⟨d, ds, hd, he, sd, se, q⟩
  obtain ⟨as, one⟩ := Dp.reads I d x v hd rx
  obtain ⟨bs, all⟩ := Dp.reads I (.tuple ds) y u he ry
  exact SeqAt.in_tuple_reads all one (SeqAt.canLay_of_shaped se) (SeqAt.canLay_of_shaped sd) (room_in_shaped sd hu) ⟨.bl _, H, I, rfl, q⟩
end KY
namespace GR
open PySem PySem.Spec PyProof.Rows L2 KL KG KS KV KY
/-! ### ancestors within a lot -/
theorem shaped_rowsT (rows : List (List Int)) : SeqAt.shaped (dRows rows) = true := by
  have z := shaped_rows rows
  unfold SeqAt.shaped at z ⊢
  rw [Bool.and_eq_true] at z ⊢
  refine ⟨z.1, ?_⟩
  have d := of_decide_eq_true z.2
  simp only [PyData.depth] at d
  refine decide_eq_true ?_
  simp only [dRows, PyData.depth]
  exact d
theorem noDict_rows (rows : List (List Int)) : noDict (dRows rows) = true := by
  show noDictL (rows.map dInts) = true
  exact noDictL_iff.mpr fun d hd => by
    obtain ⟨r, _, rfl⟩ := List.mem_map.mp hd
    exact noDict_ints r
theorem any_rows (rows : List (List Int)) (r : List Int) : ((rows.map dInts).any fun z => PyData.eqv z (dInts r)) = decide (r ∈ rows) := by
  rw [List.any_map, Bool.eq_iff_iff, List.any_eq_true, decide_eq_true_iff]
  constructor
  · rintro ⟨x, hx, e⟩
    have e : PyData.eqv (dInts x) (dInts r) = true := e
    rw [eqv_dInts] at e
    exact of_decide_eq_true e ▸ hx
  · intro h
    refine ⟨r, h, ?_⟩
    show PyData.eqv (dInts r) (dInts r) = true
    rw [eqv_dInts]
    exact decide_eq_true rfl
/-- one step of the walk down a lot -/
def ancStep (ar : List (List Int)) (ss : List Int) (found : List Int) (one : Int) : List Int := if one ∈ ss ∨ ∃ o ∈ found, [one, o] ∈ ar then found ++ [one] else found
end GR

/-! Own layer, values: built-ins, subscripts, tests. -/
namespace FL
open PySem PySem.Spec PyProof.Rows L2 KL KG GR KV KS KY

def one1 (ws : List W) (k : W → Prop) : Prop := match ws with | [w] => k w | _ => False
def two2 (ws : List W) (k : W → W → Prop) : Prop := match ws with | [w, u] => k w u | _ => False
theorem one1.ex {ws : List W} {k : W → Prop} (h : one1 ws k) : ∃ w, ws = [w] ∧ k w := by
  unfold one1 at h
  split at h
  · exact ⟨_, rfl, h⟩
  · exact h.elim
theorem one1.imp {ws : List W} {k k' : W → Prop} (f : ∀ w, k w → k' w) (h : one1 ws k) : one1 ws k' := by obtain ⟨w, rfl, q⟩ := one1.ex h; exact f w q
theorem two2.ex {ws : List W} {k : W → W → Prop} (h : two2 ws k) : ∃ w u, ws = [w, u] ∧ k w u := by
  unfold two2 at h
  split at h
  · exact ⟨_, _, rfl, h⟩
  · exact h.elim
theorem two2.imp {ws : List W} {k k' : W → W → Prop} (f : ∀ w u, k w u → k' w u) (h : two2 ws k) : two2 ws k' := by obtain ⟨w, u, rfl, q⟩ := two2.ex h; exact f w u q
section
variable {K : PySem.W.Frag} {ts μ μ' : List Addr} {H G : Hp} {st : Sto}
theorem RWL.one {vs : List V} {w : W} (h : RWL K μ H vs [w]) : ∃ v, vs = [v] ∧ RW K μ H v w := by
  cases h with
  | cons a t => cases t; exact ⟨_, rfl, a⟩
theorem RWL.two {vs : List V} {w u : W} (h : RWL K μ H vs [w, u]) : ∃ v x, vs = [v, x] ∧ RW K μ H v w ∧ RW K μ H x u := by
  cases h with
  | cons a t =>
    obtain ⟨x, rfl, b⟩ := RWL.one t
    exact ⟨_, x, rfl, a, b⟩
/-- a list of the store is tracked -/
theorem SR.list {v : V} {n : Nat} {xs : List W} (S : SR K ts μ st H) (r : RW K μ H v (.l n)) (e : st[n]? = some (.ls xs)) : ∃ a vs, μ[n]? = some a ∧ v = .ref a ∧ H a = some (.lst vs) ∧ RWL K μ H vs xs := by
  obtain ⟨a, ea, rfl⟩ := r
  obtain ⟨vs, h1, h2⟩ := S.ob n a _ ea e
  exact ⟨a, vs, ea, rfl, h1, h2⟩
/-- what a tuple or a list holds -/
theorem SR.seq {v : V} {w : W} {k : List W → Prop} (S : SR K ts μ st H) (r : RW K μ H v w) (h : sq1 w st k) : ∃ a vs xs, v = .ref a ∧ (SqL K H a vs ∨ SqT K H a vs) ∧ RWL K μ H vs xs ∧ k xs := by
  rcases h.ex with ⟨ds, rfl, q⟩ | ⟨ds, rfl, q⟩ | ⟨n, xs, rfl, e, q⟩
  · have r : TD K H v (.tuple ds) := r
    cases r with
    | tup e t => exact ⟨_, _, _, rfl, .inr (.inl e), TDL.rwl t, q⟩
  · have r : TD K H v (.list ds) := r
    cases r with
    | lst e t => exact ⟨_, _, _, rfl, .inl e.sql, TDL.rwl t, q⟩
  · obtain ⟨a, vs, _, rfl, h1, h2⟩ := S.list r e
    exact ⟨a, vs, xs, rfl, .inl (.inl (.inl h1)), h2, q⟩

/-! ### built-ins -/
abbrev rLen (K : PySem.W.Frag) : List V → Hp → VK → Prop := fun xs H Q => ∃ p ys, xs = [.ref p] ∧ (SqL K H p ys ∨ SqT K H p ys) ∧ Q (.int ys.length) H
def cLen : List W → Sto → WQ → Prop := fun ws st Q => one1 ws fun w => sq1 w st fun xs => Q (.d (.int xs.length)) st
theorem xc_len : XC K ts (rLen K) cLen := by
  refine ⟨fun ws st Q Q' f => one1.imp fun w => sq1.imp fun xs => f _ _, fun μ st H vs ws Q S r h => ?_⟩
  obtain ⟨w, rfl, h1⟩ := one1.ex h
  obtain ⟨v, rfl, r1⟩ := RWL.one r
  obtain ⟨a, us, xs, rfl, hs, rl, q⟩ := S.seq r1 h1
  exact ⟨a, us, rfl, hs, by rw [RWL.len rl]; exact q μ H _ Gr.rfl' S (.int _)⟩
abbrev rLenS : List V → Hp → VK → Prop := fun xs H Q => ∃ z, xs = [.str z] ∧ z.length ≤ sizeLine ∧ Q (.int z.length) H
def cLenS : List W → Sto → WQ → Prop := fun ws st Q => one1 ws fun w => str1 w fun x => x.length ≤ 1000000 ∧ Q (.d (.int x.length)) st
theorem xc_lenS : XC K ts rLenS cLenS := by
  refine ⟨fun ws st Q Q' f => one1.imp fun w => str1.imp fun xs q => ⟨q.1, f _ _ q.2⟩, fun μ st H vs ws Q S r h => ?_⟩
  obtain ⟨w, rfl, h1⟩ := one1.ex h
  obtain ⟨v, rfl, r1⟩ := RWL.one r
  obtain ⟨x, rfl, l, q⟩ := str1.ex h1
  cases r1
  exact ⟨x, rfl, by rw [sizeLine_eq]; omega, q μ H _ Gr.rfl' S (.int _)⟩
abbrev rTupO (K : PySem.W.Frag) : List V → Hp → VK → Prop := fun xs H Q => ∃ p ys, xs = [.ref p] ∧ ((SqL K H p ys ∧ ∀ l, H l = none → Q (.ref l) (upd H l (.tup ys))) ∨ (SqT K H p ys ∧ Q (.ref p) H))
theorem SR.tupR {v : V} {ds : List PyData} (r : RW K μ H v (.d (.tuple ds))) : ∃ a vs, v = .ref a ∧ Rd H a (.tup vs) ∧ TDL K H vs ds := by
  have r : TD K H v (.tuple ds) := r
  cases r with
  | tup e t => exact ⟨_, _, rfl, e, t⟩
def cTup : List W → Sto → WQ → Prop := fun ws st Q => one1 ws fun w => sq1 w st fun xs => allD xs fun ds => Q (.d (.tuple ds)) st
theorem xc_tup : XC K ts (rTupO K) cTup := by
  refine ⟨fun ws st Q Q' f => one1.imp fun w => sq1.imp fun xs => allD.imp fun ds => f _ _, fun μ st H vs ws Q S r h => ?_⟩
  obtain ⟨w, rfl, h1⟩ := one1.ex h
  obtain ⟨v, rfl, r1⟩ := RWL.one r
  rcases h1.ex with ⟨ds, rfl, q⟩ | ⟨ds, rfl, q⟩ | ⟨n, xs, rfl, e, q⟩
  · obtain ⟨a, vs, rfl, e, td⟩ := SR.tupR r1
    rw [allD_map] at q
    exact ⟨a, vs, rfl, .inr ⟨.inl e, q μ H _ Gr.rfl' S (.tup e td)⟩⟩
  · have r : TD K H v (.list ds) := r1
    rw [allD_map] at q
    cases r with
    | lst e td => exact ⟨_, _, rfl, .inl ⟨e.sql, fun l nl => q μ _ _ ⟨List.prefix_refl _, Kt.new nl⟩ (S.new nl) (td_new nl td)⟩⟩
  · obtain ⟨a, vs, ea, rfl, h1, h2⟩ := S.list r1 e
    obtain ⟨ds, rfl, q2⟩ := allD.ex q
    have td := RWL.data h2
    exact ⟨a, vs, rfl, .inl ⟨.inl (.inl h1), fun l nl => q2 μ _ _ ⟨List.prefix_refl _, Kt.new nl⟩ (S.new nl) (td_new nl td)⟩⟩
abbrev rLstO (K : PySem.W.Frag) : List V → Hp → VK → Prop := fun xs H Q => ∃ p ys, xs = [.ref p] ∧ (SqL K H p ys ∨ SqT K H p ys) ∧ ∀ l, H l = none → Q (.ref l) (upd H l (.lst ys))
def cLst : List W → Sto → WQ → Prop := fun ws st Q => one1 ws fun w => sq1 w st fun xs => Q (.l st.length) (st ++ [.ls xs])
theorem xc_lst : XC K ts (rLstO K) cLst := by
  refine ⟨fun ws st Q Q' f => one1.imp fun w => sq1.imp fun xs => f _ _, fun μ st H vs ws Q S r h => ?_⟩
  obtain ⟨w, rfl, h1⟩ := one1.ex h
  obtain ⟨v, rfl, r1⟩ := RWL.one r
  obtain ⟨a, us, xs, rfl, hs, rl, q⟩ := S.seq r1 h1
  refine ⟨a, us, rfl, hs, fun p np => ?_⟩
  obtain ⟨g2, S2, r2⟩ := S.allocR np rl
  exact q _ _ _ g2 S2 r2
/-- whole numbers in order -/
def isort (ns : List Int) : List Int := ns.mergeSort fun a b => decide (a ≤ b)
theorem isort_perm (ns : List Int) : (isort ns).Perm ns := List.mergeSort_perm _ _
theorem isort_pw (ns : List Int) : (isort ns).Pairwise (· ≤ ·) := by
  have h := List.pairwise_mergeSort (le := fun a b : Int => decide (a ≤ b)) (fun a b c h1 h2 => by simp at *; omega) (fun a b => by simp; omega) ns
  exact h.imp fun h => by simpa using h
theorem isort_uniq {ns ms : List Int} (p : ms.Perm ns) (w : ms.Pairwise (· ≤ ·)) : ms = isort ns :=
  List.Perm.eq_of_pairwise (le := fun a b : Int => a ≤ b) (fun a b _ _ h1 h2 => Int.le_antisymm h1 h2) w (isort_pw ns) (p.trans (isort_perm ns).symm)
abbrev wI (i : Int) : W := .d (.int i)
theorem RWL.ints : ∀ {ns : List Int} {vs : List V}, RWL K μ H vs (ns.map wI) → vs = ns.map V.int
  | [], _, h => by cases h; rfl
  | n :: ns, _, h => by
    cases h with
    | cons a t =>
      cases a
      rw [RWL.ints t]
      rfl
theorem RWL.ofInts : ∀ ns : List Int, RWL K μ H (ns.map V.int) (ns.map wI)
  | [] => .nil
  | n :: ns => .cons (.int n) (RWL.ofInts ns)
def cSort : List W → Sto → WQ → Prop := fun ws st Q => one1 ws fun w => ls1 w st fun _ xs => intsD xs fun ns => ns.length < 64 ∧ Q (.l st.length) (st ++ [.ls ((isort ns).map wI)])
theorem xc_sort : XC K ts (rSorted K) cSort := by
  refine ⟨fun ws st Q Q' f => one1.imp fun w => ls1.imp fun n xs => intsD.imp fun ns q => ⟨q.1, f _ _ q.2⟩, fun μ st H vs ws Q S r h => ?_⟩
  obtain ⟨w, rfl, h1⟩ := one1.ex h
  obtain ⟨v, rfl, r1⟩ := RWL.one r
  obtain ⟨n, xs, rfl, e, q⟩ := ls1.ex h1
  obtain ⟨ns, rfl, l, q⟩ := intsD.ex q
  obtain ⟨a, us, ea, rfl, e1, h2⟩ := S.list r1 e
  rw [RWL.ints h2] at e1
  refine ⟨a, ns, rfl, .inl (.inl e1), l, fun ms p pm pw np => ?_⟩
  rw [isort_uniq pm pw]
  obtain ⟨g2, S2, r2⟩ := S.allocR np (RWL.ofInts (isort ns))
  exact q _ _ _ g2 S2 r2
/-- rows of whole numbers as values -/
abbrev wR (r : List Int) : W := .d (dInts r)
def rowsW : List W → (List (List Int) → Prop) → Prop
  | [], k => k []
  | .d (.tuple ds) :: r, k => intsD (ds.map .d) fun ns => rowsW r fun rs => k (ns :: rs)
  | _ :: _, _ => False
theorem rowsW.ex : ∀ {ws : List W} {k : List (List Int) → Prop}, rowsW ws k → ∃ rs, ws = rs.map wR ∧ k rs
  | [], _, h => ⟨[], rfl, h⟩
  | .d (.tuple ds) :: r, _, h => by
    obtain ⟨ns, e, h⟩ := intsD.ex (show intsD (ds.map .d) _ from h)
    obtain ⟨rs, rfl, q⟩ := rowsW.ex (ws := r) h
    refine ⟨ns :: rs, ?_, q⟩
    have e2 : ds = ns.map PyData.int := by
      have z : ds.map W.d = (ns.map PyData.int).map W.d := by rw [e, List.map_map]; rfl
      exact (List.map_inj_right fun a b h => by injection h).mp z
    rw [List.map_cons]
    show W.d (.tuple ds) :: _ = _
    rw [e2]
    rfl
  | .l _ :: _, _, h => h.elim
  | .d .none :: _, _, h => h.elim
  | .d (.bool _) :: _, _, h => h.elim
  | .d (.str _) :: _, _, h => h.elim
  | .d (.list _) :: _, _, h => h.elim
  | .d (.int _) :: _, _, h => h.elim
  | .d (.dict _) :: _, _, h => h.elim
theorem rowsW_map : ∀ (rs : List (List Int)) (k : List (List Int) → Prop), rowsW (rs.map wR) k = k rs
  | [], _ => rfl
  | r :: rs, k => by
    show intsD ((r.map PyData.int).map W.d) _ = _
    rw [List.map_map]
    have z := intsD_map r fun ns => rowsW (rs.map wR) fun rs => k (ns :: rs)
    rw [show (W.d ∘ PyData.int) = (fun i : Int => W.d (.int i)) from rfl, z]
    exact rowsW_map rs _
theorem rowsW.imp {ws : List W} {k k' : List (List Int) → Prop} (f : ∀ i, k i → k' i) (h : rowsW ws k) : rowsW ws k' := by
  obtain ⟨rs, rfl, q⟩ := rowsW.ex h
  rw [rowsW_map]
  exact f _ q
theorem TD.row {v : V} {r : List Int} (h : TD K H v (dInts r)) : TupI K H v r := by
  cases h with
  | tup e t =>
    rw [TDL.ints r t] at e
    exact ⟨_, rfl, .inl e⟩
/-- rows in order, none after a greater one -/
def cSortR (D : Nat) (B : Int) : List W → Sto → WQ → Prop := fun ws st Q => one1 ws fun w => ls1 w st fun _ xs => rowsW xs fun rs => rs.length < 64 ∧ (∀ r ∈ rs, 1 ≤ r.length ∧ r.length ≤ D ∧ Dg B r) ∧
  ∀ ms : List (List Int), ms.Perm rs → ms.Pairwise (fun x y => ltI y x = false) → Q (.l st.length) (st ++ [.ls (ms.map wR)])
theorem RWL.rows_ex : ∀ {rs : List (List Int)} {vs : List V}, RWL K μ H vs (rs.map wR) → ∀ x ∈ vs, ∃ r ∈ rs, TD K H x (dInts r)
  | [], _, h => by cases h; exact fun x hx => absurd hx List.not_mem_nil
  | r :: rs, _, h => by
    cases h with
    | cons a t =>
      intro x hx
      rcases List.mem_cons.mp hx with rfl | hx
      · exact ⟨r, List.mem_cons_self, a⟩
      · obtain ⟨q, hq, d⟩ := RWL.rows_ex t x hx
        exact ⟨q, List.mem_cons_of_mem _ hq, d⟩
theorem RWL.rows_of : ∀ {rs : List (List Int)} {vs : List V}, RWL K μ H vs (rs.map wR) → ∀ r ∈ rs, ∃ x ∈ vs, TD K H x (dInts r)
  | [], _, h => fun x hx => absurd hx List.not_mem_nil
  | r :: rs, _, h => by
    cases h with
    | cons a t =>
      intro x hx
      rcases List.mem_cons.mp hx with rfl | hx
      · exact ⟨_, List.mem_cons_self, a⟩
      · obtain ⟨q, hq, d⟩ := RWL.rows_of t x hx
        exact ⟨q, List.mem_cons_of_mem _ hq, d⟩
theorem RWL.pwR : ∀ {ms : List (List Int)} {ys : List V}, RWL K μ H ys (ms.map wR) → ys.Pairwise (fun x y => ∀ n m, TupI K H x n → TupI K H y m → ltI m n = false) → ms.Pairwise (fun x y => ltI y x = false)
  | [], _, _, _ => .nil
  | r :: ms, _, h, w => by
    cases h with
    | cons a t =>
      cases w with
      | cons w1 w2 =>
        refine .cons (fun q hq => ?_) (RWL.pwR t w2)
        obtain ⟨x, hx, d⟩ := RWL.rows_of t q hq
        exact w1 x hx _ _ (TD.row a) (TD.row d)
theorem RWL.permR {vs us : List V} (p : us.Perm vs) : ∀ {rs : List (List Int)}, RWL K μ H vs (rs.map wR) → ∃ ms : List (List Int), ms.Perm rs ∧ RWL K μ H us (ms.map wR) := by
  induction p with
  | nil =>
    intro rs h
    match rs, h with
    | [], .nil => exact ⟨[], .nil, .nil⟩
  | cons x _ ih =>
    intro rs h
    match rs, h with
    | r :: rs, .cons a t =>
      obtain ⟨ms, p, q⟩ := ih t
      exact ⟨r :: ms, p.cons r, .cons a q⟩
  | swap x y l =>
    intro rs h
    match rs, h with
    | r :: q :: rs, .cons a (.cons b t) => exact ⟨q :: r :: rs, .swap _ _ _, .cons b (.cons a t)⟩
  | trans _ _ ih1 ih2 =>
    intro rs h
    obtain ⟨ms, p, q⟩ := ih2 h
    obtain ⟨ns, p2, q2⟩ := ih1 q
    exact ⟨ns, p2.trans p, q2⟩
theorem xc_sortR {D : Nat} {B : Int} : XC K ts (rSortV K D B) (cSortR D B) := by
  refine ⟨fun ws st Q Q' f => one1.imp fun w => ls1.imp fun n xs => rowsW.imp fun rs q => ⟨q.1, q.2.1, fun ms p pw => f _ _ (q.2.2 ms p pw)⟩, fun μ st H vs ws Q S r h => ?_⟩
  obtain ⟨w, rfl, h1⟩ := one1.ex h
  obtain ⟨v, rfl, r1⟩ := RWL.one r
  obtain ⟨n, xs, rfl, e, q⟩ := ls1.ex h1
  obtain ⟨rs, rfl, l, ok, q⟩ := rowsW.ex q
  obtain ⟨a, us, ea, rfl, e1, h2⟩ := S.list r1 e
  refine ⟨a, us, rfl, .inl (.inl e1), by rw [RWL.len h2, List.length_map]; exact l, fun x hx => ?_, fun ys p pm pw np => ?_⟩
  · obtain ⟨r, hr, d⟩ := RWL.rows_ex h2 x hx
    exact ⟨r, TD.row d, ok r hr⟩
  · obtain ⟨ms, p2, r3⟩ := RWL.permR pm h2
    obtain ⟨g2, S2, r2⟩ := S.allocR np r3
    exact q ms p2 (RWL.pwR r3 pw) _ _ _ g2 S2 r2
end
end FL

/-! Own layer, values: more built-ins, subscripts, comparisons of data, tests. -/
namespace FL
open PySem PySem.Spec PyProof.Rows L2 KL KG GR KV KS KY
section
variable {K : PySem.W.Frag} {ts μ μ' : List Addr} {H G : Hp} {st : Sto} {t ta tb tc : TE} {m ma mb mc : ME} {σ : L2.St} {ρ : Ev}
theorem RWL.bls : ∀ {bs : List Bool} {vs : List V}, RWL K μ H vs (bs.map fun i => .d (.bool i)) → vs = bs.map V.bl
  | [], _, h => by cases h; rfl
  | n :: ns, _, h => by
    cases h with
    | cons a t =>
      cases a
      rw [RWL.bls t]
      rfl
def cAll : List W → Sto → WQ → Prop := fun ws st Q => one1 ws fun w => ls1 w st fun _ xs => blsD xs fun bs => Q (.d (.bool (bs.all id))) st
def cAny : List W → Sto → WQ → Prop := fun ws st Q => one1 ws fun w => ls1 w st fun _ xs => blsD xs fun bs => Q (.d (.bool (bs.any id))) st
theorem xc_all : XC K ts (rAll K) cAll := by
  refine ⟨fun ws st Q Q' f => one1.imp fun w => ls1.imp fun n xs => blsD.imp fun ns q => f _ _ q, fun μ st H vs ws Q S r h => ?_⟩
  obtain ⟨w, rfl, h1⟩ := one1.ex h
  obtain ⟨v, rfl, r1⟩ := RWL.one r
  obtain ⟨n, xs, rfl, e, q1⟩ := ls1.ex h1
  obtain ⟨ns, rfl, q2⟩ := blsD.ex q1
  obtain ⟨a, us, ea, rfl, e1, h2⟩ := S.list r1 e
  rw [RWL.bls h2] at e1
  exact ⟨a, ns, rfl, .inl (.inl e1), q2 μ H _ Gr.rfl' S (.bl _)⟩
theorem xc_any : XC K ts (rAny K) cAny := by
  refine ⟨fun ws st Q Q' f => one1.imp fun w => ls1.imp fun n xs => blsD.imp fun ns q => f _ _ q, fun μ st H vs ws Q S r h => ?_⟩
  obtain ⟨w, rfl, h1⟩ := one1.ex h
  obtain ⟨v, rfl, r1⟩ := RWL.one r
  obtain ⟨n, xs, rfl, e, q1⟩ := ls1.ex h1
  obtain ⟨ns, rfl, q2⟩ := blsD.ex q1
  obtain ⟨a, us, ea, rfl, e1, h2⟩ := S.list r1 e
  rw [RWL.bls h2] at e1
  exact ⟨a, ns, rfl, .inl (.inl e1), q2 μ H _ Gr.rfl' S (.bl _)⟩
abbrev rAbs : List V → Hp → VK → Prop := fun xs H Q => ∃ i, xs = [.int i] ∧ Q (.int (if i < 0 then -i else i)) H
def cI1 (f : Int → Int) : List W → Sto → WQ → Prop := fun ws st Q => one1 ws fun w => int1 w fun i => Q (.d (.int (f i))) st
theorem xc_abs : XC K ts rAbs (cI1 fun i => if i < 0 then -i else i) := by
  refine ⟨fun ws st Q Q' f => one1.imp fun w => int1.imp fun i q => f _ _ q, fun μ st H vs ws Q S r h => ?_⟩
  obtain ⟨w, rfl, h1⟩ := one1.ex h
  obtain ⟨v, rfl, r1⟩ := RWL.one r
  obtain ⟨i, rfl, q⟩ := int1.ex h1
  cases r1
  exact ⟨i, rfl, q μ H _ Gr.rfl' S (.int _)⟩
abbrev rInt1 : List V → Hp → VK → Prop := fun xs H Q => (∃ i, xs = [.int i] ∧ Q (.int i) H) ∨ ∃ k, xs = [.bl k] ∧ Q (.int (if k then 1 else 0)) H
theorem xc_int : XC K ts rInt1 (cI1 fun i => i) := by
  refine ⟨fun ws st Q Q' f => one1.imp fun w => int1.imp fun i q => f _ _ q, fun μ st H vs ws Q S r h => ?_⟩
  obtain ⟨w, rfl, h1⟩ := one1.ex h
  obtain ⟨v, rfl, r1⟩ := RWL.one r
  obtain ⟨i, rfl, q⟩ := int1.ex h1
  cases r1
  exact .inl ⟨i, rfl, q μ H _ Gr.rfl' S (.int _)⟩
abbrev rMx2 : List V → Hp → VK → Prop := fun xs H Q => ∃ i j, xs = [.int i, .int j] ∧ Q (.int (if j > i then j else i)) H
abbrev rMn2 : List V → Hp → VK → Prop := fun xs H Q => ∃ i j, xs = [.int i, .int j] ∧ Q (.int (if j < i then j else i)) H
def cI2 (f : Int → Int → Int) : List W → Sto → WQ → Prop := fun ws st Q => two2 ws fun w u => int1 w fun i => int1 u fun j => Q (.d (.int (f i j))) st
theorem xc_max2 : XC K ts rMx2 (cI2 fun i j => if j > i then j else i) := by
  refine ⟨fun ws st Q Q' f => two2.imp fun w u => int1.imp fun i => int1.imp fun j q => f _ _ q, fun μ st H vs ws Q S r h => ?_⟩
  obtain ⟨w, u, rfl, h1⟩ := two2.ex h
  obtain ⟨v, x, rfl, r1, r2⟩ := RWL.two r
  obtain ⟨i, rfl, h2⟩ := int1.ex h1
  obtain ⟨j, rfl, q⟩ := int1.ex h2
  cases r1
  cases r2
  exact ⟨i, j, rfl, q μ H _ Gr.rfl' S (.int _)⟩
theorem xc_min2 : XC K ts rMn2 (cI2 fun i j => if j < i then j else i) := by
  refine ⟨fun ws st Q Q' f => two2.imp fun w u => int1.imp fun i => int1.imp fun j q => f _ _ q, fun μ st H vs ws Q S r h => ?_⟩
  obtain ⟨w, u, rfl, h1⟩ := two2.ex h
  obtain ⟨v, x, rfl, r1, r2⟩ := RWL.two r
  obtain ⟨i, rfl, h2⟩ := int1.ex h1
  obtain ⟨j, rfl, q⟩ := int1.ex h2
  cases r1
  cases r2
  exact ⟨i, j, rfl, q μ H _ Gr.rfl' S (.int _)⟩
abbrev rDm : List V → Hp → VK → Prop := fun xs H Q => ∃ i j, xs = [.int i, .int j] ∧ CDiv i j ∧ ∀ p, H p = none → Q (.ref p) (upd H p (.tup [.int (i / j), .int (i % j)]))
def cDm : List W → Sto → WQ → Prop := fun ws st Q => two2 ws fun w u => int1 w fun i => int1 u fun j => CDiv i j ∧ Q (.d (.tuple [.int (i / j), .int (i % j)])) st
theorem xc_divmod : XC K ts rDm cDm := by
  refine ⟨fun ws st Q Q' f => two2.imp fun w u => int1.imp fun i => int1.imp fun j q => ⟨q.1, f _ _ q.2⟩, fun μ st H vs ws Q S r h => ?_⟩
  obtain ⟨w, u, rfl, h1⟩ := two2.ex h
  obtain ⟨v, x, rfl, r1, r2⟩ := RWL.two r
  obtain ⟨i, rfl, h2⟩ := int1.ex h1
  obtain ⟨j, rfl, c, q⟩ := int1.ex h2
  cases r1
  cases r2
  exact ⟨i, j, rfl, c, fun p np => q μ _ _ ⟨List.prefix_refl _, Kt.new np⟩ (S.new np) (td_new np (.cons (.int _) (.cons (.int _) .nil)))⟩

/-! ### ranges made -/
structure XRg (K : PySem.W.Frag) (ts : List Addr) (t : L2.St → Hp → (Int → Int → Hp → Prop) → Prop) (m : Ev → Sto → (Int → Int → Sto → Prop) → Prop) : Prop where
  mono : ∀ ρ st Q Q', (∀ a b s, Q a b s → Q' a b s) → m ρ st Q → m ρ st Q'
  run : ∀ μ st H σ ρ (Q : Int → Int → Hp → Prop), SR K ts μ st H → RE K μ H σ ρ → m ρ st (fun a b s => ∀ μ' G, Gr μ H μ' G → SR K ts μ' s G → Q a b G) → t σ H Q
def mRg1 (ma : ME) : Ev → Sto → (Int → Int → Sto → Prop) → Prop := fun ρ st Q => ma ρ st fun w s => int1 w fun i => Q 0 i s
theorem xrg_1 (ha : XE K ts ta ma) : XRg K ts (tRg1 ta) (mRg1 ma) := by
  refine ⟨fun ρ st Q Q' f h => ha.mono _ _ _ _ (fun w s => int1.imp fun i q => f _ _ _ q) h, fun μ st H σ ρ Q S E h => ha.thn S E h fun w s μ1 G v h1 g S1 E1 rv => ?_⟩
  obtain ⟨i, rfl, q⟩ := int1.ex h1
  cases rv
  exact ⟨i, rfl, q μ1 G g S1⟩
def rgD (a b : Int) : List Int := (List.range (b - a).toNat).map fun i => a + (i : Nat)
theorem rg_ints (a b : Int) : rgV a b = (rgD a b).map V.int := by unfold rgV rgD; rw [List.map_map]; rfl
def mLstRg (m : Ev → Sto → (Int → Int → Sto → Prop) → Prop) : ME := fun ρ st Q => m ρ st fun a b s => RgOk a b ∧ Q (.l s.length) (s ++ [.ls ((rgD a b).map wI)])
def mTupRg (m : Ev → Sto → (Int → Int → Sto → Prop) → Prop) : ME := fun ρ st Q => m ρ st fun a b s => RgOk a b ∧ Q (wR (rgD a b)) s
theorem xe_lstRg {t : L2.St → Hp → (Int → Int → Hp → Prop) → Prop} {m : Ev → Sto → (Int → Int → Sto → Prop) → Prop} (h : XRg K ts t m) : XE K ts (tLstRg t) (mLstRg m) := by
  refine ⟨fun ρ st Q Q' f q => h.mono _ _ _ _ (fun a b s q => ⟨q.1, f _ _ q.2⟩) q, fun μ st H σ ρ Q S E q => ?_⟩
  refine h.run μ st H σ ρ _ S E (h.mono _ _ _ _ (fun a b s q μ1 G g S1 => ⟨q.1, fun p np => ?_⟩) q)
  rw [rg_ints]
  obtain ⟨g2, S2, r2⟩ := S1.allocR np (RWL.ofInts (rgD a b))
  exact q.2 _ _ _ (g.tr g2) S2 r2
theorem xe_tupRg {t : L2.St → Hp → (Int → Int → Hp → Prop) → Prop} {m : Ev → Sto → (Int → Int → Sto → Prop) → Prop} (h : XRg K ts t m) : XE K ts (tTupRg t) (mTupRg m) := by
  refine ⟨fun ρ st Q Q' f q => h.mono _ _ _ _ (fun a b s q => ⟨q.1, f _ _ q.2⟩) q, fun μ st H σ ρ Q S E q => ?_⟩
  refine h.run μ st H σ ρ _ S E (h.mono _ _ _ _ (fun a b s q μ1 G g S1 => ⟨q.1, fun p np => ?_⟩) q)
  rw [rg_ints]
  exact q.2 _ _ _ (g.tr ⟨List.prefix_refl _, Kt.new np⟩) (S1.new np) (td_new np (TDL.ofInts _))

/-! ### subscripts -/
theorem ixN_len {n k : Nat} (h : n = k) (i : Int) : ixN n i = ixN k i := by rw [h]
def oIxT : W → W → Sto → WQ → Prop := fun w u st Q => tup1 w fun ds => int1 u fun i => ∃ x, atI ds i = some x ∧ Q (.d x) st
theorem get_ex {α β : Type} {R : α → β → Prop} : ∀ {xs : List α} {ys : List β} {j : Nat} {y : β}, Paired R xs ys → ys[j]? = some y → ∃ x, xs[j]? = some x ∧ R x y
  | _, _, _, _, .nil, e => by simp at e
  | _, _, 0, _, .cons a _, e => ⟨_, rfl, by cases e; exact a⟩
  | _, _, j + 1, _, .cons _ t, e => get_ex (j := j) t e
theorem atI_ex {α β : Type} {R : α → β → Prop} {xs : List α} {ys : List β} {i : Int} {y : β} (r : Paired R xs ys) (h : atI ys i = some y) : ∃ x, atI xs i = some x ∧ R x y := by
  have len : xs.length = ys.length := Paired.length r
  unfold atI at h ⊢
  rw [len]
  cases e : ixN ys.length i with
  | none => rw [e] at h; cases h
  | some j =>
    rw [e] at h
    exact get_ex r (show ys[j]? = some y from h)
theorem TDL.paired : ∀ {vs : List V} {ds : List PyData}, TDL K H vs ds → Paired (TD K H) vs ds
  | _, _, .nil => .nil
  | _, _, .cons a t => .cons a t.paired
theorem xo_ixT : XO K ts (rIxT K) oIxT := by
  refine ⟨fun _ _ _ _ _ f => tup1.imp fun ds => int1.imp fun i ⟨x, e, q⟩ => ⟨x, e, f _ _ q⟩, fun μ st H x y w u Q S rx ry h => ?_⟩
  obtain ⟨ds, rfl, h1⟩ := tup1.ex h
  obtain ⟨i, rfl, d, e, q⟩ := int1.ex h1
  cases ry
  have rx : TD K H x (.tuple ds) := rx
  cases rx with
  | tup hs td =>
    obtain ⟨v, ev, tv⟩ := atI_ex td.paired e
    exact ⟨_, _, i, v, rfl, rfl, .inl hs, ev, q μ H _ Gr.rfl' S tv⟩
def oIxL : W → W → Sto → WQ → Prop := fun w u st Q => ls1 w st fun _ xs => int1 u fun i => ∃ x, atI xs i = some x ∧ Q x st
theorem xo_ixL : XO K ts (rIxL K) oIxL := by
  refine ⟨fun _ _ _ _ _ f => ls1.imp fun n ds => int1.imp fun i ⟨x, e, q⟩ => ⟨x, e, f _ _ q⟩, fun μ st H x y w u Q S rx ry h => ?_⟩
  obtain ⟨n, xs, rfl, e, h1⟩ := ls1.ex h
  obtain ⟨i, rfl, d, e2, q⟩ := int1.ex h1
  cases ry
  obtain ⟨a, us, ea, rfl, e1, h2⟩ := S.list rx e
  obtain ⟨v, ev, tv⟩ := atI_ex h2 e2
  exact ⟨a, us, i, v, rfl, rfl, .inl (.inl e1), ev, q μ H _ Gr.rfl' S tv⟩
def oIxS : W → W → Sto → WQ → Prop := fun w u st Q => str1 w fun z => int1 u fun i => z.length ≤ 1000000 ∧ ∃ c, atI z.cps.toList i = some c ∧ Q (.d (.str ⟨#[c]⟩)) st
theorem xo_ixS : XO K ts rIxS oIxS := by
  refine ⟨fun _ _ _ _ _ f => str1.imp fun ds => int1.imp fun i ⟨l, x, e, q⟩ => ⟨l, x, e, f _ _ q⟩, fun μ st H x y w u Q S rx ry h => ?_⟩
  obtain ⟨z, rfl, h1⟩ := str1.ex h
  obtain ⟨i, rfl, l, d, e, q⟩ := int1.ex h1
  cases ry
  cases rx
  exact ⟨z, i, d, rfl, rfl, by rw [sizeLine_eq]; omega, e, q μ H _ Gr.rfl' S (.str _)⟩
theorem xp_none : XP K ts tNoPart (fun _ st Q => Q none st) := ⟨fun _ _ _ _ f h => f _ _ h, fun μ st H σ ρ Q S E h => h μ H Gr.rfl' S⟩
def mPart (ma : ME) : MO := fun ρ st Q => ma ρ st fun w s => int1 w fun i => Q (some i) s
theorem xp_some (ha : XE K ts ta ma) : XP K ts (tPart ta) (mPart ma) := by
  refine ⟨fun ρ st Q Q' f h => ha.mono _ _ _ _ (fun w s => int1.imp fun i q => f _ _ q) h, fun μ st H σ ρ Q S E h => ha.thn S E h fun w s μ1 G v h1 g S1 E1 rv => ?_⟩
  obtain ⟨i, rfl, q⟩ := int1.ex h1
  cases rv
  exact ⟨i, rfl, q μ1 G g S1⟩
def cutG {α : Type} (xs : List α) (lo hi : Option Int) : List α := (xs.drop (HT.sIx xs.length 0 lo)).take (HT.sIx xs.length xs.length hi - HT.sIx xs.length 0 lo)
def mSlT (ma : ME) (ml mh : MO) : ME := fun ρ st Q => ma ρ st fun w s1 => ml ρ s1 fun lo s2 => mh ρ s2 fun hi s3 => tup1 w fun ds => Q (.d (.tuple (cutG ds lo hi))) s3
theorem cut_whole {α : Type} {xs : List α} {lo hi : Option Int} (h : HT.sIx xs.length 0 lo = 0 ∧ HT.sIx xs.length xs.length hi = xs.length) : cutG xs lo hi = xs := by
  unfold cutG
  rw [h.1, h.2, List.drop_zero, Nat.sub_zero, List.take_length]
theorem TDL.cut {vs : List V} {ds : List PyData} (h : TDL K H vs ds) (lo hi : Option Int) : TDL K H (cutV vs lo hi) (cutG ds lo hi) := by
  unfold cutV cutG
  rw [h.len]
  exact (h.drop _).take _
theorem xe_slT {tl th : TO} {ml mh : MO} (ha : XE K ts ta ma) (hl : XP K ts tl ml) (hh : XP K ts th mh) : XE K ts (tSl (rSlA K) ta tl th) (mSlT ma ml mh) := by
  refine ⟨fun ρ st Q Q' f h => ha.mono _ _ _ _ (fun w s h => hl.mono _ _ _ _ (fun lo s h => hh.mono _ _ _ _ (fun hi s => tup1.imp fun ds q => f _ _ q) h) h) h, fun μ st H σ ρ Q S E h => ?_⟩
  refine ha.thn S E h fun w s1 μ1 G1 v h g1 S1 E1 rv => hl.thn S1 E1 h fun lo s2 μ2 G2 h g2 S2 E2 => hh.thn S2 E2 h fun hi s3 μ3 G3 h g3 S3 E3 => ?_
  obtain ⟨ds, rfl, q⟩ := tup1.ex h
  have rv2 : TD K G3 v (.tuple ds) := RW.mv rv (g2.tr g3)
  have gg := (g1.tr g2).tr g3
  cases rv2 with
  | @tup a xs _ e td =>
    refine ⟨a, xs, rfl, .inl e, fun z => ?_, fun _ p np => ?_⟩
    · rw [td.len] at z
      have q' := q μ3 G3 (.ref a) gg S3
      rw [cut_whole z] at q'
      exact q' (.tup e td)
    · exact q μ3 _ _ (gg.tr ⟨List.prefix_refl _, Kt.new np⟩) (S3.new np) (td_new np (td.cut lo hi))
def mSlL (ma : ME) (ml mh : MO) : ME := fun ρ st Q => ma ρ st fun w s1 => ml ρ s1 fun lo s2 => mh ρ s2 fun hi s3 => ls1 w s3 fun _ xs => Q (.l s3.length) (s3 ++ [.ls (cutG xs lo hi)])
theorem Paired.drop' {α β : Type} {R : α → β → Prop} : ∀ {xs : List α} {ys : List β} (n : Nat), Paired R xs ys → Paired R (xs.drop n) (ys.drop n)
  | _, _, 0, h => h
  | _, _, n + 1, .nil => .nil
  | _, _, n + 1, .cons _ t => Paired.drop' n t
theorem Paired.take' {α β : Type} {R : α → β → Prop} : ∀ {xs : List α} {ys : List β} (n : Nat), Paired R xs ys → Paired R (xs.take n) (ys.take n)
  | _, _, 0, h => by simpa using Paired.nil
  | _, _, n + 1, .nil => .nil
  | _, _, n + 1, .cons a t => .cons a (Paired.take' n t)
theorem Paired.app' {α β : Type} {R : α → β → Prop} : ∀ {xs xs' : List α} {ys ys' : List β}, Paired R xs ys → Paired R xs' ys' → Paired R (xs ++ xs') (ys ++ ys')
  | _, _, _, _, .nil, h => h
  | _, _, _, _, .cons a t, h => .cons a (Paired.app' t h)
theorem xe_slL {tl th : TO} {ml mh : MO} (ha : XE K ts ta ma) (hl : XP K ts tl ml) (hh : XP K ts th mh) : XE K ts (tSl (rSlL K) ta tl th) (mSlL ma ml mh) := by
  refine ⟨fun ρ st Q Q' f h => ha.mono _ _ _ _ (fun w s h => hl.mono _ _ _ _ (fun lo s h => hh.mono _ _ _ _ (fun hi s => ls1.imp fun n ds q => f _ _ q) h) h) h, fun μ st H σ ρ Q S E h => ?_⟩
  refine ha.thn S E h fun w s1 μ1 G1 v h g1 S1 E1 rv => hl.thn S1 E1 h fun lo s2 μ2 G2 h g2 S2 E2 => hh.thn S2 E2 h fun hi s3 μ3 G3 h g3 S3 E3 => ?_
  obtain ⟨n, xs, rfl, e, q⟩ := ls1.ex h
  have gg := (g1.tr g2).tr g3
  obtain ⟨a, us, ea, rfl, e1, h2⟩ := S3.list (RW.mv rv (g2.tr g3)) e
  refine ⟨a, us, rfl, .inl (.inl e1), fun p np => ?_⟩
  have r3 : RWL K μ3 G3 (cutV us lo hi) (cutG xs lo hi) := by
    unfold cutV cutG
    rw [RWL.len h2]
    exact Paired.take' _ (Paired.drop' _ h2)
  obtain ⟨g4, S4, r4⟩ := S3.allocR np r3
  exact q _ _ _ (gg.tr g4) S4 r4
/-- t + u, xs + ys -/
def oCatT : W → W → Sto → WQ → Prop := fun w u st Q => tup1 w fun ds => tup1 u fun es => ds.length + es.length ≤ 1000000 ∧ Q (.d (.tuple (ds ++ es))) st
theorem xo_catT : XO K ts (rCatA K) oCatT := by
  refine ⟨fun _ _ _ _ _ f => tup1.imp fun ds => tup1.imp fun es q => ⟨q.1, f _ _ q.2⟩, fun μ st H x y w u Q S rx ry h => ?_⟩
  obtain ⟨ds, rfl, h1⟩ := tup1.ex h
  obtain ⟨es, rfl, l, q⟩ := tup1.ex h1
  have rx : TD K H x (.tuple ds) := rx
  have ry : TD K H y (.tuple es) := ry
  cases rx with
  | @tup a xs _ e td =>
  cases ry with
  | @tup b ys _ e2 td2 =>
  refine ⟨a, b, xs, ys, rfl, rfl, .inl e, .inl e2, by rw [td.len, td2.len, sizeLine_eq]; omega, fun z => ?_, fun _ z => ?_, fun _ _ p np => ?_⟩
  · subst z
    cases td
    exact q μ H _ Gr.rfl' S (.tup e2 td2)
  · subst z
    cases td2
    rw [List.append_nil] at q
    exact q μ H _ Gr.rfl' S (.tup e td)
  · exact q μ _ _ ⟨List.prefix_refl _, Kt.new np⟩ (S.new np) (td_new np (td.app td2))
def oCatL : W → W → Sto → WQ → Prop := fun w u st Q => ls1 w st fun _ xs => ls1 u st fun _ ys => xs.length + ys.length ≤ 1000000 ∧ Q (.l st.length) (st ++ [.ls (xs ++ ys)])
theorem xo_catL : XO K ts rCat oCatL := by
  refine ⟨fun _ _ _ _ _ f => ls1.imp fun n ds => ls1.imp fun k es q => ⟨q.1, f _ _ q.2⟩, fun μ st H x y w u Q S rx ry h => ?_⟩
  obtain ⟨n, xs, rfl, e, h1⟩ := ls1.ex h
  obtain ⟨k, ys, rfl, e2, l, q⟩ := ls1.ex h1
  obtain ⟨a, us, ea, rfl, e3, r3⟩ := S.list rx e
  obtain ⟨b, vs, eb, rfl, e4, r4⟩ := S.list ry e2
  refine ⟨a, b, us, vs, rfl, rfl, e3, e4, by rw [RWL.len r3, RWL.len r4, sizeLine_eq]; omega, fun p np => ?_⟩
  obtain ⟨g5, S5, r5⟩ := S.allocR np (Paired.app' r3 r4)
  exact q _ _ _ g5 S5 r5

/-! ### in -/
def strsD : List W → (List Str → Prop) → Prop
  | [], k => k []
  | .d (.str i) :: r, k => strsD r fun ns => k (i :: ns)
  | _ :: _, _ => False
abbrev wS (x : Str) : W := .d (.str x)
theorem strsD.ex : ∀ {ws : List W} {k : List Str → Prop}, strsD ws k → ∃ ds : List Str, ws = ds.map wS ∧ k ds
  | [], _, h => ⟨[], rfl, h⟩
  | .d (.str x) :: r, _, h => by
    obtain ⟨ds, rfl, q⟩ := strsD.ex (ws := r) h
    exact ⟨x :: ds, rfl, q⟩
  | .l _ :: _, _, h => h.elim
  | .d .none :: _, _, h => h.elim
  | .d (.bool _) :: _, _, h => h.elim
  | .d (.int _) :: _, _, h => h.elim
  | .d (.list _) :: _, _, h => h.elim
  | .d (.tuple _) :: _, _, h => h.elim
  | .d (.dict _) :: _, _, h => h.elim
theorem strsD_map : ∀ (ds : List Str) (k : List Str → Prop), strsD (ds.map wS) k = k ds
  | [], _ => rfl
  | x :: r, k => strsD_map r _
theorem strsD.imp {ws : List W} {k k' : List Str → Prop} (f : ∀ i, k i → k' i) (h : strsD ws k) : strsD ws k' := by
  obtain ⟨ds, rfl, q⟩ := strsD.ex h
  rw [strsD_map]
  exact f _ q
theorem RWL.strs : ∀ {ns : List Str} {vs : List V}, RWL K μ H vs (ns.map wS) → vs = ns.map V.str
  | [], _, h => by cases h; rfl
  | n :: ns, _, h => by
    cases h with
    | cons a t =>
      cases a
      rw [RWL.strs t]
      rfl
def oInI (neg : Bool) : W → W → Sto → WQ → Prop := fun w u st Q => int1 w fun i => sq1 u st fun xs => intsD xs fun ns => Q (.d (.bool (if neg then !decide (i ∈ ns) else decide (i ∈ ns)))) st
theorem xo_inI {neg : Bool} : XO K ts (rIn K neg) (oInI neg) := by
  refine ⟨fun _ _ _ _ _ f => int1.imp fun i => sq1.imp fun xs => intsD.imp fun ns q => f _ _ q, fun μ st H x y w u Q S rx ry h => ?_⟩
  obtain ⟨i, rfl, h1⟩ := int1.ex h
  obtain ⟨a, us, xs, rfl, hs, rl, h2⟩ := S.seq ry h1
  obtain ⟨ns, rfl, q⟩ := intsD.ex h2
  cases rx
  have e := RWL.ints rl
  subst e
  refine ⟨a, _, rfl, hs, rfl, flat_ints ns, ?_⟩
  rw [in_ints]
  exact q μ H _ Gr.rfl' S (.bl _)
theorem in_strs {m : Str} {ns : List Str} : inV (.str m) (ns.map V.str) = decide (m ∈ ns) := by
  have e : inV (.str m) (ns.map V.str) = ns.any (fun k => k == m) := by
    unfold inV
    rw [List.any_map]
    rfl
  rw [e, Bool.eq_iff_iff, List.any_eq_true, decide_eq_true_iff]
  exact ⟨fun ⟨k, hk, z⟩ => (beq_iff_eq.mp z) ▸ hk, fun h => ⟨m, h, beq_self_eq_true m⟩⟩
theorem flat_strs (ns : List Str) : (ns.map V.str).all flatV = true := by
  rw [List.all_eq_true]
  intro x hx
  obtain ⟨y, _, rfl⟩ := List.mem_map.mp hx
  rfl
def oInS (neg : Bool) : W → W → Sto → WQ → Prop := fun w u st Q => str1 w fun i => sq1 u st fun xs => strsD xs fun ns => Q (.d (.bool (if neg then !decide (i ∈ ns) else decide (i ∈ ns)))) st
theorem xo_inS {neg : Bool} : XO K ts (rIn K neg) (oInS neg) := by
  refine ⟨fun _ _ _ _ _ f => str1.imp fun i => sq1.imp fun xs => strsD.imp fun ns q => f _ _ q, fun μ st H x y w u Q S rx ry h => ?_⟩
  obtain ⟨i, rfl, h1⟩ := str1.ex h
  obtain ⟨a, us, xs, rfl, hs, rl, h2⟩ := S.seq ry h1
  obtain ⟨ns, rfl, q⟩ := strsD.ex h2
  cases rx
  have e := RWL.strs rl
  subst e
  refine ⟨a, _, rfl, hs, rfl, flat_strs ns, ?_⟩
  rw [in_strs]
  exact q μ H _ Gr.rfl' S (.bl _)
/-- a tuple among data -/
def shp (d : PyData) : Prop := SeqAt.shaped d = true
def oInT : W → W → Sto → WQ → Prop := fun w u st Q => dat1 w fun d => tup1 u fun ds => shp d ∧ shp (.tuple ds) ∧ Q (.d (.bool (ds.any fun z => PyData.eqv z d))) st
theorem xo_inT : XO K ts (rInT K) oInT := by
  refine ⟨fun _ _ _ _ _ f => dat1.imp fun i => tup1.imp fun xs q => ⟨q.1, q.2.1, f _ _ q.2.2⟩, fun μ st H x y w u Q S rx ry h => ?_⟩
  obtain ⟨d, rfl, h1⟩ := dat1.ex h
  obtain ⟨ds, rfl, s1, s2, q⟩ := tup1.ex h1
  exact ⟨d, ds, TD.dp d x rx, TD.dp _ y ry, s1, s2, q μ H _ Gr.rfl' S (.bl _)⟩
theorem RWL.dpl : ∀ {ds : List PyData} {vs : List V}, RWL K μ H vs (ds.map .d) → DpAll K H vs ds := fun {ds vs} h => TDL.dp ds vs (RWL.data h)
def oInD (neg : Bool) : W → W → Sto → WQ → Prop := fun w u st Q => dat1 w fun d => ls1 u st fun _ xs => allD xs fun ds => shp d ∧ shp (.list ds) ∧ Q (.d (.bool (if neg then !ds.any fun z => PyData.eqv z d else ds.any fun z => PyData.eqv z d))) st
theorem xo_inD : XO K ts (rInD K) (oInD false) := by
  refine ⟨fun _ _ _ _ _ f => dat1.imp fun i => ls1.imp fun n xs => allD.imp fun ds q => ⟨q.1, q.2.1, f _ _ q.2.2⟩, fun μ st H x y w u Q S rx ry h => ?_⟩
  obtain ⟨d, rfl, h1⟩ := dat1.ex h
  obtain ⟨n, xs, rfl, e, h2⟩ := ls1.ex h1
  obtain ⟨ds, rfl, s1, s2, q⟩ := allD.ex h2
  obtain ⟨a, us, ea, rfl, e3, r3⟩ := S.list ry e
  exact ⟨d, ds, TD.dp d x rx, .lst (.inl (.inl e3)) (RWL.dpl r3), s1, s2, q μ H _ Gr.rfl' S (.bl _)⟩
theorem xo_notInD : XO K ts (rNotInD K) (oInD true) := by
  refine ⟨fun _ _ _ _ _ f => dat1.imp fun i => ls1.imp fun n xs => allD.imp fun ds q => ⟨q.1, q.2.1, f _ _ q.2.2⟩, fun μ st H x y w u Q S rx ry h => ?_⟩
  obtain ⟨d, rfl, h1⟩ := dat1.ex h
  obtain ⟨n, xs, rfl, e, h2⟩ := ls1.ex h1
  obtain ⟨ds, rfl, s1, s2, q⟩ := allD.ex h2
  obtain ⟨a, us, ea, rfl, e3, r3⟩ := S.list ry e
  exact ⟨d, ds, TD.dp d x rx, .lst (.inl (.inl e3)) (RWL.dpl r3), s1, s2, q μ H _ Gr.rfl' S (.bl _)⟩
/-- what a value is as data, lists as lists -/
def val1 (w : W) (st : Sto) (k : PyData → Prop) : Prop := match w with | .d x => k x | .l n => ∃ xs, st[n]? = some (.ls xs) ∧ allD xs fun ds => k (.list ds)
theorem val1.imp {w : W} {k k' : PyData → Prop} (f : ∀ b, k b → k' b) (h : val1 w st k) : val1 w st k' := by
  cases w with
  | d x => exact f _ h
  | l n =>
    obtain ⟨xs, e, q⟩ := h
    exact ⟨xs, e, allD.imp (fun _ => f _) q⟩
theorem SR.val {v : V} {w : W} {k : PyData → Prop} (S : SR K ts μ st H) (r : RW K μ H v w) (h : val1 w st k) : ∃ d, Dp K H v d ∧ k d := by
  cases w with
  | d x => exact ⟨x, TD.dp x v r, h⟩
  | l n =>
    obtain ⟨xs, e, q⟩ := h
    obtain ⟨ds, rfl, q2⟩ := allD.ex q
    obtain ⟨a, us, ea, rfl, e3, r3⟩ := S.list r e
    exact ⟨.list ds, .lst (.inl (.inl e3)) (RWL.dpl r3), q2⟩
def oEqD (neg : Bool) : W → W → Sto → WQ → Prop := fun w u st Q => val1 w st fun d => val1 u st fun e => shp d ∧ shp e ∧ Q (.d (.bool (if neg then !PyData.eqv d e else PyData.eqv d e))) st
theorem xo_eqD : XO K ts (rEqD K) (oEqD false) := by
  refine ⟨fun _ _ _ _ _ f => val1.imp fun i => val1.imp fun xs q => ⟨q.1, q.2.1, f _ _ q.2.2⟩, fun μ st H x y w u Q S rx ry h => ?_⟩
  obtain ⟨d, h1, h2⟩ := S.val rx h
  obtain ⟨e, h3, s1, s2, q⟩ := S.val ry h2
  exact ⟨d, e, h1, h3, s1, s2, q μ H _ Gr.rfl' S (.bl _)⟩
theorem xo_neD : XO K ts (rNeD K) (oEqD true) := by
  refine ⟨fun _ _ _ _ _ f => val1.imp fun i => val1.imp fun xs q => ⟨q.1, q.2.1, f _ _ q.2.2⟩, fun μ st H x y w u Q S rx ry h => ?_⟩
  obtain ⟨d, h1, h2⟩ := S.val rx h
  obtain ⟨e, h3, s1, s2, q⟩ := S.val ry h2
  exact ⟨d, e, h1, h3, s1, s2, q μ H _ Gr.rfl' S (.bl _)⟩

/-! ### tests -/
theorem XE.bl {Q : Bool → Hp → Prop} {k : Bool → Sto → Prop} (h : XE K ts t m) (S : SR K ts μ st H) (E : RE K μ H σ ρ) (q : m ρ st fun w s => bl1 w fun b => k b s) (f : ∀ b s μ' G, k b s → Gr μ H μ' G → SR K ts μ' s G → RE K μ' G σ ρ → Q b G) : t σ H fun x G => ∃ b, x = .bl b ∧ Q b G :=
  h.thn S E q fun w s μ1 G v h1 g S1 E1 rv => by
    obtain ⟨b, rfl, q⟩ := bl1.ex h1
    cases rv
    exact ⟨b, rfl, f b s μ1 G q g S1 E1⟩
def mB (m : ME) : MT := fun ρ st Q => m ρ st fun w s => bl1 w fun b => Q b s
theorem xt_test (h : XE K ts t m) : XT K ts (tTest t) (mB m) := ⟨fun ρ st Q Q' f q => h.mono _ _ _ _ (fun w s => bl1.imp fun b => f _ _) q, fun μ st H σ ρ Q S E q => h.bl S E q fun b s μ' G k g S1 _ => k μ' G g S1⟩
theorem xt_b (h : XE K ts t m) : XT K ts (tB t) (mB m) := ⟨fun ρ st Q Q' f q => h.mono _ _ _ _ (fun w s => bl1.imp fun b => f _ _) q, fun μ st H σ ρ Q S E q => h.bl S E q fun b s μ' G k g S1 _ => k μ' G g S1⟩
def mAnd (m1 m2 : MT) : MT := fun ρ st Q => m1 ρ st fun b s => if b = true then m2 ρ s Q else Q false s
def mOr (m1 m2 : MT) : MT := fun ρ st Q => m1 ρ st fun b s => if b = true then Q true s else m2 ρ s Q
def mNot (m1 : MT) : MT := fun ρ st Q => m1 ρ st fun b s => Q (!b) s
theorem xt_and {t u : TT} {m1 m2 : MT} (h1 : XT K ts t m1) (h2 : XT K ts u m2) : XT K ts (tAnd t u) (mAnd m1 m2) := by
  refine ⟨fun ρ st Q Q' f h => h1.mono _ _ _ _ (fun b s h => ?_) h, fun μ st H σ ρ Q S E h => h1.thn S E h fun b s μ1 G h g S1 E1 => ?_⟩
  · cases b with
    | true => exact h2.mono _ _ _ _ f h
    | false => exact f _ _ h
  · cases b with
    | true => exact h2.thn S1 E1 h fun b s μ2 J k g2 S2 _ => k μ2 J (g.tr g2) S2
    | false => exact h μ1 G g S1
theorem xt_or {t u : TT} {m1 m2 : MT} (h1 : XT K ts t m1) (h2 : XT K ts u m2) : XT K ts (tOr t u) (mOr m1 m2) := by
  refine ⟨fun ρ st Q Q' f h => h1.mono _ _ _ _ (fun b s h => ?_) h, fun μ st H σ ρ Q S E h => h1.thn S E h fun b s μ1 G h g S1 E1 => ?_⟩
  · cases b with
    | false => exact h2.mono _ _ _ _ f h
    | true => exact f _ _ h
  · cases b with
    | false => exact h2.thn S1 E1 h fun b s μ2 J k g2 S2 _ => k μ2 J (g.tr g2) S2
    | true => exact h μ1 G g S1
theorem xt_not {t : TT} {m1 : MT} (h1 : XT K ts t m1) : XT K ts (tNot t) (mNot m1) :=
  ⟨fun ρ st Q Q' f h => h1.mono _ _ _ _ (fun b s => f _ _) h, fun μ st H σ ρ Q S E h => h1.thn S E h fun b s μ1 G h g S1 E1 => h μ1 G g S1⟩
/-- truth -/
theorem SR.tru {v : V} {w : W} {k : Bool → Prop} (S : SR K ts μ st H) (r : RW K μ H v w) (h : tru1 w st k) : ∃ b, TruV K v H b ∧ k b := by
  cases w with
  | l n =>
    obtain ⟨xs, e, q⟩ := h
    obtain ⟨a, us, ea, rfl, e3, r3⟩ := S.list r e
    refine ⟨_, .inl ⟨us, .inl (.inl e3), ?_⟩, q⟩
    cases r3 <;> rfl
  | d x =>
    cases x with
    | none => cases r; exact ⟨_, rfl, h⟩
    | bool b => cases r; exact ⟨_, rfl, h⟩
    | int i => cases r; exact ⟨_, rfl, h⟩
    | str z => cases r; exact ⟨_, ⟨by rw [sizeLine_eq]; exact Nat.le_trans h.1 (by decide), rfl⟩, h.2⟩
    | tuple ds =>
      have r : TD K H v (.tuple ds) := r
      cases r with
      | tup e td =>
        refine ⟨_, .inr (.inl ⟨_, .inl e, ?_⟩), h⟩
        cases td <;> rfl
    | list _ => exact h.elim
    | dict _ => exact h.elim
def mTru (m : ME) : MT := fun ρ st Q => m ρ st fun w s => tru1 w s fun b => Q b s
theorem xt_tru (h : XE K ts t m) : XT K ts (fun σ H Q => t σ H fun x H' => ∃ k, TruV K x H' k ∧ Q k H') (mTru m) :=
  ⟨fun ρ st Q Q' f q => h.mono _ _ _ _ (fun w s => tru1.imp fun b => f _ _) q, fun μ st H σ ρ Q S E q => h.thn S E q fun w s μ1 G v h1 g S1 E1 rv => by
    obtain ⟨b, e, q⟩ := S1.tru rv h1
    exact ⟨b, e, q μ1 G g S1⟩⟩
def mAndV (ma mb : ME) : ME := fun ρ st Q => ma ρ st fun w s => bl1 w fun b => if b = true then mb ρ s Q else Q (.d (.bool false)) s
def mOrV (ma mb : ME) : ME := fun ρ st Q => ma ρ st fun w s => bl1 w fun b => if b = true then Q (.d (.bool true)) s else mb ρ s Q
def mNotV (ma : ME) : ME := fun ρ st Q => ma ρ st fun w s => bl1 w fun b => Q (.d (.bool (!b))) s
theorem xe_and (ha : XE K ts ta ma) (hb : XE K ts tb mb) : XE K ts (tAndV ta tb) (mAndV ma mb) := by
  refine ⟨fun ρ st Q Q' f h => ha.mono _ _ _ _ (fun w s => bl1.imp fun b h => ?_) h, fun μ st H σ ρ Q S E h => ha.bl S E h fun b s μ1 G h g S1 E1 => ?_⟩
  · cases b with
    | true => exact hb.mono _ _ _ _ f h
    | false => exact f _ _ h
  · cases b with
    | true => exact hb.thn S1 E1 h fun w s μ2 J v k g2 S2 _ rv => k μ2 J v (g.tr g2) S2 rv
    | false => exact h μ1 G _ g S1 (.bl _)
theorem xe_or (ha : XE K ts ta ma) (hb : XE K ts tb mb) : XE K ts (tOrV ta tb) (mOrV ma mb) := by
  refine ⟨fun ρ st Q Q' f h => ha.mono _ _ _ _ (fun w s => bl1.imp fun b h => ?_) h, fun μ st H σ ρ Q S E h => ha.bl S E h fun b s μ1 G h g S1 E1 => ?_⟩
  · cases b with
    | false => exact hb.mono _ _ _ _ f h
    | true => exact f _ _ h
  · cases b with
    | false => exact hb.thn S1 E1 h fun w s μ2 J v k g2 S2 _ rv => k μ2 J v (g.tr g2) S2 rv
    | true => exact h μ1 G _ g S1 (.bl _)
theorem xe_not (ha : XE K ts ta ma) : XE K ts (tNotV ta) (mNotV ma) :=
  ⟨fun ρ st Q Q' f h => ha.mono _ _ _ _ (fun w s => bl1.imp fun b => f _ _) h, fun μ st H σ ρ Q S E h => ha.bl S E h fun b s μ1 G h g S1 E1 => h μ1 G _ g S1 (.bl _)⟩
def mIf (mt : MT) (ma mb : ME) : ME := fun ρ st Q => mt ρ st fun b s => if b = true then ma ρ s Q else mb ρ s Q
theorem xe_if {t : TT} {mt : MT} (ht : XT K ts t mt) (ha : XE K ts ta ma) (hb : XE K ts tb mb) : XE K ts (tIf t ta tb) (mIf mt ma mb) := by
  refine ⟨fun ρ st Q Q' f h => ht.mono _ _ _ _ (fun b s h => ?_) h, fun μ st H σ ρ Q S E h => ht.thn S E h fun b s μ1 G h g S1 E1 => ?_⟩
  · cases b with
    | true => exact ha.mono _ _ _ _ f h
    | false => exact hb.mono _ _ _ _ f h
  · cases b with
    | true => exact ha.thn S1 E1 h fun w s μ2 J v k g2 S2 _ rv => k μ2 J v (g.tr g2) S2 rv
    | false => exact hb.thn S1 E1 h fun w s μ2 J v k g2 S2 _ rv => k μ2 J v (g.tr g2) S2 rv
/-- a op1 b op2 c -/
def mChain (o o' : W → W → Sto → WQ → Prop) (ma mb mc : ME) : ME := fun ρ st Q => ma ρ st fun w s1 => mb ρ s1 fun u s2 => o w u s2 fun z s3 => bl1 z fun b => if b = true then mc ρ s3 fun y s4 => o' u y s4 Q else Q (.d (.bool false)) s3
theorem xe_chain {r r' : R2} {o o' : W → W → Sto → WQ → Prop} (ho : XO K ts r o) (ho' : XO K ts r' o') (ha : XE K ts ta ma) (hb : XE K ts tb mb) (hc : XE K ts tc mc) : XE K ts (tChain r r' ta tb tc) (mChain o o' ma mb mc) := by
  refine ⟨fun ρ st Q Q' f h => ha.mono _ _ _ _ (fun w s h => hb.mono _ _ _ _ (fun u s h => ho.mono _ _ _ _ _ (fun z s => bl1.imp fun b h => ?_) h) h) h, fun μ st H σ ρ Q S E h => ?_⟩
  · cases b with
    | true => exact hc.mono _ _ _ _ (fun y s => ho'.mono _ _ _ _ _ f) h
    | false => exact f _ _ h
  · refine ha.thn S E h fun w s1 μ1 G1 x h g1 S1 E1 rx => hb.thn S1 E1 h fun u s2 μ2 G2 y h g2 S2 E2 ry => ?_
    refine ho.run μ2 s2 G2 x y w u _ S2 (RW.mv rx g2) ry (ho.mono _ _ _ _ _ (fun z s3 h μ3 G3 v g3 S3 rv => ?_) h)
    obtain ⟨b, rfl, h⟩ := bl1.ex h
    cases rv
    refine ⟨b, rfl, ?_⟩
    have gg := (g1.tr g2).tr g3
    cases b with
    | true => exact hc.thn S3 (RE.mv g3 E2) h fun w4 s4 μ4 G4 v4 h g4 S4 E4 r4 => ho'.run μ4 s4 G4 y v4 u w4 Q S4 (RW.mv ry (g3.tr g4)) r4 (ho'.mono _ _ _ _ _ (fun w s h => h.up (gg.tr g4)) h)
    | false => exact h μ3 G3 _ gg S3 (.bl _)
end
end FL

/-! Own layer, values: what loops walk, targets, comprehensions, statements, defs. -/
namespace FL
open PySem PySem.Spec PyProof.Rows L2 KL KG GR KV KS KY RT

/-! ### what is walked -/
structure ItOk (K : PySem.W.Frag) (ts : List Addr) (J : It) (μ0 : List Addr) (G0 : Hp) (xs : List W) (gd : Sto → Prop) : Prop where
  go : ∀ μ G s i, Gr μ0 G0 μ G → SR K ts μ s G → gd s → i < xs.length → J.go i G
  yld : ∀ μ G s i x H', Gr μ0 G0 μ G → SR K ts μ s G → gd s → i < xs.length → J.yld i G x H' → ∃ w, xs[i]? = some w ∧ Gr μ G μ H' ∧ SR K ts μ s H' ∧ RW K μ H' x w
  stop : ∀ μ G s, Gr μ0 G0 μ G → SR K ts μ s G → gd s → J.stop xs.length G
abbrev MI := Ev → Sto → (List W → (Sto → Prop) → Sto → Prop) → Prop
structure XI (K : PySem.W.Frag) (ts : List Addr) (wi : TI) (mi : MI) : Prop where
  mono : ∀ ρ st Q Q', (∀ xs gd s, Q xs gd s → Q' xs gd s) → mi ρ st Q → mi ρ st Q'
  run : ∀ μ st H σ ρ (R : It → Hp → Prop), SR K ts μ st H → RE K μ H σ ρ → mi ρ st (fun xs gd s => ∀ μ' G J, Gr μ H μ' G → SR K ts μ' s G → ItOk K ts J μ' G xs gd → R J G) → wi σ H R
abbrev MG := W → Ev → Sto → (Ev → Sto → Prop) → Prop
structure XG (K : PySem.W.Frag) (ts : List Addr) (g : TG) (mg : MG) : Prop where
  mono : ∀ w ρ st Q Q', (∀ ρ s, Q ρ s → Q' ρ s) → mg w ρ st Q → mg w ρ st Q'
  run : ∀ μ st H σ ρ v w Q, SR K ts μ st H → RE K μ H σ ρ → RW K μ H v w → mg w ρ st (fun ρ' s => ∀ μ' G σ', Gr μ H μ' G → SR K ts μ' s G → RE K μ' G σ' ρ' → Q σ' G) → g v σ H Q
structure XGs (K : PySem.W.Frag) (ts : List Addr) (g : TGs) (mg : List W → Ev → Sto → (Ev → Sto → Prop) → Prop) : Prop where
  mono : ∀ w ρ st Q Q', (∀ ρ s, Q ρ s → Q' ρ s) → mg w ρ st Q → mg w ρ st Q'
  run : ∀ μ st H σ ρ v w Q, SR K ts μ st H → RE K μ H σ ρ → RWL K μ H v w → mg w ρ st (fun ρ' s => ∀ μ' G σ', Gr μ H μ' G → SR K ts μ' s G → RE K μ' G σ' ρ' → Q σ' G) → g v σ H Q
section
variable {K : PySem.W.Frag} {ts μ μ' : List Addr} {H G : Hp} {st : Sto} {t ta tb tc : TE} {m ma mb mc : ME} {σ : L2.St} {ρ : Ev}
def iL (ma : ME) : MI := fun ρ st Q => ma ρ st fun w s => ls1 w s fun n xs => Q xs (fun s' => s'[n]? = some (.ls xs)) s
theorem xi_list (ha : XE K ts ta ma) : XI K ts (iList K ta) (iL ma) := by
  refine ⟨fun ρ st Q Q' f h => ha.mono _ _ _ _ (fun w s => ls1.imp fun n xs q => f _ _ _ q) h, fun μ st H σ ρ R S E h => ha.thn S E h fun w s μ1 G v h1 g S1 E1 rv => ?_⟩
  obtain ⟨n, xs, rfl, e, q⟩ := ls1.ex h1
  obtain ⟨a, us, ea, rfl, e3, r3⟩ := S1.list rv e
  have key : ∀ μ' G' s', Gr μ1 G μ' G' → SR K ts μ' s' G' → s'[n]? = some (.ls xs) → ∃ vs, SqL K G' a vs ∧ RWL K μ' G' vs xs := fun μ' G' s' g2 S2 e2 => by
    obtain ⟨vs, h1, h2⟩ := S2.ob n a _ (pre_get g2.1 ea) e2
    exact ⟨vs, .inl (.inl h1), h2⟩
  refine ⟨a, rfl, ⟨us, .inl (.inl e3)⟩, q μ1 G _ g S1 ⟨fun μ' G' s' i g2 S2 e2 hi => ?_, fun μ' G' s' i x H' g2 S2 e2 hi y => ?_, fun μ' G' s' g2 S2 e2 => ?_⟩⟩
  · obtain ⟨vs, h1, h2⟩ := key μ' G' s' g2 S2 e2
    rw [← RWL.len h2] at hi
    exact ⟨vs, _, h1, List.getElem?_eq_getElem hi⟩
  · obtain ⟨vs, h1, h2⟩ := key μ' G' s' g2 S2 e2
    obtain ⟨rfl, y⟩ := y
    have hx := y vs h1
    obtain ⟨w', hw⟩ : ∃ w', xs[i]? = some w' := ⟨_, List.getElem?_eq_getElem hi⟩
    obtain ⟨x', hx', rx⟩ := get_ex h2 hw
    rw [hx] at hx'
    cases hx'
    exact ⟨w', hw, Gr.rfl', S2, rx⟩
  · obtain ⟨vs, h1, h2⟩ := key μ' G' s' g2 S2 e2
    exact ⟨vs, h1, by rw [RWL.len h2]; exact Nat.le_refl _⟩
def iT (ma : ME) : MI := fun ρ st Q => ma ρ st fun w s => tup1 w fun ds => Q (ds.map .d) (fun _ => True) s
theorem xi_tup (ha : XE K ts ta ma) : XI K ts (iTup K ta) (iT ma) := by
  refine ⟨fun ρ st Q Q' f h => ha.mono _ _ _ _ (fun w s => tup1.imp fun n q => f _ _ _ q) h, fun μ st H σ ρ R S E h => ha.thn S E h fun w s μ1 G v h1 g S1 E1 rv => ?_⟩
  obtain ⟨ds, rfl, q⟩ := tup1.ex h1
  have rv : TD K G v (.tuple ds) := rv
  cases rv with
  | @tup a us _ e td =>
  have len := td.len
  refine ⟨a, rfl, ⟨us, .inl e⟩, q μ1 G _ g S1 ⟨fun μ' G' s' i g2 S2 _ hi => ?_, fun μ' G' s' i x H' g2 S2 _ hi y => ?_, fun μ' G' s' g2 S2 _ => ?_⟩⟩
  · rw [List.length_map, ← len] at hi
    exact ⟨us, _, g2.2.sqt (.inl e), List.getElem?_eq_getElem hi⟩
  · obtain ⟨rfl, y⟩ := y
    have hx := y us (g2.2.sqt (.inl e))
    rw [List.length_map] at hi
    obtain ⟨w', hw⟩ : ∃ w', ds[i]? = some w' := ⟨_, List.getElem?_eq_getElem hi⟩
    obtain ⟨x', hx', rx⟩ := td.getD hw
    rw [hx] at hx'
    cases hx'
    exact ⟨.d w', by rw [List.getElem?_map, hw]; rfl, Gr.rfl', S2, TD.mv g2.2 _ _ rx⟩
  · exact ⟨us, g2.2.sqt (.inl e), by rw [List.length_map, len]; exact Nat.le_refl _⟩
theorem itr_ok {lo : Int} {n : Nat} : ItOk K ts (Itr lo n) μ H ((List.range n).map fun i => wI (lo + (i : Nat))) (fun _ => True) :=
  ⟨fun μ' G' s' i g2 S2 _ hi => by rw [List.length_map, List.length_range] at hi; exact hi, fun μ' G' s' i x H' g2 S2 _ hi y => by
    obtain ⟨rfl, rfl⟩ := y
    rw [List.length_map, List.length_range] at hi
    exact ⟨wI (lo + (i : Nat)), by rw [List.getElem?_map, List.getElem?_range hi]; rfl, Gr.rfl', S2, TD.int _⟩, fun μ' G' s' g2 S2 _ => by rw [List.length_map, List.length_range]; exact Nat.le_refl n⟩
def iR1 (a : MA) : MI := fun ρ st Q => a ρ st fun ws s => one1 ws fun w => int1 w fun j => (-(2 ^ 62) ≤ j ∧ j < 2 ^ 62) ∧ Q ((List.range j.toNat).map fun i => wI (0 + (i : Nat))) (fun _ => True) s
theorem xi_rng1 {tr : TA} {a : MA} (ha : XA K ts tr a) : XI K ts (iRng1 tr) (iR1 a) := by
  refine ⟨fun ρ st Q Q' f h => ha.mono _ _ _ _ (fun w s => one1.imp fun w => int1.imp fun j q => ⟨q.1, f _ _ _ q.2⟩) h, fun μ st H σ ρ R S E h => ha.thn S E h fun ws s μ1 G vs h1 g S1 E1 rv => ?_⟩
  obtain ⟨w, rfl, h2⟩ := one1.ex h1
  obtain ⟨j, rfl, b, q⟩ := int1.ex h2
  obtain ⟨v, rfl, r⟩ := RWL.one rv
  cases r
  exact ⟨j, rfl, b.1, b.2, q μ1 G _ g S1 itr_ok⟩
def iR2 (a : MA) : MI := fun ρ st Q => a ρ st fun ws s => two2 ws fun w u => int1 w fun i => int1 u fun j => (-(2 ^ 62) ≤ i ∧ i < 2 ^ 62 ∧ -(2 ^ 62) ≤ j ∧ j < 2 ^ 62) ∧ Q ((List.range (j - i).toNat).map fun k => wI (i + (k : Nat))) (fun _ => True) s
theorem xi_rng2 {tr : TA} {a : MA} (ha : XA K ts tr a) : XI K ts (iRng2 tr) (iR2 a) := by
  refine ⟨fun ρ st Q Q' f h => ha.mono _ _ _ _ (fun w s => two2.imp fun w u => int1.imp fun j => int1.imp fun k q => ⟨q.1, f _ _ _ q.2⟩) h, fun μ st H σ ρ R S E h => ha.thn S E h fun ws s μ1 G vs h1 g S1 E1 rv => ?_⟩
  obtain ⟨w, u, rfl, h2⟩ := two2.ex h1
  obtain ⟨i, rfl, h3⟩ := int1.ex h2
  obtain ⟨j, rfl, b, q⟩ := int1.ex h3
  obtain ⟨v, x, rfl, r, r'⟩ := RWL.two rv
  cases r
  cases r'
  exact ⟨i, j, rfl, b, q μ1 G _ g S1 itr_ok⟩
/-- reversed(t), t a tuple -/
def iRv (ma : ME) : MI := fun ρ st Q => ma ρ st fun w s => tup1 w fun ds => Q (ds.reverse.map .d) (fun _ => True) s
theorem xi_rev (ha : XE K ts ta ma) : XI K ts (iRevA K ta) (iRv ma) := by
  refine ⟨fun ρ st Q Q' f h => ha.mono _ _ _ _ (fun w s => tup1.imp fun n q => f _ _ _ q) h, fun μ st H σ ρ R S E h => ha.thn S E h fun w s μ1 G v h1 g S1 E1 rv => ?_⟩
  obtain ⟨ds, rfl, q⟩ := tup1.ex h1
  have rv : TD K G v (.tuple ds) := rv
  cases rv with
  | @tup a us _ e td =>
  have len := td.len
  refine ⟨a, us, rfl, .inr ⟨.inl e, q μ1 G _ g S1 ⟨fun μ' G' s' i g2 S2 _ hi => ?_, fun μ' G' s' i x H' g2 S2 _ hi y => ?_, fun μ' G' s' g2 S2 _ => ?_⟩⟩⟩
  · rw [List.length_map, List.length_reverse, ← len] at hi
    exact ⟨hi, us, us[us.length - 1 - i], g2.2.sqt (.inl e), List.getElem?_eq_getElem (by omega)⟩
  · obtain ⟨rfl, y⟩ := y
    have hx := y us (g2.2.sqt (.inl e))
    rw [List.length_map, List.length_reverse] at hi
    rw [len] at hx
    obtain ⟨w', hw⟩ : ∃ w', ds[ds.length - 1 - i]? = some w' := ⟨ds[ds.length - 1 - i], List.getElem?_eq_getElem (by omega)⟩
    obtain ⟨x', hx', rx⟩ := td.getD hw
    rw [hx] at hx'
    cases hx'
    exact ⟨.d w', by rw [List.getElem?_map, List.getElem?_reverse hi, hw]; rfl, Gr.rfl', S2, TD.mv g2.2 _ _ rx⟩
  · show us.length ≤ _
    rw [List.length_map, List.length_reverse, len]
    exact Nat.le_refl _

/-! ### targets -/
def gN (i : Nat) : MG := fun w ρ st Q => Q (ρ.set i (some w)) st
theorem xg_name (i : Nat) : XG K ts (gName i) (gN i) := ⟨fun _ _ _ _ _ f h => f _ _ h, fun μ st H σ ρ v w Q S E r h => h μ H _ Gr.rfl' S (RE.set r i E)⟩
def gsN : List W → Ev → Sto → (Ev → Sto → Prop) → Prop := fun ws ρ st Q => match ws with | [] => Q ρ st | _ => False
def gsC (g : MG) (r : List W → Ev → Sto → (Ev → Sto → Prop) → Prop) : List W → Ev → Sto → (Ev → Sto → Prop) → Prop := fun ws ρ st Q => match ws with | w :: ws => g w ρ st fun ρ' s => r ws ρ' s Q | _ => False
theorem xgs_nil : XGs K ts gNil gsN := by
  refine ⟨fun ws ρ st Q Q' f h => ?_, fun μ st H σ ρ v w Q S E r h => ?_⟩
  · cases ws with
    | nil => exact f _ _ h
    | cons => exact h.elim
  · cases w with
    | nil => cases r; exact ⟨rfl, h μ H σ Gr.rfl' S E⟩
    | cons => exact h.elim
theorem xgs_cons {g : TG} {mg : MG} {gs : TGs} {ms : List W → Ev → Sto → (Ev → Sto → Prop) → Prop} (h1 : XG K ts g mg) (h2 : XGs K ts gs ms) : XGs K ts (gCons g gs) (gsC mg ms) := by
  refine ⟨fun ws ρ st Q Q' f h => ?_, fun μ st H σ ρ v w Q S E r h => ?_⟩
  · cases ws with
    | nil => exact h.elim
    | cons w ws => exact h1.mono _ _ _ _ _ (fun ρ s => h2.mono _ _ _ _ _ f) h
  · cases w with
    | nil => exact h.elim
    | cons w ws =>
      cases r with
      | cons a t => exact ⟨_, _, rfl, h1.run μ st H σ ρ _ w _ S E a (h1.mono _ _ _ _ _ (fun ρ' s h μ1 G σ1 g1 S1 E1 => h2.run μ1 s G σ1 ρ' _ ws _ S1 E1 (RWL.mv g1 t) (h2.mono _ _ _ _ _ (fun ρ2 s2 q μ2 J σ2 g2 S2 E2 => q μ2 J σ2 (g1.tr g2) S2 E2) h)) h)⟩
def gT (n : Nat) (ms : List W → Ev → Sto → (Ev → Sto → Prop) → Prop) : MG := fun w ρ st Q => tup1 w fun ds => ds.length = n ∧ ms (ds.map .d) ρ st Q
theorem xg_tup {n : Nat} {gs : TGs} {ms : List W → Ev → Sto → (Ev → Sto → Prop) → Prop} (h : XGs K ts gs ms) : XG K ts (gTup K n gs) (gT n ms) := by
  refine ⟨fun ws ρ st Q Q' f => tup1.imp fun ds q => ⟨q.1, h.mono _ _ _ _ _ f q.2⟩, fun μ st H σ ρ v w Q S E r q => ?_⟩
  obtain ⟨ds, rfl, l, q⟩ := tup1.ex q
  have r : TD K H v (.tuple ds) := r
  cases r with
  | tup e td => exact ⟨_, _, rfl, .inl e, td.len.trans l, h.run μ st H σ ρ _ _ _ S E (TDL.rwl td) q⟩
def gSb (mo mi : ME) : MG := fun w ρ st Q => mo ρ st fun o s1 => mi ρ s1 fun i s2 => ls1 o s2 fun n xs => int1 i fun k => ∃ j, ixN xs.length k = some j ∧ Q ρ (s2.set n (.ls (xs.set j w)))
theorem Paired.set' {α β : Type} {R : α → β → Prop} {x : α} {y : β} (r : R x y) : ∀ {xs : List α} {ys : List β} (n : Nat), Paired R xs ys → Paired R (xs.set n x) (ys.set n y)
  | _, _, _, .nil => .nil
  | _, _, 0, .cons _ t => .cons r t
  | _, _, n + 1, .cons a t => .cons a (Paired.set' r n t)
theorem xg_sub {to ti : TE} {mo mi : ME} (ho : XE K ts to mo) (hi : XE K ts ti mi) : XG K ts (gSub to ti rSetL) (gSb mo mi) := by
  refine ⟨fun w ρ st Q Q' f h => ho.mono _ _ _ _ (fun o s h => hi.mono _ _ _ _ (fun i s => ls1.imp fun n xs => int1.imp fun k ⟨j, e, q⟩ => ⟨j, e, f _ _ q⟩) h) h, fun μ st H σ ρ v w Q S E r h => ?_⟩
  refine ho.thn S E h fun o s1 μ1 G1 x h g1 S1 E1 rx => hi.thn S1 E1 h fun i s2 μ2 G2 y h g2 S2 E2 ry => ?_
  obtain ⟨n, xs, rfl, e, h⟩ := ls1.ex h
  obtain ⟨k, rfl, j, ej, q⟩ := int1.ex h
  cases ry
  obtain ⟨a, us, ea, rfl, e3, r3⟩ := S2.list (RW.mv rx g2) e
  have gg := g1.tr g2
  obtain ⟨S3, k3⟩ := S2.write ea e (Paired.set' (RW.mv r gg) j r3)
  exact ⟨a, us, k, j, rfl, rfl, e3, by rw [RWL.len r3]; exact ej, q μ2 _ σ (gg.tr ⟨List.prefix_refl _, k3⟩) S3 (RE.mv ⟨List.prefix_refl _, k3⟩ E2)⟩

/-! ### comprehensions -/
def wipeE (ρ : Ev) : List Nat → Ev
  | [] => ρ
  | v :: vs => (wipeE ρ vs).set v none
theorem RE.setNone (i : Nat) : ∀ {σ : L2.St} {ρ : Ev}, RE K μ H σ ρ → RE K μ H (σ.set i none) (ρ.set i none) := fun {σ ρ} h => by
  induction h generalizing i with
  | nil => exact .nil
  | cons a t ih =>
    cases i with
    | zero => exact .cons (fun x e => by cases e) t
    | succ i => exact .cons a (ih i)
theorem RE.wipe (h : RE K μ H σ ρ) : ∀ vs : List Nat, RE K μ H (wipe σ vs) (wipeE ρ vs)
  | [] => h
  | v :: vs => RE.setNone v (RE.wipe h vs)
theorem wipe_get (σ : L2.St) (k : Nat) : ∀ vs : List Nat, (wipe σ vs)[k]? = if k ∈ vs then (if k < σ.length then some none else none) else σ[k]?
  | [] => by simp [wipe]
  | v :: vs => by
    unfold wipe
    rw [List.getElem?_set, wipe_length, wipe_get σ k vs]
    by_cases h : v = k
    · subst h
      simp
    · have : k ∈ v :: vs ↔ k ∈ vs := by simp [Ne.symm h]
      simp [h, this]
theorem wipe_in {vs : List Nat} {i : Nat} {v : Option V} (h : i ∈ vs) : wipe ((wipe σ vs).set i v) vs = wipe σ vs := by
  apply List.ext_getElem?
  intro k
  rw [wipe_get, wipe_get, List.length_set, wipe_length]
  by_cases hk : k ∈ vs
  · rw [if_pos hk, if_pos hk]
  · rw [if_neg hk, if_neg hk, List.getElem?_set_ne (show i ≠ k from fun z => hk (z ▸ h)), wipe_get, if_neg hk]
theorem wipe_in2 {vs : List Nat} {i j : Nat} {v w : Option V} (h : i ∈ vs) (h2 : j ∈ vs) : wipe (((wipe σ vs).set i v).set j w) vs = wipe σ vs := by
  apply List.ext_getElem?
  intro k
  rw [wipe_get, wipe_get, List.length_set, List.length_set, wipe_length]
  by_cases hk : k ∈ vs
  · rw [if_pos hk, if_pos hk]
  · rw [if_neg hk, if_neg hk, List.getElem?_set_ne (show j ≠ k from fun z => hk (z ▸ h2)), List.getElem?_set_ne (show i ≠ k from fun z => hk (z ▸ h)), wipe_get, if_neg hk]
/-- what a target stores lies in vs -/
def WpG (g : TG) (vs : List Nat) : Prop := ∀ v σ H Q, g v (wipe σ vs) H Q → g v (wipe σ vs) H fun σ2 H2 => wipe σ2 vs = wipe σ vs ∧ Q σ2 H2
theorem wp_name {vs : List Nat} {i : Nat} (h : i ∈ vs) : WpG (gName i) vs := fun v σ H Q q => ⟨wipe_in h, q⟩
theorem wp_two {vs : List Nat} {i j n : Nat} (h : i ∈ vs) (h2 : j ∈ vs) : WpG (gTup K n (gCons (gName i) (gCons (gName j) gNil))) vs := fun v σ H Q ⟨a, xs, e1, e2, e3, x, r, e4, y, r', e5, e6, q⟩ => ⟨a, xs, e1, e2, e3, x, r, e4, y, r', e5, e6, wipe_in2 h h2, q⟩
def mLc (mi : MI) (mg : MG) (mt : MT) (me : ME) (vs : List Nat) : ME := fun ρ st Q => mi ρ st fun xs gd s1 => ∃ I : Nat → Sto → Prop, I 0 (s1 ++ [.ls []]) ∧ (∀ i s, I i s → gd s) ∧
  (∀ i x s, xs[i]? = some x → I i s → mg x (wipeE ρ vs) s fun ρ2 s2 => mt ρ2 s2 fun b s3 => if b = true then me ρ2 s3 fun y s4 => ∃ acc, s4[s1.length]? = some (.ls acc) ∧ acc.length < 1000000 ∧ I (i + 1) (s4.set s1.length (.ls (acc ++ [y]))) else I (i + 1) s3) ∧
  ∀ s, I xs.length s → Q (.l s1.length) s
def mYes : MT := fun _ st Q => Q true st
theorem xt_yes : XT K ts tYes mYes := ⟨fun _ _ _ _ f h => f _ _ h, fun μ st H σ ρ Q S E h => h μ H Gr.rfl' S⟩
theorem xe_lc {wi : TI} {g : TG} {tt : TT} {te : TE} {vs : List Nat} {mi : MI} {mg : MG} {mt : MT} {me : ME} (hi : XI K ts wi mi) (hg : XG K ts g mg) (hw : WpG g vs) (ht : XT K ts tt mt) (he : XE K ts te me) : XE K ts (tLc wi g tt te vs) (mLc mi mg mt me vs) := by
  refine ⟨fun ρ st Q Q' f h => hi.mono _ _ _ _ (fun xs gd s ⟨I, a, b, c, d⟩ => ⟨I, a, b, c, fun s q => f _ _ (d s q)⟩) h, fun μ st H σ ρ Q S E h => ?_⟩
  refine hi.run μ st H σ ρ _ S E (hi.mono _ _ _ _ (fun xs gd s1 ⟨I, h0, hgd, hs, hd⟩ μ1 G1 J g1 S1 ok D nD => ?_) h)
  have E1 : RE K μ1 G1 σ ρ := RE.mv g1 E
  have gD : Gr μ1 G1 (μ1 ++ [D]) (upd G1 D (.lst [])) := ⟨List.prefix_append _ _, Kt.new nD⟩
  have SD : SR K ts (μ1 ++ [D]) (s1 ++ [.ls []]) (upd G1 D (.lst [])) := S1.alloc nD .nil
  have atD : (μ1 ++ [D])[s1.length]? = some D := by rw [← S1.len]; simp
  refine ⟨fun i m G => m = xs.length - i ∧ i ≤ xs.length ∧ ∃ μ' s, Gr (μ1 ++ [D]) (upd G1 D (.lst [])) μ' G ∧ SR K ts μ' s G ∧ I i s, ⟨_, rfl, Nat.zero_le _, _, _, Gr.rfl', SD, h0⟩, ?_⟩
  rintro i m G ⟨rfl, hle, μ2, s2, g2, S2, hI⟩
  have gg := gD.tr g2
  by_cases hlt : i < xs.length
  · refine .inr ⟨ok.go μ2 G s2 i gg S2 (hgd i s2 hI) hlt, fun G' => ∃ μ' s, Gr (μ1 ++ [D]) (upd G1 D (.lst [])) μ' G' ∧ SR K ts μ' s G' ∧ I (i + 1) s, fun G' ⟨μ', s, a, b, c⟩ => ⟨xs.length - (i + 1), by omega, rfl, hlt, μ', s, a, b, c⟩, fun x H' y => ?_⟩
    obtain ⟨w, hw', g3, S3, rx⟩ := ok.yld μ2 G s2 i x H' gg S2 (hgd i s2 hI) hlt y
    refine hw _ _ _ _ ?_
    refine hg.run μ2 s2 H' (wipe σ vs) (wipeE ρ vs) x w _ S3 (RE.wipe (RE.mv (gg.tr g3) E1) vs) rx (hg.mono _ _ _ _ _ (fun ρ4 s4 h4 μ4 G4 σ4 g4 S4 E4 => ?_) (hs i w s2 hw' hI))
    refine ht.thn S4 E4 h4 fun b s5 μ5 G5 h5 g5 S5 E5 => ?_
    have g25 : Gr (μ1 ++ [D]) (upd G1 D (.lst [])) μ5 G5 := ((g2.tr g3).tr g4).tr g5
    cases b with
    | false => exact ⟨μ5, s5, g25, S5, h5⟩
    | true =>
      rw [if_pos rfl] at h5 ⊢
      refine he.thn S5 E5 h5 fun y6 s6 μ6 G6 v6 ⟨acc, e6, l6, h6⟩ g6 S6 E6 r6 => ?_
      have g26 := g25.tr g6
      have at6 : μ6[s1.length]? = some D := pre_get g26.1 atD
      obtain ⟨us, hD, rD⟩ := S6.ob _ D _ at6 e6
      obtain ⟨S7, k7⟩ := S6.write at6 e6 (Paired.app' rD (.cons r6 .nil))
      exact ⟨us, hD, by rw [RWL.len rD, sizeLine_eq]; omega, μ6, _, g26.tr ⟨List.prefix_refl _, k7⟩, S7, h6⟩
  · have e : i = xs.length := by omega
    subst e
    exact .inl ⟨ok.stop μ2 G s2 gg S2 (hgd _ s2 hI), hd s2 hI μ2 G (.ref D) (g1.tr gg) S2 ⟨D, pre_get g2.1 atD, rfl⟩⟩

/-! ### statements -/
structure WE where
  nx : Ev → Sto → Prop
  rt : WQ
  bk : Ev → Sto → Prop := fun _ _ => False
  ct : Ev → Sto → Prop := fun _ _ => False
abbrev MS := Ev → Sto → WE → Prop
def WE.le (a b : WE) : Prop := (∀ ρ s, a.nx ρ s → b.nx ρ s) ∧ (∀ w s, a.rt w s → b.rt w s) ∧ (∀ ρ s, a.bk ρ s → b.bk ρ s) ∧ (∀ ρ s, a.ct ρ s → b.ct ρ s)
/-- behind a statement, from a relation of the ends -/
structure EndR (K : PySem.W.Frag) (ts μ : List Addr) (H : Hp) (E : WE) (D : Ends) : Prop where
  nx : ∀ ρ s μ' G σ, E.nx ρ s → Gr μ H μ' G → SR K ts μ' s G → RE K μ' G σ ρ → D.nx σ G
  rt : ∀ w s μ' G v, E.rt w s → Gr μ H μ' G → SR K ts μ' s G → RW K μ' G v w → D.rt v G
  bk : ∀ ρ s μ' G σ, E.bk ρ s → Gr μ H μ' G → SR K ts μ' s G → RE K μ' G σ ρ → D.bk σ G
  ct : ∀ ρ s μ' G σ, E.ct ρ s → Gr μ H μ' G → SR K ts μ' s G → RE K μ' G σ ρ → D.ct σ G
theorem EndR.up {E : WE} {D : Ends} (h : EndR K ts μ H E D) (g : Gr μ H μ' G) : EndR K ts μ' G E D :=
  ⟨fun ρ s μ2 J σ q g2 => h.nx ρ s μ2 J σ q (g.tr g2), fun ρ s μ2 J σ q g2 => h.rt ρ s μ2 J σ q (g.tr g2), fun ρ s μ2 J σ q g2 => h.bk ρ s μ2 J σ q (g.tr g2), fun ρ s μ2 J σ q g2 => h.ct ρ s μ2 J σ q (g.tr g2)⟩
structure XS (K : PySem.W.Frag) (ts : List Addr) (t : TS) (m : MS) : Prop where
  mono : ∀ ρ st E E', WE.le E E' → m ρ st E → m ρ st E'
  run : ∀ μ st H σ ρ E D, SR K ts μ st H → RE K μ H σ ρ → EndR K ts μ H E D → m ρ st E → t D σ H
def sNext : MS := fun ρ st E => E.nx ρ st
theorem xss_nil : XS K ts tNext sNext := ⟨fun _ _ _ _ f h => f.1 _ _ h, fun μ st H σ ρ E D S R e h => e.nx _ _ μ H σ h Gr.rfl' S R⟩
def sSeq (a b : MS) : MS := fun ρ st E => a ρ st { E with nx := fun ρ' s' => b ρ' s' E }
theorem xss_cons {t u : TS} {a b : MS} (h1 : XS K ts t a) (h2 : XS K ts u b) : XS K ts (tSeq t u) (sSeq a b) := by
  refine ⟨fun ρ st E E' f h => h1.mono ρ st { E with nx := fun ρ' s' => b ρ' s' E } _ ⟨fun ρ s => h2.mono _ _ _ _ f, f.2.1, f.2.2.1, f.2.2.2⟩ h, fun μ st H σ ρ E D S R e h => ?_⟩
  exact h1.run μ st H σ ρ { E with nx := fun ρ' s' => b ρ' s' E } _ S R ⟨fun ρ s μ' G σ q g S' R' => h2.run μ' s G σ ρ E D S' R' (e.up g) q, e.rt, e.bk, e.ct⟩ h
theorem xss_one {t : TS} {a : MS} (h : XS K ts t a) : XS K ts t a := h
def sBk : MS := fun ρ st E => E.bk ρ st
def sCt : MS := fun ρ st E => E.ct ρ st
theorem xs_break : XS K ts tBreak sBk := ⟨fun _ _ _ _ f h => f.2.2.1 _ _ h, fun μ st H σ ρ E D S R e h => e.bk _ _ μ H σ h Gr.rfl' S R⟩
theorem xs_continue : XS K ts tCont sCt := ⟨fun _ _ _ _ f h => f.2.2.2 _ _ h, fun μ st H σ ρ E D S R e h => e.ct _ _ μ H σ h Gr.rfl' S R⟩
def sDrop (m : ME) : MS := fun ρ st E => m ρ st fun _ s => E.nx ρ s
theorem xs_expr (h : XE K ts t m) : XS K ts (tDrop t) (sDrop m) :=
  ⟨fun ρ st E E' f q => h.mono _ _ _ _ (fun w s => f.1 _ _) q, fun μ st H σ ρ E D S R e q => h.thn S R q fun w s μ1 G v h1 g S1 R1 _ => e.nx _ _ μ1 G σ h1 g S1 R1⟩
def sRet (m : ME) : MS := fun ρ st E => m ρ st fun w s => E.rt w s
theorem xs_ret (h : XE K ts t m) : XS K ts (tRet t) (sRet m) :=
  ⟨fun ρ st E E' f q => h.mono _ _ _ _ (fun w s => f.2.1 _ _) q, fun μ st H σ ρ E D S R e q => h.thn S R q fun w s μ1 G v h1 g S1 R1 rv => e.rt _ _ μ1 G v h1 g S1 rv⟩
def sIf (c : MT) (a b : MS) : MS := fun ρ st E => c ρ st fun k s => if k = true then a ρ s E else b ρ s E
theorem xs_if {c : TT} {t u : TS} {mc : MT} {a b : MS} (hc : XT K ts c mc) (h1 : XS K ts t a) (h2 : XS K ts u b) : XS K ts (tIfS c t u) (sIf mc a b) := by
  refine ⟨fun ρ st E E' f q => hc.mono _ _ _ _ (fun k s q => ?_) q, fun μ st H σ ρ E D S R e q => hc.thn S R q fun k s μ1 G h g S1 R1 => ?_⟩
  · cases k with
    | true => exact h1.mono _ _ _ _ f q
    | false => exact h2.mono _ _ _ _ f q
  · cases k with
    | true => exact h1.run μ1 s G σ ρ E D S1 R1 (e.up g) h
    | false => exact h2.run μ1 s G σ ρ E D S1 R1 (e.up g) h
def sNever : MS := fun _ _ _ => False
theorem xs_never : XS K ts tNever sNever := ⟨fun _ _ _ _ _ h => h.elim, fun _ _ _ _ _ _ _ _ _ _ h => h.elim⟩
def sAsg (m : ME) (g : MG) : MS := fun ρ st E => m ρ st fun w s => g w ρ s E.nx
theorem xs_asg {g : TG} {mg : MG} (h : XE K ts t m) (hg : XG K ts g mg) : XS K ts (tAsg t g) (sAsg m mg) :=
  ⟨fun ρ st E E' f q => h.mono _ _ _ _ (fun w s => hg.mono _ _ _ _ _ f.1) q, fun μ st H σ ρ E D S R e q => h.thn S R q fun w s μ1 G v h1 g1 S1 R1 rv =>
    hg.run μ1 s G σ ρ v w _ S1 R1 rv (hg.mono _ _ _ _ _ (fun ρ' s' h μ2 J σ2 g2 S2 R2 => e.nx _ _ μ2 J σ2 h (g1.tr g2) S2 R2) h1)⟩
def sPar (i j : Nat) (a : MA) : MS := fun ρ st E => a ρ st fun ws s => two2 ws fun w u => E.nx ((ρ.set i (some w)).set j (some u)) s
theorem xs_par {i j : Nat} {tr : TA} {a : MA} (h : XA K ts tr a) : XS K ts (tPar i j tr) (sPar i j a) := by
  refine ⟨fun ρ st E E' f q => h.mono _ _ _ _ (fun w s => two2.imp fun w u => f.1 _ _) q, fun μ st H σ ρ E D S R e q => h.thn S R q fun ws s μ1 G vs h1 g S1 R1 rv => ?_⟩
  obtain ⟨w, u, rfl, q⟩ := two2.ex h1
  obtain ⟨v, x, rfl, r1, r2⟩ := RWL.two rv
  exact ⟨v, x, rfl, e.nx _ _ μ1 G _ q g S1 (RE.set r2 j (RE.set r1 i R1))⟩
def sPar3 (i j l : Nat) (a : MA) : MS := fun ρ st E => a ρ st fun ws s => match ws with | [w, u, y] => E.nx (((ρ.set i (some w)).set j (some u)).set l (some y)) s | _ => False
theorem xs_par3 {i j l : Nat} {tr : TA} {a : MA} (h : XA K ts tr a) : XS K ts (tPar3 i j l tr) (sPar3 i j l a) := by
  refine ⟨fun ρ st E E' f q => h.mono _ _ _ _ (fun w s q => ?_) q, fun μ st H σ ρ E D S R e q => h.thn S R q fun ws s μ1 G vs h1 g S1 R1 rv => ?_⟩
  · split at q
    · exact f.1 _ _ q
    · exact q.elim
  · split at h1
    · cases rv with
      | cons r1 rv =>
        obtain ⟨x, y, rfl, r2, r3⟩ := RWL.two rv
        exact ⟨_, x, y, rfl, e.nx _ _ μ1 G _ h1 g S1 (RE.set r3 l (RE.set r2 j (RE.set r1 i R1)))⟩
    · exact h1.elim
def sFor (mi : MI) (mg : MG) (mb : MS) : MS := fun ρ st E => mi ρ st fun xs gd s1 => ∃ I : Nat → Ev → Sto → Prop, I 0 ρ s1 ∧ (∀ i ρ s, I i ρ s → gd s) ∧
  (∀ i x ρ s, xs[i]? = some x → I i ρ s → mg x ρ s fun ρ2 s2 => mb ρ2 s2 { nx := I (i + 1), ct := I (i + 1), bk := E.nx, rt := E.rt }) ∧ ∀ ρ s, I xs.length ρ s → E.nx ρ s
theorem xs_for {wi : TI} {g : TG} {tb : TS} {mi : MI} {mg : MG} {mb : MS} (hi : XI K ts wi mi) (hg : XG K ts g mg) (hb : XS K ts tb mb) : XS K ts (tFor wi g tb) (sFor mi mg mb) := by
  refine ⟨fun ρ st E E' f h => hi.mono _ _ _ _ (fun xs gd s ⟨I, a, b, c, d⟩ => ⟨I, a, b, fun i x ρ s e q => hg.mono _ _ _ _ _ (fun ρ s => hb.mono ρ s { nx := I (i + 1), ct := I (i + 1), bk := E.nx, rt := E.rt } _ ⟨fun _ _ h => h, f.2.1, f.1, fun _ _ h => h⟩) (c i x ρ s e q), fun ρ s q => f.1 _ _ (d ρ s q)⟩) h, fun μ st H σ ρ E D S R e h => ?_⟩
  refine hi.run μ st H σ ρ _ S R (hi.mono _ _ _ _ (fun xs gd s1 ⟨I, h0, hgd, hs, hd⟩ μ1 G1 J g1 S1 ok => ?_) h)
  refine ⟨fun i m σ G => m = xs.length - i ∧ i ≤ xs.length ∧ ∃ μ' s ρ, Gr μ1 G1 μ' G ∧ SR K ts μ' s G ∧ RE K μ' G σ ρ ∧ I i ρ s, ⟨_, rfl, Nat.zero_le _, _, _, _, Gr.rfl', S1, RE.mv g1 R, h0⟩, ?_⟩
  rintro i m σ2 G ⟨rfl, hle, μ2, s2, ρ2, g2, S2, R2, hI⟩
  by_cases hlt : i < xs.length
  · refine .inr ⟨ok.go μ2 G s2 i g2 S2 (hgd i _ s2 hI) hlt, fun σ' G' => ∃ μ' s ρ, Gr μ1 G1 μ' G' ∧ SR K ts μ' s G' ∧ RE K μ' G' σ' ρ ∧ I (i + 1) ρ s, fun σ' G' ⟨μ', s, ρ, a, b, c, d⟩ => ⟨xs.length - (i + 1), by omega, rfl, hlt, μ', s, ρ, a, b, c, d⟩, fun x H' y => ?_⟩
    obtain ⟨w, hw', g3, S3, rx⟩ := ok.yld μ2 G s2 i x H' g2 S2 (hgd i _ s2 hI) hlt y
    refine hg.run μ2 s2 H' σ2 ρ2 x w _ S3 (RE.mv g3 R2) rx (hg.mono _ _ _ _ _ (fun ρ4 s4 h4 μ4 G4 σ4 g4 S4 E4 => ?_) (hs i w ρ2 s2 hw' hI))
    have g14 := (g2.tr g3).tr g4
    refine hb.run μ4 s4 G4 σ4 ρ4 { nx := I (i + 1), ct := I (i + 1), bk := E.nx, rt := E.rt } _ S4 E4 ⟨fun ρ s μ' G σ q g S' R' => ⟨μ', s, ρ, g14.tr g, S', R', q⟩, fun w s μ' G v q g S' r => e.rt w s μ' G v q (g1.tr (g14.tr g)) S' r, fun ρ s μ' G σ q g S' R' => e.nx ρ s μ' G σ q (g1.tr (g14.tr g)) S' R', fun ρ s μ' G σ q g S' R' => ⟨μ', s, ρ, g14.tr g, S', R', q⟩⟩ h4
  · have el : i = xs.length := by omega
    subst el
    exact .inl ⟨ok.stop μ2 G s2 g2 S2 (hgd _ _ s2 hI), e.nx _ _ μ2 G σ2 (hd _ _ hI) (g1.tr g2) S2 R2⟩
def sWhile (c : MT) (mb : MS) : MS := fun ρ st E => ∃ I : Nat → Ev → Sto → Prop, (∃ n, I n ρ st) ∧ ∀ n ρ s, I n ρ s → c ρ s fun b s1 => if b = true then mb ρ s1 { nx := fun ρ' s' => ∃ k, k < n ∧ I k ρ' s', ct := fun ρ' s' => ∃ k, k < n ∧ I k ρ' s', bk := E.nx, rt := E.rt } else E.nx ρ s1
theorem xs_while {c : TT} {tb : TS} {mc : MT} {mb : MS} (hc : XT K ts c mc) (hb : XS K ts tb mb) : XS K ts (tWhile c tb) (sWhile mc mb) := by
  refine ⟨fun ρ st E E' f ⟨I, a, b⟩ => ⟨I, a, fun n ρ s q => hc.mono _ _ _ _ (fun k s1 q => ?_) (b n ρ s q)⟩, fun μ st H σ ρ E D S R e h => ?_⟩
  · cases k with
    | true => exact hb.mono _ _ { nx := fun ρ' s' => ∃ k, k < n ∧ I k ρ' s', ct := fun ρ' s' => ∃ k, k < n ∧ I k ρ' s', bk := E.nx, rt := E.rt } _ ⟨fun _ _ h => h, f.2.1, f.1, fun _ _ h => h⟩ q
    | false => exact f.1 _ _ q
  · obtain ⟨I, ⟨n0, h0⟩, hs⟩ := h
    refine ⟨fun n σ G => ∃ μ' s ρ, Gr μ H μ' G ∧ SR K ts μ' s G ∧ RE K μ' G σ ρ ∧ I n ρ s, ⟨n0, μ, st, ρ, Gr.rfl', S, R, h0⟩, ?_⟩
    rintro n σ2 G ⟨μ2, s2, ρ2, g2, S2, R2, hI⟩
    refine hc.thn S2 R2 (hs n ρ2 s2 hI) fun b s3 μ3 G3 h3 g3 S3 R3 => ?_
    have gg := g2.tr g3
    cases b with
    | false => exact e.nx _ _ μ3 G3 σ2 h3 gg S3 R3
    | true =>
      rw [if_pos rfl] at h3 ⊢
      refine ⟨fun σ' G' => ∃ k, k < n ∧ ∃ μ' s ρ, Gr μ H μ' G' ∧ SR K ts μ' s G' ∧ RE K μ' G' σ' ρ ∧ I k ρ s, fun σ' G' ⟨k, l, q⟩ => ⟨k, l, q⟩, ?_⟩
      exact hb.run μ3 s3 G3 σ2 ρ2 { nx := fun ρ' s' => ∃ k, k < n ∧ I k ρ' s', ct := fun ρ' s' => ∃ k, k < n ∧ I k ρ' s', bk := E.nx, rt := E.rt } _ S3 R3 ⟨fun ρ s μ' G σ ⟨k, l, q⟩ g S' R' => ⟨k, l, μ', s, ρ, gg.tr g, S', R', q⟩, fun w s μ' G v q g S' r => e.rt w s μ' G v q (gg.tr g) S' r, fun ρ s μ' G σ q g S' R' => e.nx ρ s μ' G σ q (gg.tr g) S' R', fun ρ s μ' G σ ⟨k, l, q⟩ g S' R' => ⟨k, l, μ', s, ρ, gg.tr g, S', R', q⟩⟩ h3

/-! ### methods of lists -/
structure XM (K : PySem.W.Frag) (ts : List Addr) (r : V → List V → Hp → VK → Prop) (c : Nat → List W → Sto → WQ → Prop) : Prop where
  mono : ∀ n ws st Q Q', (∀ w s, Q w s → Q' w s) → c n ws st Q → c n ws st Q'
  run : ∀ μ st H v vs n ws Q, SR K ts μ st H → RW K μ H v (.l n) → RWL K μ H vs ws → c n ws st (Aft K ts μ H Q) → r v vs H Q
def mBM (c : Nat → List W → Sto → WQ → Prop) (mo : ME) (a : MA) : ME := fun ρ st Q => mo ρ st fun w s => ls1 w s fun n _ => a ρ s fun ws s2 => c n ws s2 Q
theorem xe_bm {r : V → List V → Hp → VK → Prop} {c : Nat → List W → Sto → WQ → Prop} {to : TE} {mo : ME} {tr : TA} {a : MA} (hm : XM K ts r c) (ho : XE K ts to mo) (ha : XA K ts tr a) : XE K ts (tBM K "list" r to tr) (mBM c mo a) := by
  refine ⟨fun ρ st Q Q' f h => ho.mono _ _ _ _ (fun w s => ls1.imp fun n xs h => ha.mono _ _ _ _ (fun ws s => hm.mono _ _ _ _ _ f) h) h, fun μ st H σ ρ Q S E h => ho.thn S E h fun w s1 μ1 G1 v h1 g1 S1 E1 rv => ?_⟩
  obtain ⟨n, xs, rfl, e, h2⟩ := ls1.ex h1
  obtain ⟨a, us, ea, rfl, e3, r3⟩ := S1.list rv e
  refine ⟨.inl ⟨rfl, us, .inl (.inl e3)⟩, ha.thn S1 E1 h2 fun ws s2 μ2 G2 vs h3 g2 S2 E2 rvs => ?_⟩
  exact hm.run μ2 s2 G2 _ vs n ws Q S2 (RW.mv rv g2) rvs (hm.mono _ _ _ _ _ (fun w s h => h.up (g1.tr g2)) h3)
def mBM0 (c : Nat → List W → Sto → WQ → Prop) (mo : ME) : ME := fun ρ st Q => mo ρ st fun w s => ls1 w s fun n _ => c n [] s Q
theorem xe_bm0 {r : V → List V → Hp → VK → Prop} {c : Nat → List W → Sto → WQ → Prop} {to : TE} {mo : ME} (hm : XM K ts r c) (ho : XE K ts to mo) : XE K ts (tBM0 K "list" r to) (mBM0 c mo) := by
  refine ⟨fun ρ st Q Q' f h => ho.mono _ _ _ _ (fun w s => ls1.imp fun n xs h => hm.mono _ _ _ _ _ f h) h, fun μ st H σ ρ Q S E h => ho.thn S E h fun w s1 μ1 G1 v h1 g1 S1 E1 rv => ?_⟩
  obtain ⟨n, xs, rfl, e, h2⟩ := ls1.ex h1
  obtain ⟨a, us, ea, rfl, e3, r3⟩ := S1.list rv e
  exact ⟨.inl ⟨rfl, us, .inl (.inl e3)⟩, hm.run μ1 s1 G1 _ [] n [] Q S1 ⟨a, ea, rfl⟩ .nil (hm.mono _ _ _ _ _ (fun w s h => h.up g1) h2)⟩
def cApp : Nat → List W → Sto → WQ → Prop := fun n ws st Q => one1 ws fun w => ∃ xs, st[n]? = some (.ls xs) ∧ xs.length < 1000000 ∧ Q (.d .none) (st.set n (.ls (xs ++ [w])))
theorem xm_append : XM K ts rAppend cApp := by
  refine ⟨fun n ws st Q Q' f => one1.imp fun w ⟨xs, e, l, q⟩ => ⟨xs, e, l, f _ _ q⟩, fun μ st H v vs n ws Q S rv rs h => ?_⟩
  obtain ⟨w, rfl, xs, e, l, q⟩ := one1.ex h
  obtain ⟨x, rfl, r⟩ := RWL.one rs
  obtain ⟨a, us, ea, rfl, e3, r3⟩ := S.list rv e
  obtain ⟨S2, k2⟩ := S.write ea e (Paired.app' r3 (.cons r .nil))
  exact ⟨a, us, x, rfl, rfl, e3, by rw [RWL.len r3, sizeLine_eq]; omega, q μ _ _ ⟨List.prefix_refl _, k2⟩ S2 .non⟩
def cPop : Nat → List W → Sto → WQ → Prop := fun n ws st Q => ∃ xs x, st[n]? = some (.ls xs) ∧ xs[xs.length - 1]? = some x ∧ Q x (st.set n (.ls xs.dropLast))
theorem Paired.dl {α β : Type} {R : α → β → Prop} {xs : List α} {ys : List β} (h : Paired R xs ys) : Paired R xs.dropLast ys.dropLast := by
  rw [List.dropLast_eq_take, List.dropLast_eq_take, Paired.length h]
  exact Paired.take' _ h
theorem xm_pop : XM K ts rPop (fun n ws st Q => ws = [] ∧ cPop n ws st Q) := by
  refine ⟨fun n ws st Q Q' f ⟨e0, xs, x, e, l, q⟩ => ⟨e0, xs, x, e, l, f _ _ q⟩, fun μ st H v vs n ws Q S rv rs h => ?_⟩
  obtain ⟨rfl, xs, x, e, l, q⟩ := h
  cases rs
  obtain ⟨a, us, ea, rfl, e3, r3⟩ := S.list rv e
  obtain ⟨S2, k2⟩ := S.write ea e (Paired.dl r3)
  obtain ⟨y, ey, ry⟩ := get_ex r3 l
  rw [← RWL.len r3] at ey
  exact ⟨a, us, y, rfl, rfl, e3, ey, q μ _ _ ⟨List.prefix_refl _, k2⟩ S2 (RW.mv ry ⟨List.prefix_refl _, k2⟩)⟩
def cPopAt : Nat → List W → Sto → WQ → Prop := fun n ws st Q => one1 ws fun w => int1 w fun i => ∃ xs k x, st[n]? = some (.ls xs) ∧ (-(2 ^ 63) ≤ i ∧ i < 2 ^ 63) ∧ ixN xs.length i = some k ∧ xs[k]? = some x ∧ Q x (st.set n (.ls (xs.eraseIdx k)))
theorem Paired.er {α β : Type} {R : α → β → Prop} : ∀ {xs : List α} {ys : List β} (n : Nat), Paired R xs ys → Paired R (xs.eraseIdx n) (ys.eraseIdx n)
  | _, _, _, .nil => .nil
  | _, _, 0, .cons _ t => t
  | _, _, n + 1, .cons a t => .cons a (Paired.er n t)
theorem xm_popAt : XM K ts rPopAt cPopAt := by
  refine ⟨fun n ws st Q Q' f => one1.imp fun w => int1.imp fun i ⟨xs, k, x, e, l, e1, e2, q⟩ => ⟨xs, k, x, e, l, e1, e2, f _ _ q⟩, fun μ st H v vs n ws Q S rv rs h => ?_⟩
  obtain ⟨w, rfl, h1⟩ := one1.ex h
  obtain ⟨i, rfl, xs, k, x, e, l, ek, ex, q⟩ := int1.ex h1
  obtain ⟨y, rfl, r⟩ := RWL.one rs
  cases r
  obtain ⟨a, us, ea, rfl, e3, r3⟩ := S.list rv e
  obtain ⟨S2, k2⟩ := S.write ea e (Paired.er k r3)
  obtain ⟨y, ey, ry⟩ := get_ex r3 ex
  exact ⟨a, us, i, k, y, rfl, rfl, e3, l.1, l.2, by rw [RWL.len r3]; exact (ixN_seq ek).1, ey, q μ _ _ ⟨List.prefix_refl _, k2⟩ S2 (RW.mv ry ⟨List.prefix_refl _, k2⟩)⟩
end

/-! ### defs -/
/-- what a def does: its body's words, at its start, what was made on the way let go -/
def Does (m : MS) (n k : Nat) (F : List W → Sto → WQ → Prop) : Prop := ∀ ws st Q, F ws st Q → ws.length = n ∧
  m (ws.map some ++ List.replicate k none) st { nx := fun _ s => ∃ s0 g, s = s0 ++ g ∧ Gcd st s0 ∧ Q (.d .none) s0, rt := fun w s => ∃ s0 g, s = s0 ++ g ∧ Gcd st s0 ∧ okW s0.length w ∧ Q w s0 }
section
variable {P : Program} {w : World} {K : PySem.W.Frag} {mg : Str → Option Value} {base : Heap} {ts : List Addr}
theorem RE.start {μ : List Addr} {H : Hp} : ∀ {vs : List V} {ws : List W} (k : Nat), RWL K μ H vs ws → RE K μ H (vs.map some ++ List.replicate k none) (ws.map some ++ List.replicate k none)
  | _, _, k, .nil => by
    induction k with
    | zero => exact .nil
    | succ k ih => exact .cons (fun x e => by cases e) ih
  | _, _, k, .cons a t => .cons (fun x e => ⟨_, rfl, by cases e; exact a⟩) (RE.start k t)
theorem spS_run {F : List W → Sto → WQ → Prop} {m : MS} {t : TS} {N : List Str} {vs : List V} {H : Hp} {Q : VK} {E : XK} {n : Nat} (hm : XS K ts t m) (hd : Does m n (N.length - n) F) (h : spS K ts F vs H Q E) : vs.length = n ∧ t { nx := fun _ G => Q .non G, rt := Q } (L2.start N vs) H := by
  obtain ⟨μ, st, ws, S, r, q⟩ := h
  obtain ⟨l, q⟩ := hd ws st _ q
  have lv : vs.length = n := (RWL.len r).trans l
  refine ⟨lv, ?_⟩
  unfold L2.start
  rw [lv]
  refine hm.run μ st H _ _ { nx := fun _ s => ∃ s0 g, s = s0 ++ g ∧ Gcd st s0 ∧ Aft K ts μ H Q (.d .none) s0, rt := fun w s => ∃ s0 g, s = s0 ++ g ∧ Gcd st s0 ∧ okW s0.length w ∧ Aft K ts μ H Q w s0 } _ S (RE.start _ r) ⟨fun ρ s μ' G σ ⟨s0, g, e, gc, q⟩ g1 S1 _ => ?_, fun w s μ' G v ⟨s0, g, e, gc, ok, q⟩ g1 S1 rv => ?_, fun _ _ _ _ _ z => z.elim, fun _ _ _ _ _ z => z.elim⟩ q
  · obtain ⟨S2, g2⟩ := SR.drop S S1 g1 e gc
    exact q _ _ _ g2 S2 .non
  · obtain ⟨S2, g2⟩ := SR.drop S S1 g1 e gc
    exact q _ _ v g2 S2 (RW.tk rv ok)
/-- THE RULE: a def by its body's term and what the term does to values -/
theorem fl_def {x qual : Str} {sm : Stmt} {f : Addr} {fd : FuncData} {N ps : List Str} {k : Nat} {F : List W → Sto → WQ → Prop} {m : MS} (Fn : Fun K x qual sm f fd) (S : FnScope N ps (defScope sm)) (hd : Does m ps.length (N.length - ps.length) F)
    (hbody : ∀ (cdv : Value) (A : Around) (outer : List Env) (s : Shared) (H : Hp) (E : XK), Room k (A.deeper (envOfC qual (defScope sm) s.heap.objs.size f cdv)) →
      ∃ t, PSs (cxOf CX0 P w K mg base N qual (defScope sm) f cdv A outer s H E).nox (defBody sm) t ∧ XS K ts t m) : FnOk P w K mg base CX0 (k + 1) f fd ps (spS K ts F) := by
  refine Fn.ok S (fun vs H Q E h => ?_) (fun cdv A outer s H vs Q E hr h => ?_)
  · obtain ⟨μ, st, ws, S, r, q⟩ := h
    exact (RWL.len r).trans (hd ws st _ q).1
  · obtain ⟨t, hp, hm⟩ := hbody cdv A outer s H E hr
    exact ⟨t, hp, (spS_run hm hd h).2⟩
theorem fl_defG {x qual : Str} {sm : Stmt} {f : Addr} {fd : FuncData} {N ps : List Str} {k : Nat} {F : List W → Sto → WQ → Prop} {m : MS} (Fn : Fun K x qual sm f fd) (S : FnScope N ps (defScope sm)) (hd : Does m ps.length (N.length - ps.length) F)
    (hbody : ∀ (cdv : Value) (A : Around) (outer : List Env) (s : Shared) (H : Hp) (E : XK), A.guards = some [] → Room k (A.deeper (envOfC qual (defScope sm) s.heap.objs.size f cdv)) →
      ∃ t, PSs (cxOf CX0 P w K mg base N qual (defScope sm) f cdv A outer s H E).nox (defBody sm) t ∧ XS K ts t m) : FnG P w K mg base CX0 (k + 1) f fd ps (spS K ts F) := by
  refine okG Fn S (fun vs H Q E h => ?_) (fun cdv A outer s H vs Q E hg hr h => ?_)
  · obtain ⟨μ, st, ws, S, r, q⟩ := h
    exact (RWL.len r).trans (hd ws st _ q).1
  · obtain ⟨t, hp, hm⟩ := hbody cdv A outer s H E hg hr
    exact ⟨t, hp, (spS_run hm hd h).2⟩
end
end FL

/-! Own layer, values: short names, calls by keywords, repr, words for the readings. -/
namespace FL
open PySem PySem.Spec PyProof.Rows L2 KL KG GR KV KS KY RT
abbrev oAdd := oI0 fun i j => .int (i + j)
abbrev oSub := oI0 fun i j => .int (i - j)
abbrev oMul := oI CMul fun i j => .int (i * j)
abbrev oFdiv := oI CDiv fun i j => .int (i / j)
abbrev oMod := oI (fun _ j => 0 < j) fun i j => .int (i % j)
abbrev oPow := oI CPow fun i j => .int (i ^ j.toNat)
abbrev oLt := oI0 fun i j => .bool (decide (i < j))
abbrev oLe := oI0 fun i j => .bool (decide (i ≤ j))
abbrev oGt := oI0 fun i j => .bool (decide (j < i))
abbrev oGe := oI0 fun i j => .bool (decide (j ≤ i))
abbrev oEqI := oI0 fun i j => .bool (decide (i = j))
abbrev oNeI := oI0 fun i j => .bool (!decide (i = j))
abbrev oEqS := oS0 fun i j => .bool (decide (i = j))
abbrev oCatS : W → W → Sto → WQ → Prop := fun w u st Q => str1 w fun i => str1 u fun j => i.length + j.length ≤ 1000000 ∧ Q (.d (.str (i ++ j))) st
abbrev mNeg (ma : ME) : ME := fun ρ st Q => ma ρ st fun w s => int1 w fun i => Q (.d (.int (-i))) s
abbrev mNone : MO := fun _ st Q => Q none st
abbrev cAbs := cI1 fun i => if i < 0 then -i else i
abbrev cInt := cI1 fun i => i
abbrev cMax2 := cI2 fun i j => if j > i then j else i
abbrev cMin2 := cI2 fun i j => if j < i then j else i
abbrev cPop0 : Nat → List W → Sto → WQ → Prop := fun n ws st Q => ws = [] ∧ cPop n ws st Q
section
variable {K : PySem.W.Frag} {ts μ μ' : List Addr} {H G : Hp} {st : Sto} {t ta tb tc : TE} {m ma mb mc : ME} {σ : L2.St} {ρ : Ev}
theorem xo_pow : XO K ts (rI CPow fun i j => .int (i ^ j.toNat)) oPow := xo_I fun _ _ _ => .int _
/-- is None -/
def isNo : W → Bool
  | .d .none => true
  | _ => false
def oIsN : W → W → Sto → WQ → Prop := fun w u st Q => isNo u = true ∧ Q (.d (.bool (isNo w))) st
def oNotN : W → W → Sto → WQ → Prop := fun w u st Q => isNo u = true ∧ Q (.d (.bool (!isNo w))) st
theorem RW.isN {v : V} {w : W} (r : RW K μ H v w) : decide (v = .non) = isNo w := by
  cases w with
  | l n => obtain ⟨a, _, rfl⟩ := r; rfl
  | d x => cases x <;> cases r <;> rfl
theorem xo_isN : XO K ts (fun x y H Q => y = .non ∧ Q (.bl (decide (x = .non))) H) oIsN := by
  refine ⟨fun _ _ _ _ _ f q => ⟨q.1, f _ _ q.2⟩, fun μ st H x y w u Q S rx ry h => ?_⟩
  obtain ⟨e, q⟩ := h
  refine ⟨of_decide_eq_true ((RW.isN ry).trans e), ?_⟩
  rw [RW.isN rx]
  exact q μ H _ Gr.rfl' S (.bl _)
theorem xo_notN : XO K ts (fun x y H Q => y = .non ∧ Q (.bl (!decide (x = .non))) H) oNotN := by
  refine ⟨fun _ _ _ _ _ f q => ⟨q.1, f _ _ q.2⟩, fun μ st H x y w u Q S rx ry h => ?_⟩
  obtain ⟨e, q⟩ := h
  refine ⟨of_decide_eq_true ((RW.isN ry).trans e), ?_⟩
  rw [RW.isN rx]
  exact q μ H _ Gr.rfl' S (.bl _)
/-- repr of data -/
def rReprV (K : PySem.W.Frag) : List V → Hp → VK → Prop := fun xs H Q => ∃ v ds, xs = [v] ∧ TD K H v (.tuple ds) ∧ (PyData.tuple ds).showable = true ∧ (PyData.tuple ds).depth ≤ 50 ∧ (PyData.tuple ds).shown.length ≤ 1000000 ∧ Q (.str (PyData.tuple ds).shown) H
theorem TD.reads {X : Cx} {pins : List (Addr × Obj)} {s : Shared} (I : Inv X pins σ H s) (hK : X.K = K) {v : V} {u : Value} {d : PyData} (h : TD K H v d) (r : RelV v u) : ∃ as, Reads s.heap u d as := by
  subst hK
  exact Dp.reads I d v u (TD.dp d v h) r
mutual
theorem TD.nodict : ∀ (d : PyData) (v : V), TD K H v d → d.hasDict = false
  | .none, _, h => rfl
  | .bool _, _, h => rfl
  | .int _, _, h => rfl
  | .str _, _, h => rfl
  | .tuple ds, _, h => by
    cases h with
    | tup e h =>
      show PyData.hasDictAll ds = false
      exact TDL.nodict ds _ h
  | .list ds, _, h => by
    cases h with
    | lst e h =>
      show PyData.hasDictAll ds = false
      exact TDL.nodict ds _ h
  | .dict _, _, h => by cases h
theorem TDL.nodict : ∀ (ds : List PyData) (vs : List V), TDL K H vs ds → PyData.hasDictAll ds = false
  | [], _, h => rfl
  | d :: ds, _, h => by
    cases h with
    | cons h t =>
      show (d.hasDict || PyData.hasDictAll ds) = false
      rw [TD.nodict d _ h, TDL.nodict ds _ t]
      rfl
end
theorem call_reprV {X : Cx} (hg : X.A.guards = some []) (hu : X.A.units + 65 < cLine) : CallR X (.builtin "repr") (rReprV X.K) := by
  intro pins s σ H xs us Q I r h
  obtain ⟨v, ds, rfl, hd, hs, hdp, hl, q⟩ := h
  obtain ⟨u, rfl, ru⟩ := vals1 r
  obtain ⟨as, rd⟩ := TD.reads I rfl hd ru
  cases hd with
  | tup e td =>
    obtain rfl : u = Value.ref _ := ru
    refine repr_of_reads' rd hs (PyData.noDict_hsm (TD.nodict _ _ (.tup e td))) hg (by omega) (fun _ _ e => e) (fun h' w tk k => ?_) (by rw [sizeLine_eq]; omega)
    exact ⟨.str _, H, I.kept (h' := h') (t' := tk) k, ⟨w, rfl⟩, q⟩
def cRepr : List W → Sto → WQ → Prop := fun ws st Q => one1 ws fun w => tup1 w fun ds => (PyData.tuple ds).showable = true ∧ (PyData.tuple ds).depth ≤ 50 ∧ (PyData.tuple ds).shown.length ≤ 1000000 ∧ Q (.d (.str (PyData.tuple ds).shown)) st
theorem xc_repr : XC K ts (rReprV K) cRepr := by
  refine ⟨fun ws st Q Q' f => one1.imp fun w => tup1.imp fun ds q => ⟨q.1, q.2.1, q.2.2.1, f _ _ q.2.2.2⟩, fun μ st H vs ws Q S r h => ?_⟩
  obtain ⟨w, rfl, h1⟩ := one1.ex h
  obtain ⟨v, rfl, r1⟩ := RWL.one r
  obtain ⟨ds, rfl, a, b, c, q⟩ := tup1.ex h1
  exact ⟨v, ds, rfl, r1, a, b, c, q μ H _ Gr.rfl' S (.str _)⟩
/-- a def called by keywords alone: gw puts the values in the signature's order -/
def mCBK (F : List W → Sto → WQ → Prop) (gw : List W → List W) (a : MA) : ME := fun ρ st Q => a ρ st fun ws s => F (gw ws) s Q
theorem xe_callK {F : List W → Sto → WQ → Prop} {E : XK} {tr : TA} {a : MA} {gV : List V → List V → List V} {gw : List W → List W} (hF : MonoF F) (hgw : ∀ μ H vs ws, RWL K μ H vs ws → RWL K μ H (gV [] vs) (gw ws)) (hr : XA K ts tr a) : XE K ts (tCallK0 (spS K ts F) gV E tr) (mCBK F gw a) := by
  refine ⟨fun ρ st Q Q' f h => hr.mono _ _ _ _ (fun w s => hF.mono _ _ _ _ f) h, fun μ st H σ ρ Q S E h => hr.thn S E h fun ws s μ1 G vs h g S1 E1 rx => ?_⟩
  exact ⟨μ1, s, gw ws, S1, hgw μ1 G vs ws rx, hF.mono _ _ _ _ (fun w s h => h.up g) h⟩
end
end FL

/-! Own layer, values: words for comprehensions and loops. -/
namespace FL
open PySem PySem.Spec PyProof.Rows L2 KL KG GR KV KS KY RT
theorem blsD_at {ws : List W} {bs : List Bool} {k : List Bool → Prop} (e : ws = bs.map fun i => .d (.bool i)) (h : k bs) : blsD ws k := by
  rw [e, blsD_map]
  exact h
theorem allD_at {ws : List W} {bs : List PyData} {k : List PyData → Prop} (e : ws = bs.map .d) (h : k bs) : allD ws k := by
  rw [e, allD_map]
  exact h
theorem intsD_at {ws : List W} {bs : List Int} {k : List Int → Prop} (e : ws = bs.map wI) (h : k bs) : intsD ws k := by
  rw [e, intsD_map]
  exact h
theorem strsD_at {ws : List W} {bs : List Str} {k : List Str → Prop} (e : ws = bs.map wS) (h : k bs) : strsD ws k := by
  rw [e, strsD_map]
  exact h
theorem rowsW_at {ws : List W} {bs : List (List Int)} {k : List (List Int) → Prop} (e : ws = bs.map wR) (h : k bs) : rowsW ws k := by
  rw [e, rowsW_map]
  exact h
section
variable {α β : Type} {mi : MI} {mg : MG} {mt : MT} {me : ME} {vs : List Nat} {ρ : Ev} {st : Sto} {Q : WQ}
theorem app_at {o : Ob} : (st ++ [o])[st.length]? = some o := by simp
theorem app_at' {o : Ob} {r : Sto} : (st ++ o :: r)[st.length]? = some o := by simp
theorem app_set {o u : Ob} : (st ++ [o]).set st.length u = st ++ [u] := by simp
theorem app_lt {r : Sto} {n : Nat} {o : Ob} (e : st[n]? = some o) : (st ++ r)[n]? = some o := by
  rw [List.getElem?_append_left (List.getElem?_eq_some_iff.mp e).1]
  exact e
theorem set_lt {r : Sto} {n : Nat} {o u : Ob} (e : st[n]? = some o) : (st ++ r).set n u = st.set n u ++ r := List.set_append_left _ _ (List.getElem?_eq_some_iff.mp e).1
/-- a list made item by item -/
theorem lc_map (emb : α → W) (xs : List α) (keep : α → Bool) (f : α → W) {gd : Sto → Prop} (hi : ∀ R : List W → (Sto → Prop) → Sto → Prop, R (xs.map emb) gd st → mi ρ st R) (hgd : ∀ acc, gd (st ++ [.ls acc])) (len : xs.length ≤ 1000000)
    (hs : ∀ x ∈ xs, ∀ (acc : List W) (Pk : W → Sto → Prop) (Pn : Sto → Prop), (keep x = true → Pk (f x) (st ++ [.ls acc])) → (keep x = false → Pn (st ++ [.ls acc])) → mg (emb x) (wipeE ρ vs) (st ++ [.ls acc]) fun ρ2 s2 => mt ρ2 s2 fun b s3 => if b = true then me ρ2 s3 Pk else Pn s3)
    (q : Q (.l st.length) (st ++ [.ls ((xs.filter keep).map f)])) : mLc mi mg mt me vs ρ st Q := by
  refine hi _ ⟨fun i s => s = st ++ [.ls (((xs.take i).filter keep).map f)], rfl, fun i s e => by rw [e]; exact hgd _, fun i x s hx e => ?_, fun s e => ?_⟩
  · subst e
    rw [List.getElem?_map] at hx
    obtain ⟨a, ha, rfl⟩ : ∃ a, xs[i]? = some a ∧ x = emb a := by
      cases z : xs[i]? with
      | none => rw [z] at hx; cases hx
      | some a => rw [z] at hx; exact ⟨a, rfl, (Option.some.inj hx).symm⟩
    have nxt : ((xs.take (i + 1)).filter keep).map f = ((xs.take i).filter keep).map f ++ (if keep a = true then [f a] else []) := by
      rw [List.take_add_one, ha, List.filter_append, List.map_append]
      refine congrArg _ ?_
      show (List.filter keep [a]).map f = _
      cases z : keep a <;> simp [z]
    refine hs a (List.mem_of_getElem? ha) _ _ _ (fun k => ⟨_, app_at, ?_, ?_⟩) (fun k => ?_)
    · rw [List.length_map]
      have h1 := List.length_filter_le keep (xs.take i)
      have h2 := (List.getElem?_eq_some_iff.mp ha).1
      rw [List.length_take] at h1
      omega
    · show _ = st ++ [.ls (((xs.take (i + 1)).filter keep).map f)]
      rw [app_set, nxt, if_pos k]
    · show _ = st ++ [.ls (((xs.take (i + 1)).filter keep).map f)]
      rw [nxt, k]
      simp
  · rw [List.length_map, List.take_length] at e
    rw [e]
    exact q
/-- all([..]), any([..]) of tests -/
theorem lc_all (emb : α → W) (xs : List α) (p : α → Bool) {gd : Sto → Prop} (hi : ∀ R : List W → (Sto → Prop) → Sto → Prop, R (xs.map emb) gd st → mi ρ st R) (hgd : ∀ acc, gd (st ++ [.ls acc])) (len : xs.length ≤ 1000000)
    (hs : ∀ x ∈ xs, ∀ (acc : List W) (Pk : W → Sto → Prop), Pk (.d (.bool (p x))) (st ++ [.ls acc]) → mg (emb x) (wipeE ρ vs) (st ++ [.ls acc]) fun ρ2 s2 => me ρ2 s2 Pk)
    (q : ∀ o, Q (.d (.bool (xs.all p))) (st ++ [o])) : mCB cAll (aCons (mLc mi mg mYes me vs) aNil) ρ st Q := by
  show mLc mi mg mYes me vs ρ st fun w s => cAll [w] s Q
  refine lc_map emb xs (fun _ => true) (fun x => .d (.bool (p x))) hi hgd len (fun x hx acc Pk Pn h _ => hs x hx acc Pk (h rfl)) ?_
  refine ⟨_, app_at, ?_⟩
  have e : ((xs.filter fun _ => true).map fun x => W.d (.bool (p x))) = (xs.map p).map fun i => W.d (.bool i) := by
    rw [List.filter_eq_self.mpr (fun _ _ => rfl), List.map_map]
    rfl
  exact blsD_at e (by rw [List.all_map]; exact q _)
theorem lc_any (emb : α → W) (xs : List α) (p : α → Bool) {gd : Sto → Prop} (hi : ∀ R : List W → (Sto → Prop) → Sto → Prop, R (xs.map emb) gd st → mi ρ st R) (hgd : ∀ acc, gd (st ++ [.ls acc])) (len : xs.length ≤ 1000000)
    (hs : ∀ x ∈ xs, ∀ (acc : List W) (Pk : W → Sto → Prop), Pk (.d (.bool (p x))) (st ++ [.ls acc]) → mg (emb x) (wipeE ρ vs) (st ++ [.ls acc]) fun ρ2 s2 => me ρ2 s2 Pk)
    (q : ∀ o, Q (.d (.bool (xs.any p))) (st ++ [o])) : mCB cAny (aCons (mLc mi mg mYes me vs) aNil) ρ st Q := by
  show mLc mi mg mYes me vs ρ st fun w s => cAny [w] s Q
  refine lc_map emb xs (fun _ => true) (fun x => .d (.bool (p x))) hi hgd len (fun x hx acc Pk Pn h _ => hs x hx acc Pk (h rfl)) ?_
  refine ⟨_, app_at, ?_⟩
  have e : ((xs.filter fun _ => true).map fun x => W.d (.bool (p x))) = (xs.map p).map fun i => W.d (.bool i) := by
    rw [List.filter_eq_self.mpr (fun _ _ => rfl), List.map_map]
    rfl
  exact blsD_at e (by rw [List.any_map]; exact q _)
theorem gc_all (emb : α → W) (xs : List α) (p : α → Bool) {gd : Sto → Prop} (hi : ∀ R : List W → (Sto → Prop) → Sto → Prop, R (xs.map emb) gd st → mi ρ st R) (hgd : ∀ acc, gd (st ++ [.ls acc])) (len : xs.length ≤ 1000000)
    (hs : ∀ x ∈ xs, ∀ (acc : List W) (Pk : W → Sto → Prop), Pk (.d (.bool (p x))) (st ++ [.ls acc]) → mg (emb x) (wipeE ρ vs) (st ++ [.ls acc]) fun ρ2 s2 => me ρ2 s2 Pk)
    (q : Q (.d (.bool (xs.all p))) st) : mGc (mCB cAll (aCons (mLc mi mg mYes me vs) aNil)) ρ st Q :=
  lc_all emb xs p hi hgd len hs fun o => ⟨st, [o], rfl, Gcd.rfl', trivial, q⟩
theorem gc_any (emb : α → W) (xs : List α) (p : α → Bool) {gd : Sto → Prop} (hi : ∀ R : List W → (Sto → Prop) → Sto → Prop, R (xs.map emb) gd st → mi ρ st R) (hgd : ∀ acc, gd (st ++ [.ls acc])) (len : xs.length ≤ 1000000)
    (hs : ∀ x ∈ xs, ∀ (acc : List W) (Pk : W → Sto → Prop), Pk (.d (.bool (p x))) (st ++ [.ls acc]) → mg (emb x) (wipeE ρ vs) (st ++ [.ls acc]) fun ρ2 s2 => me ρ2 s2 Pk)
    (q : Q (.d (.bool (xs.any p))) st) : mGc (mCB cAny (aCons (mLc mi mg mYes me vs) aNil)) ρ st Q :=
  lc_any emb xs p hi hgd len hs fun o => ⟨st, [o], rfl, Gcd.rfl', trivial, q⟩
/-- tuple([..]) of data -/
theorem lc_tupd (emb : α → W) (xs : List α) (keep : α → Bool) (f : α → PyData) {gd : Sto → Prop} (hi : ∀ R : List W → (Sto → Prop) → Sto → Prop, R (xs.map emb) gd st → mi ρ st R) (hgd : ∀ acc, gd (st ++ [.ls acc])) (len : xs.length ≤ 1000000)
    (hs : ∀ x ∈ xs, ∀ (acc : List W) (Pk : W → Sto → Prop) (Pn : Sto → Prop), (keep x = true → Pk (.d (f x)) (st ++ [.ls acc])) → (keep x = false → Pn (st ++ [.ls acc])) → mg (emb x) (wipeE ρ vs) (st ++ [.ls acc]) fun ρ2 s2 => mt ρ2 s2 fun b s3 => if b = true then me ρ2 s3 Pk else Pn s3)
    (q : ∀ o, Q (.d (.tuple ((xs.filter keep).map f))) (st ++ [o])) : mCB cTup (aCons (mLc mi mg mt me vs) aNil) ρ st Q := by
  show mLc mi mg mt me vs ρ st fun w s => cTup [w] s Q
  refine lc_map emb xs keep (fun x => .d (f x)) hi hgd len hs ?_
  refine ⟨_, app_at, ?_⟩
  have e : ((xs.filter keep).map fun x => W.d (f x)) = ((xs.filter keep).map f).map .d := by rw [List.map_map]; rfl
  exact allD_at e (q _)
theorem gc_tupd (emb : α → W) (xs : List α) (keep : α → Bool) (f : α → PyData) {gd : Sto → Prop} (hi : ∀ R : List W → (Sto → Prop) → Sto → Prop, R (xs.map emb) gd st → mi ρ st R) (hgd : ∀ acc, gd (st ++ [.ls acc])) (len : xs.length ≤ 1000000)
    (hs : ∀ x ∈ xs, ∀ (acc : List W) (Pk : W → Sto → Prop) (Pn : Sto → Prop), (keep x = true → Pk (.d (f x)) (st ++ [.ls acc])) → (keep x = false → Pn (st ++ [.ls acc])) → mg (emb x) (wipeE ρ vs) (st ++ [.ls acc]) fun ρ2 s2 => mt ρ2 s2 fun b s3 => if b = true then me ρ2 s3 Pk else Pn s3)
    (q : Q (.d (.tuple ((xs.filter keep).map f))) st) : mGc (mCB cTup (aCons (mLc mi mg mt me vs) aNil)) ρ st Q :=
  lc_tupd emb xs keep f hi hgd len hs fun o => ⟨st, [o], rfl, Gcd.rfl', trivial, q⟩
/-- a loop that folds: R tells the slots by what has come and the loop's name, S the store -/
theorem for_fold {mb : MS} {E : WE} {b0 : β} (emb : α → W) (xs : List α) (step : β → α → β) (R : β → Option W → Ev) (S : β → Sto) {gd : Sto → Prop} (y0 : Option W) (hi : ∀ P : List W → (Sto → Prop) → Sto → Prop, P (xs.map emb) gd st → mi ρ st P)
    (hgd : ∀ i, gd (S ((xs.take i).foldl step b0))) (e1 : ρ = R b0 y0) (e2 : st = S b0)
    (hs : ∀ (i : Nat) (x : α) (b : β) (y : Option W) (E' : WE), xs[i]? = some x → b = (xs.take i).foldl step b0 → (∀ y', E'.nx (R (step b x) y') (S (step b x))) → (∀ y', E'.ct (R (step b x) y') (S (step b x))) → mg (emb x) (R b y) (S b) fun ρ2 s2 => mb ρ2 s2 E')
    (hd : ∀ y, E.nx (R (xs.foldl step b0) y) (S (xs.foldl step b0))) : sFor mi mg mb ρ st E := by
  refine hi _ ⟨fun i ρ s => ∃ y, ρ = R ((xs.take i).foldl step b0) y ∧ s = S ((xs.take i).foldl step b0), ⟨y0, e1, e2⟩, fun i ρ s ⟨y, _, e⟩ => by rw [e]; exact hgd i, fun i x ρ s hx ⟨y, a, b⟩ => ?_, fun ρ s ⟨y, a, b⟩ => ?_⟩
  · subst a b
    rw [List.getElem?_map] at hx
    obtain ⟨a, ha, rfl⟩ : ∃ a, xs[i]? = some a ∧ x = emb a := by
      cases z : xs[i]? with
      | none => rw [z] at hx; cases hx
      | some a => rw [z] at hx; exact ⟨a, rfl, (Option.some.inj hx).symm⟩
    have nxt : (xs.take (i + 1)).foldl step b0 = step ((xs.take i).foldl step b0) a := by
      rw [List.take_add_one, ha, List.foldl_append]
      rfl
    exact hs i a _ y _ ha rfl (fun y' => ⟨y', by rw [nxt], by rw [nxt]⟩) (fun y' => ⟨y', by rw [nxt], by rw [nxt]⟩)
  · subst a b
    rw [List.length_map, List.take_length]
    exact hd y
end
/-! ### rows of whole numbers as data -/
theorem rowD (ns : List Int) : (ns.map PyData.int).map W.d = ns.map wI := by rw [List.map_map]; rfl
theorem intsD_row (ns : List Int) (k : List Int → Prop) : intsD ((ns.map PyData.int).map W.d) k = k ns := by rw [rowD]; exact intsD_map ns k
theorem intsD_wI (ns : List Int) (k : List Int → Prop) : intsD (ns.map wI) k = k ns := intsD_map ns k
theorem allD_wI (ns : List Int) (k : List PyData → Prop) : allD (ns.map wI) k = k (ns.map .int) := by
  have e : ns.map wI = (ns.map PyData.int).map W.d := by rw [List.map_map]; rfl
  rw [e, allD_map]
theorem allD_wR (rs : List (List Int)) (k : List PyData → Prop) : allD (rs.map wR) k = k (rs.map dInts) := by
  have e : rs.map wR = (rs.map dInts).map W.d := by rw [List.map_map]; rfl
  rw [e, allD_map]
theorem allD_wS (rs : List Str) (k : List PyData → Prop) : allD (rs.map wS) k = k (rs.map .str) := by
  have e : rs.map wS = (rs.map PyData.str).map W.d := by rw [List.map_map]; rfl
  rw [e, allD_map]
/-- walking a tuple of whole numbers -/
theorem it_row {ρ : Ev} {st : Sto} {i : Nat} {ns : List Int} (e : ρ[i]? = some (some (wR ns))) (R : List W → (Sto → Prop) → Sto → Prop) (h : R (ns.map wI) (fun _ => True) st) : iT (mVar i) ρ st R := by
  show (match ρ[i]? with | some (some w) => tup1 w fun ds => R (ds.map .d) (fun _ => True) st | _ => False)
  rw [e]
  show R ((ns.map PyData.int).map .d) _ _
  rw [rowD]
  exact h
end FL

/-! Own layer: a generator expression walked by any. -/
namespace KG
open PySem PySem.Spec PyProof.Rows L2 GenW
/-- any: a truth, and where it is true the end -/
def pAny (QF : Hp → Prop) : V → Hp → (Hp → Prop) → Prop := fun y H Nx => ∃ k, y = .bl k ∧ if k = true then QF H else Nx H
section
variable {Y : Cx} {A : Around} {tg iter elt : Expr} {ifs : List Expr} {scope : Scope} {pos : Pos} {it : Addr} {fp : List Addr} {tn : Nat → Heap → Prop} {J : It} {g : TG} {tt : TT} {te : TE} {vs : List Nat} {σ : L2.St} {pG : List (Addr × Obj)} {D : Addr} {QT : Hp → Prop} {Yp : V → Hp → (Hp → Prop) → Prop} {W : Nat → Nat → Hp → Prop}
/-- the walk of any over such a generator -/
theorem any_loop {QF : Hp → Prop} {P : Program} {w : World} {a : Addr} {go : Obj} {gn : Nat} {R : Result → Shared → Prop} (hP : Y.prog = P) (hw : Y.w = w) (hh : A.handled = none) (hroom : A.depth < recursionLimit) (hgo : ∀ h : Heap, h.get? a = some go → h.IsGen a gn) (hpin : (a, go) ∈ pG)
    (hT : ∀ (σ : L2.St) (H : Hp) (s' : Shared), Inv Y pG σ H s' → QT H → R (.ok (.ret (.bool false))) s') (hF : ∀ (σ : L2.St) (H : Hp) (s' : Shared), Inv Y pG σ H s' → QF H → R (.ok (.ret (.bool true))) s') :
    ∀ (n : Nat) (σ : L2.St) (H : Hp) (s : Shared) (gs : GenState), Inv Y pG σ H s → s.gens[gn]? = some gs → (∀ s'' : Shared, s''.heap = s.heap → s''.os = s.os → AllBare s''.gens → gs.Goes (model P w) A.in1.in1 (gR Y pG QT) (gY Y pG a (pAny QF)) n (.send .none) s'') →
      codeAny (model P w) A (.builtin "any.loop" ⟨[.ref a], []⟩) R s := by
  subst hP
  subst hw
  have step : ∀ n : Nat, (∀ n', n = n' + 1 → ∀ (σ : L2.St) (H : Hp) (s : Shared) (gs : GenState), Inv Y pG σ H s → s.gens[gn]? = some gs → (∀ s'' : Shared, s''.heap = s.heap → s''.os = s.os → AllBare s''.gens → gs.Goes (model Y.prog Y.w) A.in1.in1 (gR Y pG QT) (gY Y pG a (pAny QF)) n' (.send .none) s'') →
      codeAny (model Y.prog Y.w) A (.builtin "any.loop" ⟨[.ref a], []⟩) R s) → ∀ (σ : L2.St) (H : Hp) (s : Shared) (gs : GenState), Inv Y pG σ H s → s.gens[gn]? = some gs → (∀ s'' : Shared, s''.heap = s.heap → s''.os = s.os → AllBare s''.gens → gs.Goes (model Y.prog Y.w) A.in1.in1 (gR Y pG QT) (gY Y pG a (pAny QF)) n (.send .none) s'') →
      codeAny (model Y.prog Y.w) A (.builtin "any.loop" ⟨[.ref a], []⟩) R s := by
    intro n ih σ H s gs I hgs hG
    refine codeAny_builtin F.entry_any_loop ?_
    rw [Around.under_plainId F.plain_any_loop _]
    show wpAny _ A.in1 (pyNext (.ref a) >>= _) _ _ s
    have hlt : gn < s.gens.size := by
      rcases Nat.lt_or_ge gn s.gens.size with h | h
      · exact h
      · rw [Array.getElem?_eq_none h] at hgs
        cases hgs
    have gen : ∀ {σ : L2.St} {H : Hp} {s : Shared}, Inv Y pG σ H s → s.heap.IsGen a gn := fun I => hgo _ (I.pin (a, go) (List.mem_append_right _ hpin)).1
    refine wpAny_bind (wpAny_gsz (n := gn + 1) hlt (wpAny_pyNext_genexpQ (P := fun n s0 s1 => ∃ (σ : L2.St) (H : Hp), Inv Y pG σ H s1 ∧ QT H) hh I.nolimit hroom (gen I) hgs (hG _ rfl rfl (allBare_setGen I.bare rfl)) (fun v s₁ gs' hb hv hsz => ?_) (fun s₁ hp h' hk hsz => ?_)))
    · obtain ⟨y, σ1, H1, Nx, ry, I1, ⟨k, rfl, hk⟩, kap⟩ := hv
      obtain rfl : v = Value.bool k := ry
      have I2 : Inv Y pG σ1 H1 (s₁.setGen gn gs') := inv_same I1 rfl rfl (allBare_setGen I1.bare hb)
      have hlt1 : gn < s₁.gens.size := by
        rw [setGen_size] at hsz
        exact hsz
      refine wpAny_bind (wpAny_holding (wpAny_truthy_bool ?_))
      refine wpAny_bind (wpAny_letGo ?_)
      cases k with
      | false =>
        simp only [Bool.false_eq_true, if_false] at hk ⊢
        cases n with
        | zero => exact (kap H1 s₁ hk (fun _ _ => rfl) (fun _ _ _ e => e) I1).elim
        | succ n' =>
          refine wpAny_pure ⟨plainId_quiet F.plain_any_loop _, ih n' rfl σ1 H1 _ gs' I2 (setGen_at hlt1) fun s'' e1 e2 e3 => kap H1 s'' hk (fun _ _ => rfl) (fun b o _ e => by rw [e1]; exact e) (inv_same I1 e1 e2 e3)⟩
      | true =>
        simp only [if_true] at hk ⊢
        exact wpAny_bind (wpAny_rule (wpAny_pure (hF σ1 H1 _ I2 hk)))
    · obtain ⟨σ1, H1, I1, qt⟩ := hp
      refine wpAny_bind (wpAny_rule (wpAny_pure ?_))
      have I2 : Inv Y pG σ1 H1 { s₁ with heap := h' } := I1.kept (t' := s₁.toks) hk
      exact hT σ1 H1 _ (inv_same I2 rfl rfl (allBare_setGen I1.bare rfl)) qt
  intro n
  induction n with
  | zero => exact step 0 fun n' e => absurd e (Nat.succ_ne_zero n').symm
  | succ n ih =>
    refine step (n + 1) fun n' e => ?_
    obtain rfl : n = n' := Nat.succ.inj e
    exact ih
end
section
variable {X : Cx} {pins : List (Addr × Obj)} {σ : L2.St} {H : Hp} {s : Shared} {c P : Addr} {elt tg iter : Expr} {ifs : List Expr} {gpos : Pos} {scope : Scope} {own : List (Str × Nat)} {wi : TI} {g : TG} {tt : TT} {te : TE} {k : Nat}
/-- any(e for x in .. if ..), e of any kind, a truth; behind it the def's table may have grown -/
def tAnyG (P : Addr) (wi : TI) (g : TG) (tt : TT) (te : TE) (vs : List Nat) : TE := fun σ H Q => wi σ H fun J H1 => GxR.TabG H1 P ∧ ∀ H2, GxR.Tabbed P H1 H2 → ∃ W : Nat → Nat → Hp → Prop, (∃ m, W 0 m H2) ∧ Turns J g tt te vs σ (fun H => Q (.bl false) H) (pAny fun H => Q (.bl true) H) W
theorem pe_anyG {p pos : Pos} (hr : Room (k + 3) X.A) (hga : Gl X "any") (hm : X.mg "any" = none) (hb : bootBuiltins "any" = some (.builtin "any")) (TB : GxR.TabB X.base X.mg c P) (hcode : X.env.code = .ref c) (hN : X.N.Nodup) (hco : scope.isCoroutine = false) (nocell : ∀ y ∈ scope.names, y.2 ≠ .cell) (dot : scope.names.lookup (".0" : Str) = some NameKind.local)
    (ok : BlkOk X.N X.env.scope scope own) (hi : PI X tg iter wi) (hg : ∀ (A : Around) (s : Shared) (H : Hp) (cl : List (Str × Addr)) (C : Addr) (code : Value) (fp : List Addr), Room k (A.deeper (gE X scope cl C code)) → PG (gx X A s H (gE X scope cl C code) fp) tg g)
    (ht : ∀ (A : Around) (s : Shared) (H : Hp) (cl : List (Str × Addr)) (C : Addr) (code : Value) (fp : List Addr), Room k (A.deeper (gE X scope cl C code)) → PTs (gx X A s H (gE X scope cl C code) fp) ifs tt)
    (hel : ∀ (A : Around) (s : Shared) (H : Hp) (cl : List (Str × Addr)) (C : Addr) (code : Value) (fp : List Addr), Room k (A.deeper (gE X scope cl C code)) → PE (gx X A s H (gE X scope cl C code) fp) elt te)
    (hs : ∀ v, genFold iter X.env v = pure v)
    (he : starEach [.GeneratorExp elt [⟨tg, iter, ifs, 0⟩] scope gpos] X.env = (false, eval (.GeneratorExp elt [⟨tg, iter, ifs, 0⟩] scope gpos) X.env) :: starEach [] X.env := by rfl) :
    PE X (.Call (.Name "any" p) [.GeneratorExp elt [⟨tg, iter, ifs, 0⟩] scope gpos] [] pos) (tAnyG P wi g tt te (own.map (·.2))) := by
  refine ⟨fun pins s σ H Q I h => ?_⟩
  refine wpAny_Call_Name_kw (ld_blt I hga hm hb ?_)
  refine PyProof.Rows.callWith_builtin1 ?_ he (by rfl)
  rw [he]
  show wpAny _ _ (spliced ((false, eval (.GeneratorExp elt [⟨tg, iter, ifs, 0⟩] scope gpos) X.env) :: backTo pos (starEach [] X.env))) _ _ s
  refine Calls.spliced_cons (gen_ex (R := fun J H2 => ∃ W : Nat → Nat → Hp → Prop, (∃ m, W 0 m H2) ∧ Turns J g tt te (List.map (fun x : Str × Nat => x.2) own) σ (fun H => Q (.bl false) H) (pAny fun H => Q (.bl true) H) W) hr.depth TB hcode hN hco nocell dot ok hi hg ht hel hs I h fun J H4 a s5 q hR => ?_)
  refine Calls.spliced_nil ?_
  obtain ⟨W, ⟨m0, w0⟩, turn⟩ := q
  obtain ⟨go, gn, gs, s₄, genv, fp, hgo, hga5, hgs, hfp, all⟩ := hR
  obtain ⟨I5, back, goes⟩ := all X.A.in1.in1 hr.hd I.ok.frames (Room.in1 (Room.in1 hr))
  refine call_function_tree F.kind_any F.plain_any F.entry_any (F.args_any1 _) ?_
  unfold Builtin.«any»
  refine wpAny_bind (m := oneArg "any" _) (wpAny_pure ?_)
  refine wpAny_bind (wpAny_pyIter_gen (hgo _ hga5) ?_)
  refine wpAny_pure ⟨plainId_quiet F.plain_any_loop _, any_loop (Y := gx X X.A.in1.in1 s₄ H4 genv fp) (pG := [(a, go)]) rfl rfl hr.hd (Room.in1 hr).depth hgo (List.mem_singleton.mpr rfl) (fun σ1 H1 s' I1 q => ?_) (fun σ1 H1 s' I1 q => ?_) (m0 + 1) _ H4 s5 gs I5 hgs
    fun s'' e1 e2 e3 => goes a _ _ W (fun b hb => (hfp b hb).2) turn m0 H4 s'' w0 (inv_same I5 e1 e2 e3) (fun b _ o e => by rw [e1]; exact e) fun _ _ => rfl⟩
  · exact ⟨.bl false, H1, back σ1 H1 s' I1, rfl, q⟩
  · exact ⟨.bl true, H1, back σ1 H1 s' I1, rfl, q⟩
end
end KG

/-! Own layer, values: any, all of a generator expression; defs with tables; the bundle of a def. -/
namespace FL
open PySem PySem.Spec PyProof.Rows L2 KL KG GR KV KS KY RT
def mAnyG (fin : Bool) (mi : MI) (mg : MG) (mt : MT) (me : ME) (vs : List Nat) : ME := fun ρ st Q => mi ρ st fun xs gd s1 => ∃ I : Nat → Sto → Prop, I 0 s1 ∧ (∀ i s, I i s → gd s) ∧
  (∀ i x s, xs[i]? = some x → I i s → mg x (wipeE ρ vs) s fun ρ2 s2 => mt ρ2 s2 fun b s3 => if b = true then me ρ2 s3 fun y s4 => bl1 y fun k => if k = fin then Q (.d (.bool fin)) s4 else I (i + 1) s4 else I (i + 1) s3) ∧
  ∀ s, I xs.length s → Q (.d (.bool (!fin))) s
section
variable {K : PySem.W.Frag} {ts μ μ' : List Addr} {H G : Hp} {st : Sto} {σ : L2.St} {ρ : Ev} {P : Addr} {wi : TI} {g : TG} {tt : TT} {te : TE} {vs : List Nat} {mi : MI} {mg : MG} {mt : MT} {me : ME}
theorem mAnyG.mono {fin : Bool} (hi : XI K ts wi mi) (hg : XG K ts g mg) (ht : XT K ts tt mt) (he : XE K ts te me) {st : Sto} {Q Q' : WQ} (f : ∀ w s, Q w s → Q' w s) : mAnyG fin mi mg mt me vs ρ st Q → mAnyG fin mi mg mt me vs ρ st Q' :=
  hi.mono _ _ _ _ fun xs gd s ⟨I, a, b, c, d⟩ => ⟨I, a, b, fun i x s e q => hg.mono _ _ _ _ _ (fun ρ2 s2 => ht.mono _ _ _ _ fun k s3 q => by
    cases k with
    | false => exact q
    | true => exact he.mono _ _ _ _ (fun y s4 => bl1.imp fun k q => by
        by_cases z : k = fin
        · rw [if_pos z] at q ⊢
          exact f _ _ q
        · rw [if_neg z] at q ⊢
          exact q) q) (c i x s e q), fun s q => f _ _ (d s q)⟩
/-- the turns -/
theorem turns_x {fin : Bool} {μ1 : List Addr} {G1 : Hp} {s1 : Sto} {J : It} {xs : List W} {gd : Sto → Prop} {I : Nat → Sto → Prop} {QT : Hp → Prop} {Yp : V → Hp → (Hp → Prop) → Prop} {G2 : Hp} (hg : XG K ts g mg) (hw : WpG g vs) (ht : XT K ts tt mt) (he : XE K ts te me) (R1 : RE K μ1 G1 σ ρ) (ok : ItOk K ts J μ1 G1 xs gd)
    (g2 : Gr μ1 G1 μ1 G2) (S2 : SR K ts μ1 s1 G2) (h0 : I 0 s1) (hgd : ∀ i s, I i s → gd s) {Qv : WQ}
    (hs : ∀ i x s, xs[i]? = some x → I i s → mg x (wipeE ρ vs) s fun ρ2 s2 => mt ρ2 s2 fun b s3 => if b = true then me ρ2 s3 fun y s4 => bl1 y fun k => if k = fin then Qv (.d (.bool fin)) s4 else I (i + 1) s4 else I (i + 1) s3)
    (hd : ∀ s μ' G, I xs.length s → Gr μ1 G1 μ' G → SR K ts μ' s G → QT G)
    (hY : ∀ (k : Bool) (Nx : Hp → Prop) (s : Sto) (μ' : List Addr) (G : Hp), Gr μ1 G1 μ' G → SR K ts μ' s G → (k = fin → Qv (.d (.bool fin)) s) → (k ≠ fin → Nx G) → Yp (.bl k) G Nx) :
    ∃ W : Nat → Nat → Hp → Prop, (∃ m, W 0 m G2) ∧ Turns J g tt te vs σ QT Yp W := by
  refine ⟨fun i m G => m = xs.length - i ∧ i ≤ xs.length ∧ ∃ μ' s, Gr μ1 G1 μ' G ∧ SR K ts μ' s G ∧ I i s, ⟨_, rfl, Nat.zero_le _, _, _, g2, S2, h0⟩, ?_⟩
  rintro i m G ⟨rfl, hle, μ2, s2, gg, S2, hI⟩
  by_cases hlt : i < xs.length
  · refine .inr ⟨ok.go μ2 G s2 i gg S2 (hgd i s2 hI) hlt, fun G' => ∃ μ' s, Gr μ1 G1 μ' G' ∧ SR K ts μ' s G' ∧ I (i + 1) s, fun G' ⟨μ', s, a, b, c⟩ => ⟨xs.length - (i + 1), by omega, rfl, hlt, μ', s, a, b, c⟩, fun x H' y => ?_⟩
    obtain ⟨w, hw', g3, S3, rx⟩ := ok.yld μ2 G s2 i x H' gg S2 (hgd i s2 hI) hlt y
    refine hw _ _ _ _ ?_
    refine hg.run μ2 s2 H' (wipe σ vs) (wipeE ρ vs) x w _ S3 (RE.wipe (RE.mv (gg.tr g3) R1) vs) rx (hg.mono _ _ _ _ _ (fun ρ4 s4 h4 μ4 G4 σ4 g4 S4 E4 => ?_) (hs i w s2 hw' hI))
    refine ht.thn S4 E4 h4 fun b s5 μ5 G5 h5 g5 S5 E5 => ?_
    have g25 := ((gg.tr g3).tr g4).tr g5
    cases b with
    | false => exact ⟨μ5, s5, g25, S5, h5⟩
    | true =>
      rw [if_pos rfl] at h5 ⊢
      refine he.thn S5 E5 h5 fun y6 s6 μ6 G6 v6 h6 g6 S6 E6 r6 => ?_
      obtain ⟨k, rfl, h7⟩ := bl1.ex h6
      cases r6
      refine hY k _ s6 μ6 G6 (g25.tr g6) S6 (fun z => ?_) (fun z => ?_)
      · rw [if_pos z] at h7
        exact h7
      · rw [if_neg z] at h7
        exact ⟨μ6, s6, g25.tr g6, S6, h7⟩
  · have e : i = xs.length := by omega
    subst e
    exact .inl ⟨ok.stop μ2 G s2 gg S2 (hgd _ s2 hI), hd s2 μ2 G hI gg S2⟩
theorem xe_anyG (hP : P ∈ ts) (hi : XI K ts wi mi) (hg : XG K ts g mg) (hw : WpG g vs) (ht : XT K ts tt mt) (he : XE K ts te me) : XE K ts (tAnyG P wi g tt te vs) (mAnyG true mi mg mt me vs) := by
  refine ⟨fun ρ st Q Q' f h => mAnyG.mono hi hg ht he f h, fun μ st H σ ρ Q S E h => ?_⟩
  refine hi.run μ st H σ ρ _ S E (hi.mono _ _ _ _ (fun xs gd s1 ⟨I, h0, hgd, hs, hd⟩ μ1 G1 J g1 S1 ok => ⟨S1.tb P hP, fun G2 tb2 => ?_⟩) h)
  obtain ⟨g2, S2⟩ := S1.ms (S1.tb.tabbed tb2 hP)
  refine turns_x (fin := true) hg hw ht he (RE.mv g1 E) ok g2 S2 h0 hgd hs (fun s μ' G q gr S' => hd s q μ' G (.bl false) (g1.tr gr) S' (.bl _)) (fun k Nx s μ' G gr S' q1 q2 => ⟨k, rfl, ?_⟩)
  cases k with
  | true => exact q1 rfl μ' G (.bl true) (g1.tr gr) S' (.bl _)
  | false => exact q2 (by decide)
theorem xe_allG (hP : P ∈ ts) (hi : XI K ts wi mi) (hg : XG K ts g mg) (hw : WpG g vs) (ht : XT K ts tt mt) (he : XE K ts te me) : XE K ts (tAllG P wi g tt te vs) (mAnyG false mi mg mt me vs) := by
  refine ⟨fun ρ st Q Q' f h => mAnyG.mono hi hg ht he f h, fun μ st H σ ρ Q S E h => ?_⟩
  refine hi.run μ st H σ ρ _ S E (hi.mono _ _ _ _ (fun xs gd s1 ⟨I, h0, hgd, hs, hd⟩ μ1 G1 J g1 S1 ok => ⟨S1.tb P hP, fun G2 tb2 => ?_⟩) h)
  obtain ⟨g2, S2⟩ := S1.ms (S1.tb.tabbed tb2 hP)
  refine turns_x (fin := false) hg hw ht he (RE.mv g1 E) ok g2 S2 h0 hgd hs (fun s μ' G q gr S' => hd s q μ' G (.bl true) (g1.tr gr) S' (.bl _)) (fun k Nx s μ' G gr S' q1 q2 => ⟨k, rfl, ?_⟩)
  cases k with
  | false => exact q1 rfl μ' G (.bl false) (g1.tr gr) S' (.bl _)
  | true => exact q2 (by decide)
end
section
variable {P : Program} {w : World} {K : PySem.W.Frag} {mg : Str → Option Value} {base : Heap} {ts : List Addr}
theorem fl_defC {x qual : Str} {sm : Stmt} {f c : Addr} {fd : FuncData} {N ps : List Str} {k : Nat} {F : List W → Sto → WQ → Prop} {m : MS} (Fn : FunC K x qual sm f fd c) (S : FnScope N ps (defScope sm)) (hd : Does m ps.length (N.length - ps.length) F)
    (hbody : ∀ (A : Around) (outer : List Env) (s : Shared) (H : Hp) (E : XK), Room k (A.deeper (envOfC qual (defScope sm) s.heap.objs.size f (.ref c))) →
      ∃ t, PSs (cxOf CX0 P w K mg base N qual (defScope sm) f (.ref c) A outer s H E).nox (defBody sm) t ∧ XS K ts t m) : FnOk P w K mg base CX0 (k + 1) f fd ps (spS K ts F) := by
  refine Fn.ok S (fun vs H Q E h => ?_) (fun A outer s H vs Q E hr h => ?_)
  · obtain ⟨μ, st, ws, S, r, q⟩ := h
    exact (RWL.len r).trans (hd ws st _ q).1
  · obtain ⟨t, hp, hm⟩ := hbody A outer s H E hr
    exact ⟨t, hp, (spS_run hm hd h).2⟩
end
section
variable {K : PySem.W.Frag} {ts μ μ' : List Addr} {H G : Hp} {st : Sto} {t ta tb tc : TE} {m ma mb mc : ME} {σ : L2.St} {ρ : Ev}
/-- a locked list: its items, a piece of it -/
def lst1 (w : W) (k : List PyData → Prop) : Prop := match w with | .d (.list ds) => k ds | _ => False
theorem lst1.ex {w : W} {k : List PyData → Prop} (h : lst1 w k) : ∃ i, w = .d (.list i) ∧ k i := by
  unfold lst1 at h
  split at h
  · exact ⟨_, rfl, h⟩
  · exact h.elim
theorem lst1.imp {w : W} {k k' : List PyData → Prop} (f : ∀ i, k i → k' i) (h : lst1 w k) : lst1 w k' := by obtain ⟨i, rfl, q⟩ := lst1.ex h; exact f i q
def oIxZ : W → W → Sto → WQ → Prop := fun w u st Q => lst1 w fun ds => int1 u fun i => ∃ x, atI ds i = some x ∧ Q (.d x) st
theorem xo_ixZ : XO K ts (rIxL K) oIxZ := by
  refine ⟨fun _ _ _ _ _ f => lst1.imp fun ds => int1.imp fun i ⟨x, e, q⟩ => ⟨x, e, f _ _ q⟩, fun μ st H x y w u Q S rx ry h => ?_⟩
  obtain ⟨ds, rfl, h1⟩ := lst1.ex h
  obtain ⟨i, rfl, d, e, q⟩ := int1.ex h1
  cases ry
  have rx : TD K H x (.list ds) := rx
  cases rx with
  | lst hs td =>
    obtain ⟨v, ev, tv⟩ := atI_ex td.paired e
    exact ⟨_, _, i, v, rfl, rfl, hs.sql, ev, q μ H _ Gr.rfl' S tv⟩
def mSlZ (ma : ME) (ml mh : MO) : ME := fun ρ st Q => ma ρ st fun w s1 => ml ρ s1 fun lo s2 => mh ρ s2 fun hi s3 => lst1 w fun xs => Q (.l s3.length) (s3 ++ [.ls ((cutG xs lo hi).map .d)])
theorem xe_slZ {tl th : TO} {ml mh : MO} (ha : XE K ts ta ma) (hl : XP K ts tl ml) (hh : XP K ts th mh) : XE K ts (tSl (rSlL K) ta tl th) (mSlZ ma ml mh) := by
  refine ⟨fun ρ st Q Q' f h => ha.mono _ _ _ _ (fun w s h => hl.mono _ _ _ _ (fun lo s h => hh.mono _ _ _ _ (fun hi s => lst1.imp fun ds q => f _ _ q) h) h) h, fun μ st H σ ρ Q S E h => ?_⟩
  refine ha.thn S E h fun w s1 μ1 G1 v h g1 S1 E1 rv => hl.thn S1 E1 h fun lo s2 μ2 G2 h g2 S2 E2 => hh.thn S2 E2 h fun hi s3 μ3 G3 h g3 S3 E3 => ?_
  obtain ⟨ds, rfl, q⟩ := lst1.ex h
  have gg := (g1.tr g2).tr g3
  have rv2 : TD K G3 v (.list ds) := RW.mv rv (g2.tr g3)
  cases rv2 with
  | @lst a us _ e td =>
    refine ⟨a, us, rfl, e.sql, fun p np => ?_⟩
    obtain ⟨g4, S4, r4⟩ := S3.allocR np (TDL.rwl (td.cut lo hi))
    exact q _ _ _ (gg.tr g4) S4 r4
/-- a, b, c, d = w, x, y, z -/
def sParN (n : Nat) (a : MA) (ms : List W → Ev → Sto → (Ev → Sto → Prop) → Prop) : MS := fun ρ st E => a ρ st fun ws s => ws.length = n ∧ n ≤ 1000 ∧ ms ws ρ s E.nx
theorem xs_parN {n : Nat} {tr : TA} {a : MA} {gs : TGs} {ms : List W → Ev → Sto → (Ev → Sto → Prop) → Prop} (h : XA K ts tr a) (hg : XGs K ts gs ms) : XS K ts (tAsg (tTup tr) (gTup K n gs)) (sParN n a ms) := by
  refine ⟨fun ρ st E E' f q => h.mono _ _ _ _ (fun ws s ⟨a, b, c⟩ => ⟨a, b, hg.mono _ _ _ _ _ f.1 c⟩) q, fun μ st H σ ρ E D S R e q => h.thn S R q fun ws s μ1 G vs ⟨ln, le, h1⟩ g S1 R1 rv => ?_⟩
  have lv : vs.length = n := (RWL.len rv).trans ln
  refine ⟨by rw [lv, sizeLine_eq]; omega, fun p np => ?_⟩
  have g2 : Gr μ1 G μ1 (upd G p (.tup vs)) := ⟨List.prefix_refl _, Kt.new np⟩
  refine ⟨p, vs, rfl, .inl (.inl upd_same), lv, ?_⟩
  exact hg.run μ1 s _ σ ρ vs ws _ (S1.new np) (RE.mv g2 R1) (RWL.mv g2 rv) (hg.mono _ _ _ _ _ (fun ρ' s' h μ2 J σ2 g3 S2 R2 => e.nx _ _ μ2 J σ2 h ((g.tr g2).tr g3) S2 R2) h1)
end
/-! ### bundles -/
/-- a def of the text -/
def Dn (K : PySem.W.Frag) (mg : Str → Option Value) (x : Str) (st : Stmt) (ps : List Str) : Prop := ∃ f fd, Fun K x x st f fd ∧ mg x = some (.ref f) ∧ L2.Binds K fd ps []
/-- one with a table of ts -/
def DnC (K : PySem.W.Frag) (mg : Str → Option Value) (base : Heap) (ts : List Addr) (x : Str) (st : Stmt) (ps : List Str) : Prop := ∃ f fd c T, FunC K x x st f fd c ∧ GxR.TabB base mg c T ∧ T ∈ ts ∧ mg x = some (.ref f) ∧ L2.Binds K fd ps []
/-- a def and what it does -/
def Fd (P : Program) (w : World) (K : PySem.W.Frag) (mg : Str → Option Value) (base : Heap) (ts : List Addr) (x : Str) (st : Stmt) (ps : List Str) (k : Nat) (F : List W → Sto → WQ → Prop) : Prop :=
  ∃ f fd, FnOk P w K mg base CX0 k f fd ps (spS K ts F) ∧ mg x = some (.ref f) ∧ PySem.W.keepIn K (.ref f) = true ∧ L2.Binds K fd ps [] ∧ Fun K x x st f fd
def FdG (P : Program) (w : World) (K : PySem.W.Frag) (mg : Str → Option Value) (base : Heap) (ts : List Addr) (x : Str) (st : Stmt) (ps : List Str) (k : Nat) (F : List W → Sto → WQ → Prop) : Prop :=
  ∃ f fd, FnG P w K mg base CX0 k f fd ps (spS K ts F) ∧ mg x = some (.ref f) ∧ PySem.W.keepIn K (.ref f) = true ∧ L2.Binds K fd ps [] ∧ Fun K x x st f fd
/-- the built-ins stand -/
structure Nb (mg : Str → Option Value) : Prop where
  all : mg "all" = none
  any : mg "any" = none
  len : mg "len" = none
  tup : mg "tuple" = none
  list : mg "list" = none
  rng : mg "range" = none
  sorted : mg "sorted" = none
  rev : mg "reversed" = none
  int : mg "int" = none
  abs : mg "abs" = none
  max : mg "max" = none
  min : mg "min" = none
  dm : mg "divmod" = none
  repr : mg "repr" = none
  set : mg "set" = none
  en : mg "enumerate" = none
  zip : mg "zip" = none
end FL

/-! Own layer, values: what leaves the store as it is (Ev, EvT, EvA); draws upon a list of the store. -/
namespace FL
open PySem PySem.Spec PyProof.Rows L2 KL KG GR KV KS KY RT
def Ev' (m : ME) (ρ : Ev) (st : Sto) (w : W) : Prop := ∀ Q : WQ, Q w st → m ρ st Q
def EvT (m : MT) (ρ : Ev) (st : Sto) (b : Bool) : Prop := ∀ Q : Bool → Sto → Prop, Q b st → m ρ st Q
def EvA (a : MA) (ρ : Ev) (st : Sto) (ws : List W) : Prop := ∀ Q : List W → Sto → Prop, Q ws st → a ρ st Q
abbrev wB (b : Bool) : W := .d (.bool b)
section
variable {ρ : Ev} {st : Sto} {m ma mb mc : ME} {w u : W} {i j : Int} {x y : PyData} {ns ms : List Int} {n k : Nat} {xs : List W} {b c : Bool} {mt mt' : MT} {a : MA} {ws : List W} {ds es : List PyData}
theorem ev_var {n : Nat} (e : ρ[n]? = some (some w)) : Ev' (mVar n) ρ st w := fun Q q => by
  show (match ρ[n]? with | some (some w) => Q w st | _ => False)
  rw [e]
  exact q
theorem ev_c : Ev' (mC x) ρ st (.d x) := fun Q q => q
theorem ev_add (ha : Ev' ma ρ st (wI i)) (hb : Ev' mb ρ st (wI j)) : Ev' (mOp oAdd ma mb) ρ st (wI (i + j)) := fun Q q => ha _ (hb _ q)
theorem ev_sub (ha : Ev' ma ρ st (wI i)) (hb : Ev' mb ρ st (wI j)) : Ev' (mOp oSub ma mb) ρ st (wI (i - j)) := fun Q q => ha _ (hb _ q)
theorem ev_mul (ha : Ev' ma ρ st (wI i)) (hb : Ev' mb ρ st (wI j)) (h : CMul i j) : Ev' (mOp oMul ma mb) ρ st (wI (i * j)) := fun Q q => ha _ (hb _ ⟨h, q⟩)
theorem ev_fdiv (ha : Ev' ma ρ st (wI i)) (hb : Ev' mb ρ st (wI j)) (h : CDiv i j) : Ev' (mOp oFdiv ma mb) ρ st (wI (i / j)) := fun Q q => ha _ (hb _ ⟨h, q⟩)
theorem ev_mod (ha : Ev' ma ρ st (wI i)) (hb : Ev' mb ρ st (wI j)) (h : 0 < j) : Ev' (mOp oMod ma mb) ρ st (wI (i % j)) := fun Q q => ha _ (hb _ ⟨h, q⟩)
theorem ev_pow (ha : Ev' ma ρ st (wI i)) (hb : Ev' mb ρ st (wI j)) (h : CPow i j) : Ev' (mOp oPow ma mb) ρ st (wI (i ^ j.toNat)) := fun Q q => ha _ (hb _ ⟨h, q⟩)
theorem ev_lt (ha : Ev' ma ρ st (wI i)) (hb : Ev' mb ρ st (wI j)) : Ev' (mOp oLt ma mb) ρ st (wB (decide (i < j))) := fun Q q => ha _ (hb _ q)
theorem ev_le (ha : Ev' ma ρ st (wI i)) (hb : Ev' mb ρ st (wI j)) : Ev' (mOp oLe ma mb) ρ st (wB (decide (i ≤ j))) := fun Q q => ha _ (hb _ q)
theorem ev_gt (ha : Ev' ma ρ st (wI i)) (hb : Ev' mb ρ st (wI j)) : Ev' (mOp oGt ma mb) ρ st (wB (decide (j < i))) := fun Q q => ha _ (hb _ q)
theorem ev_ge (ha : Ev' ma ρ st (wI i)) (hb : Ev' mb ρ st (wI j)) : Ev' (mOp oGe ma mb) ρ st (wB (decide (j ≤ i))) := fun Q q => ha _ (hb _ q)
theorem ev_eqI (ha : Ev' ma ρ st (wI i)) (hb : Ev' mb ρ st (wI j)) : Ev' (mOp oEqI ma mb) ρ st (wB (decide (i = j))) := fun Q q => ha _ (hb _ q)
theorem ev_neI (ha : Ev' ma ρ st (wI i)) (hb : Ev' mb ρ st (wI j)) : Ev' (mOp oNeI ma mb) ρ st (wB (!decide (i = j))) := fun Q q => ha _ (hb _ q)
theorem ev_eqS {s t : Str} (ha : Ev' ma ρ st (wS s)) (hb : Ev' mb ρ st (wS t)) : Ev' (mOp oEqS ma mb) ρ st (wB (decide (s = t))) := fun Q q => ha _ (hb _ q)
theorem ev_neg (ha : Ev' ma ρ st (wI i)) : Ev' (mNeg ma) ρ st (wI (-i)) := fun Q q => ha _ q
theorem ev_catS {s t : Str} (ha : Ev' ma ρ st (wS s)) (hb : Ev' mb ρ st (wS t)) (h : s.length + t.length ≤ 1000000) : Ev' (mOp oCatS ma mb) ρ st (wS (s ++ t)) := fun Q q => ha _ (hb _ ⟨h, q⟩)
theorem ev_catT (ha : Ev' ma ρ st (.d (.tuple ds))) (hb : Ev' mb ρ st (.d (.tuple es))) (h : ds.length + es.length ≤ 1000000) : Ev' (mOp oCatT ma mb) ρ st (.d (.tuple (ds ++ es))) := fun Q q => ha _ (hb _ ⟨h, q⟩)
/-- x in a tuple, a list of whole numbers -/
theorem ev_in (ha : Ev' ma ρ st (wI i)) (hb : Ev' mb ρ st (wR ns)) : Ev' (mOp (oInI false) ma mb) ρ st (wB (decide (i ∈ ns))) := fun Q q => ha _ (hb _ (intsD_at (rowD ns) q))
theorem ev_notin (ha : Ev' ma ρ st (wI i)) (hb : Ev' mb ρ st (wR ns)) : Ev' (mOp (oInI true) ma mb) ρ st (wB (!decide (i ∈ ns))) := fun Q q => ha _ (hb _ (intsD_at (rowD ns) q))
theorem ev_inL (ha : Ev' ma ρ st (wI i)) (hb : Ev' mb ρ st (.l n)) (e : st[n]? = some (.ls (ns.map wI))) : Ev' (mOp (oInI false) ma mb) ρ st (wB (decide (i ∈ ns))) := fun Q q => ha _ (hb _ ⟨_, e, intsD_at rfl q⟩)
theorem ev_notinL (ha : Ev' ma ρ st (wI i)) (hb : Ev' mb ρ st (.l n)) (e : st[n]? = some (.ls (ns.map wI))) : Ev' (mOp (oInI true) ma mb) ρ st (wB (!decide (i ∈ ns))) := fun Q q => ha _ (hb _ ⟨_, e, intsD_at rfl q⟩)
theorem ev_inSL {s : Str} {ss : List Str} (ha : Ev' ma ρ st (wS s)) (hb : Ev' mb ρ st (.l n)) (e : st[n]? = some (.ls (ss.map wS))) : Ev' (mOp (oInS false) ma mb) ρ st (wB (decide (s ∈ ss))) := fun Q q => ha _ (hb _ ⟨_, e, strsD_at rfl q⟩)
theorem ev_inST {s : Str} {ss : List Str} (ha : Ev' ma ρ st (wS s)) (hb : Ev' mb ρ st (.d (.tuple (ss.map .str)))) : Ev' (mOp (oInS false) ma mb) ρ st (wB (decide (s ∈ ss))) := fun Q q => ha _ (hb _ (strsD_at (by rw [List.map_map]; rfl) q))
theorem shp_row (r : List Int) : shp (dInts r) := shaped_ints r
theorem shp_rows (rs : List (List Int)) : shp (dRows rs) := shaped_rowsT rs
theorem shp_rowsL (rs : List (List Int)) : shp (.list (rs.map dInts)) := shaped_rows rs
/-- a row among rows -/
theorem ev_inT {r : List Int} {rs : List (List Int)} (ha : Ev' ma ρ st (wR r)) (hb : Ev' mb ρ st (.d (dRows rs))) : Ev' (mOp oInT ma mb) ρ st (wB (decide (r ∈ rs))) := fun Q q => ha _ (hb _ ⟨shp_row r, shp_rows rs, by rw [GR.any_rows]; exact q⟩)
theorem ev_inD {r : List Int} {rs : List (List Int)} (ha : Ev' ma ρ st (wR r)) (hb : Ev' mb ρ st (.l n)) (e : st[n]? = some (.ls (rs.map wR))) : Ev' (mOp (oInD false) ma mb) ρ st (wB (decide (r ∈ rs))) := fun Q q => ha _ (hb _ ⟨_, e, allD_at (by rw [List.map_map]; rfl) ⟨shp_row r, shp_rowsL rs, by rw [GR.any_rows]; exact q⟩⟩)
theorem ev_notinD {r : List Int} {rs : List (List Int)} (ha : Ev' ma ρ st (wR r)) (hb : Ev' mb ρ st (.l n)) (e : st[n]? = some (.ls (rs.map wR))) : Ev' (mOp (oInD true) ma mb) ρ st (wB (!decide (r ∈ rs))) := fun Q q => ha _ (hb _ ⟨_, e, allD_at (by rw [List.map_map]; rfl) ⟨shp_row r, shp_rowsL rs, by rw [GR.any_rows]; exact q⟩⟩)
theorem ev_ixT (ha : Ev' ma ρ st (.d (.tuple ds))) (hb : Ev' mb ρ st (wI i)) (e : atI ds i = some x) : Ev' (mOp oIxT ma mb) ρ st (.d x) := fun Q q => ha _ (hb _ ⟨x, e, q⟩)
theorem ev_ixL (ha : Ev' ma ρ st (.l n)) (e : st[n]? = some (.ls xs)) (hb : Ev' mb ρ st (wI i)) (e2 : atI xs i = some w) : Ev' (mOp oIxL ma mb) ρ st w := fun Q q => ha _ (hb _ ⟨xs, e, w, e2, q⟩)
theorem ev_ixS {s : Str} {ch : Nat} (ha : Ev' ma ρ st (wS s)) (hb : Ev' mb ρ st (wI i)) (l : s.length ≤ 1000000) (e : atI s.cps.toList i = some ch) : Ev' (mOp oIxS ma mb) ρ st (wS ⟨#[ch]⟩) := fun Q q => ha _ (hb _ ⟨l, ch, e, q⟩)
/-- == of rows -/
theorem ev_eqR {r s : List Int} (ha : Ev' ma ρ st (wR r)) (hb : Ev' mb ρ st (wR s)) : Ev' (mOp (oEqD false) ma mb) ρ st (wB (decide (r = s))) := fun Q q => ha _ (hb _ ⟨shp_row r, shp_row s, by rw [eqv_dInts]; exact q⟩)
theorem ev_neR {r s : List Int} (ha : Ev' ma ρ st (wR r)) (hb : Ev' mb ρ st (wR s)) : Ev' (mOp (oEqD true) ma mb) ρ st (wB (!decide (r = s))) := fun Q q => ha _ (hb _ ⟨shp_row r, shp_row s, by rw [eqv_dInts]; exact q⟩)
theorem ea_nil : EvA aNil ρ st [] := fun Q q => q
theorem ea_cons (ha : Ev' ma ρ st w) (hr : EvA a ρ st ws) : EvA (aCons ma a) ρ st (w :: ws) := fun Q q => ha _ (hr _ q)
theorem ev_tup (h : EvA a ρ st (ds.map .d)) (l : ds.length ≤ 1000000) : Ev' (mTup a) ρ st (.d (.tuple ds)) := fun Q q => h _ (allD_at rfl ⟨l, q⟩)
theorem ev_lenT (h : Ev' ma ρ st (.d (.tuple ds))) : Ev' (mCB cLen (aCons ma aNil)) ρ st (wI ds.length) := fun Q q => h _ (show Q (wI ((ds.map W.d).length : Nat)) st by rw [List.length_map]; exact q)
theorem ev_lenR {ns : List Int} (h : Ev' ma ρ st (wR ns)) : Ev' (mCB cLen (aCons ma aNil)) ρ st (wI ns.length) := fun Q q => ev_lenT h Q (by rw [List.length_map]; exact q)
theorem ev_lenLI {ns : List Int} (h : Ev' ma ρ st (.l n)) (e : st[n]? = some (.ls (ns.map wI))) : Ev' (mCB cLen (aCons ma aNil)) ρ st (wI ns.length) := fun Q q => h _ ⟨_, e, (by show Q (wI ((ns.map wI).length : Nat)) st; rw [List.length_map]; exact q)⟩
theorem ev_lenL (h : Ev' ma ρ st (.l n)) (e : st[n]? = some (.ls xs)) : Ev' (mCB cLen (aCons ma aNil)) ρ st (wI xs.length) := fun Q q => h _ ⟨xs, e, q⟩
theorem ev_abs (h : Ev' ma ρ st (wI i)) : Ev' (mCB cAbs (aCons ma aNil)) ρ st (wI (if i < 0 then -i else i)) := fun Q q => h _ q
theorem ev_int (h : Ev' ma ρ st (wI i)) : Ev' (mCB cInt (aCons ma aNil)) ρ st (wI i) := fun Q q => h _ q
theorem ev_max (ha : Ev' ma ρ st (wI i)) (hb : Ev' mb ρ st (wI j)) : Ev' (mCB cMax2 (aCons ma (aCons mb aNil))) ρ st (wI (if j > i then j else i)) := fun Q q => ha _ (hb _ q)
theorem ev_min (ha : Ev' ma ρ st (wI i)) (hb : Ev' mb ρ st (wI j)) : Ev' (mCB cMin2 (aCons ma (aCons mb aNil))) ρ st (wI (if j < i then j else i)) := fun Q q => ha _ (hb _ q)
theorem ev_tupT (h : Ev' ma ρ st (.d (.tuple ds))) : Ev' (mCB cTup (aCons ma aNil)) ρ st (.d (.tuple ds)) := fun Q q => h _ (allD_at rfl q)
theorem ev_tupL (h : Ev' ma ρ st (.l n)) (e : st[n]? = some (.ls (ds.map .d))) : Ev' (mCB cTup (aCons ma aNil)) ρ st (.d (.tuple ds)) := fun Q q => h _ ⟨_, e, allD_at rfl q⟩
theorem ev_call {F : List W → Sto → WQ → Prop} (h : EvA a ρ st ws) (q : ∀ Q : WQ, Q w st → F ws st Q) : Ev' (mCB F a) ρ st w := fun Q r => h _ (q Q r)
theorem ev_tupRg (h : Ev' ma ρ st (wI i)) (hb : RgOk 0 i) : Ev' (mTupRg (mRg1 ma)) ρ st (wR (rgD 0 i)) := fun Q q => h _ ⟨hb, q⟩
theorem ev_gcSort {ns : List Int} (h : Ev' ma ρ st (.l n)) (e : st[n]? = some (.ls (ns.map wI))) (l : ns.length < 64) : Ev' (mGc (mCB cTup (aCons (mCB cSort (aCons ma aNil)) aNil))) ρ st (wR (isort ns)) := fun Q q =>
  h _ ⟨_, e, intsD_at rfl ⟨l, ⟨_, app_at, allD_at (by rw [List.map_map]; rfl) ⟨st, [_], rfl, Gcd.rfl', trivial, q⟩⟩⟩⟩
theorem ev_gc (h : Ev' ma ρ st w) (k : okW st.length w) : Ev' (mGc ma) ρ st w := fun Q q => h _ ⟨st, [], (List.append_nil _).symm, Gcd.rfl', k, q⟩
theorem ev_ixZ (ha : Ev' ma ρ st (.d (.list ds))) (hb : Ev' mb ρ st (wI i)) (e : atI ds i = some x) : Ev' (mOp oIxZ ma mb) ρ st (.d x) := fun Q q => ha _ (hb _ ⟨x, e, q⟩)
theorem ev_lenZ (h : Ev' ma ρ st (.d (.list ds))) : Ev' (mCB cLen (aCons ma aNil)) ρ st (wI ds.length) := fun Q q => h _ (show Q (wI ((ds.map W.d).length : Nat)) st by rw [List.length_map]; exact q)
/-- tests -/
theorem et_b (h : Ev' m ρ st (wB b)) : EvT (mB m) ρ st b := fun Q q => h _ q
theorem et_tru (h : Ev' m ρ st w) (e : ∀ k : Bool → Prop, k b → tru1 w st k) : EvT (mTru m) ρ st b := fun Q q => h _ (e _ q)
theorem et_truL (h : Ev' m ρ st (.l n)) (e : st[n]? = some (.ls xs)) : EvT (mTru m) ρ st (!xs.isEmpty) := et_tru h fun k q => ⟨xs, e, q⟩
theorem et_truT (h : Ev' m ρ st (.d (.tuple ds))) : EvT (mTru m) ρ st (!ds.isEmpty) := et_tru h fun k q => q
theorem et_and (h : EvT mt ρ st b) (h' : b = true → EvT mt' ρ st c) : EvT (mAnd mt mt') ρ st (b && c) := fun Q q => h _ (by
  cases b with
  | true => exact h' rfl Q q
  | false => exact q)
theorem et_or (h : EvT mt ρ st b) (h' : b = false → EvT mt' ρ st c) : EvT (mOr mt mt') ρ st (b || c) := fun Q q => h _ (by
  cases b with
  | false => exact h' rfl Q q
  | true => exact q)
theorem et_not (h : EvT mt ρ st b) : EvT (mNot mt) ρ st (!b) := fun Q q => h _ q
theorem et_yes : EvT mYes ρ st true := fun Q q => q
theorem et_gc (h : EvT mt ρ st b) : EvT (mGcT mt) ρ st b := fun Q q => h _ ⟨st, [], (List.append_nil _).symm, Gcd.rfl', q⟩
theorem ev_and (ha : Ev' ma ρ st (wB b)) (hb : b = true → Ev' mb ρ st (wB c)) : Ev' (mAndV ma mb) ρ st (wB (b && c)) := fun Q q => ha _ (by
  cases b with
  | true => exact hb rfl Q q
  | false => exact q)
theorem ev_or (ha : Ev' ma ρ st (wB b)) (hb : b = false → Ev' mb ρ st (wB c)) : Ev' (mOrV ma mb) ρ st (wB (b || c)) := fun Q q => ha _ (by
  cases b with
  | false => exact hb rfl Q q
  | true => exact q)
theorem ev_not (ha : Ev' ma ρ st (wB b)) : Ev' (mNotV ma) ρ st (wB (!b)) := fun Q q => ha _ q
theorem ev_if (h : EvT mt ρ st b) (ha : b = true → Ev' ma ρ st w) (hb : b = false → Ev' mb ρ st w) : Ev' (mIf mt ma mb) ρ st w := fun Q q => h _ (by
  cases b with
  | true => exact ha rfl Q q
  | false => exact hb rfl Q q)
/-- statements -/
theorem s_ret (h : Ev' m ρ st w) {E : WE} (q : E.rt w st) : sRet m ρ st E := h _ q
theorem s_set (h : Ev' m ρ st w) {E : WE} {n : Nat} (q : E.nx (ρ.set n (some w)) st) : sAsg m (gN n) ρ st E := h _ q
theorem s_if {A B : MS} {E : WE} (h : EvT mt ρ st b) (ha : b = true → A ρ st E) (hb : b = false → B ρ st E) : sIf mt A B ρ st E := h _ (by
  cases b with
  | true => exact ha rfl
  | false => exact hb rfl)
theorem s_app {E : WE} {mo : ME} (ho : Ev' mo ρ st (.l n)) (e : st[n]? = some (.ls xs)) (hm : Ev' m ρ st w) (l : xs.length < 1000000) (q : E.nx ρ (st.set n (.ls (xs ++ [w])))) : sDrop (mBM cApp mo (aCons m aNil)) ρ st E :=
  ho _ ⟨xs, e, hm _ ⟨xs, e, l, q⟩⟩
/-- an expression whose outcome is pure up to what is let go -/
theorem gc_of {R : WQ} (h : m ρ st fun w s => ∃ s0 g, s = s0 ++ g ∧ Gcd st s0 ∧ okW s0.length w ∧ R w s0) : mGc m ρ st R := h
end
/-! ### all, any, tuple of comprehensions over pure things -/
section
variable {α : Type} {mi : MI} {mt : MT} {me : ME} {vs : List Nat} {ρ : Ev} {st : Sto} {n : Nat}
/-- walking: a tuple of rows, of numbers, a list -/
def Walks (mi : MI) (ρ : Ev) (st : Sto) (ws : List W) (gd : Sto → Prop) : Prop := ∀ R : List W → (Sto → Prop) → Sto → Prop, R ws gd st → mi ρ st R
theorem wk_tup {ma : ME} {ds : List PyData} (h : Ev' ma ρ st (.d (.tuple ds))) : Walks (iT ma) ρ st (ds.map .d) (fun _ => True) := fun R r => h _ r
theorem wk_row {ma : ME} {ns : List Int} (h : Ev' ma ρ st (wR ns)) : Walks (iT ma) ρ st (ns.map wI) (fun _ => True) := fun R r => h _ (show R ((ns.map PyData.int).map W.d) _ st by rw [rowD]; exact r)
theorem wk_rows {ma : ME} {rs : List (List Int)} (h : Ev' ma ρ st (.d (dRows rs))) : Walks (iT ma) ρ st (rs.map wR) (fun _ => True) := fun R r => h _ (show R ((rs.map dInts).map W.d) _ st by rw [List.map_map]; exact r)
theorem wk_rev {ma : ME} {ns : List Int} (h : Ev' ma ρ st (wR ns)) : Walks (iRv ma) ρ st (ns.reverse.map wI) (fun _ => True) := fun R r => h _ (show R ((ns.map PyData.int).reverse.map W.d) _ st by rw [← List.map_reverse, rowD]; exact r)
theorem wk_list {ma : ME} {n : Nat} {xs : List W} (h : Ev' ma ρ st (.l n)) (e : st[n]? = some (.ls xs)) : Walks (iL ma) ρ st xs (fun s => s[n]? = some (.ls xs)) := fun R r => h _ ⟨xs, e, r⟩
theorem wk_rng1 {ma : ME} {j : Int} (h : Ev' ma ρ st (wI j)) (hj : -(2 ^ 62) ≤ j ∧ j < 2 ^ 62) : Walks (iR1 (aCons ma aNil)) ρ st ((List.range j.toNat).map fun i => wI (0 + (i : Nat))) (fun _ => True) := fun R r => h _ ⟨hj, r⟩
theorem wk_rng2 {ma mb : ME} {i j : Int} (h : Ev' ma ρ st (wI i)) (h' : Ev' mb ρ st (wI j)) (hj : -(2 ^ 62) ≤ i ∧ i < 2 ^ 62 ∧ -(2 ^ 62) ≤ j ∧ j < 2 ^ 62) : Walks (iR2 (aCons ma (aCons mb aNil))) ρ st ((List.range (j - i).toNat).map fun k => wI (i + (k : Nat))) (fun _ => True) := fun R r => h _ (h' _ ⟨hj, r⟩)
/-- the same of another store: a list made within a comprehension lies behind -/
theorem ev_all (emb : α → W) (xs : List α) (p : α → Bool) {gd : Sto → Prop} (hi : Walks mi ρ st (xs.map emb) gd) (hgd : ∀ acc, gd (st ++ [.ls acc])) (len : xs.length ≤ 1000000)
    (hs : ∀ x ∈ xs, ∀ acc : List W, Ev' me ((wipeE ρ [n]).set n (some (emb x))) (st ++ [.ls acc]) (wB (p x))) : Ev' (mGc (mCB cAll (aCons (mLc mi (gN n) mYes me [n]) aNil))) ρ st (wB (xs.all p)) := fun Q q => gc_all emb xs p hi hgd len (fun x hx acc Pk h => hs x hx acc Pk h) q
theorem ev_any (emb : α → W) (xs : List α) (p : α → Bool) {gd : Sto → Prop} (hi : Walks mi ρ st (xs.map emb) gd) (hgd : ∀ acc, gd (st ++ [.ls acc])) (len : xs.length ≤ 1000000)
    (hs : ∀ x ∈ xs, ∀ acc : List W, Ev' me ((wipeE ρ [n]).set n (some (emb x))) (st ++ [.ls acc]) (wB (p x))) : Ev' (mGc (mCB cAny (aCons (mLc mi (gN n) mYes me [n]) aNil))) ρ st (wB (xs.any p)) := fun Q q => gc_any emb xs p hi hgd len (fun x hx acc Pk h => hs x hx acc Pk h) q
/-- as a test -/
theorem et_all (emb : α → W) (xs : List α) (p : α → Bool) {gd : Sto → Prop} (hi : Walks mi ρ st (xs.map emb) gd) (hgd : ∀ acc, gd (st ++ [.ls acc])) (len : xs.length ≤ 1000000)
    (hs : ∀ x ∈ xs, ∀ acc : List W, Ev' me ((wipeE ρ [n]).set n (some (emb x))) (st ++ [.ls acc]) (wB (p x))) : EvT (mGcT (mB (mCB cAll (aCons (mLc mi (gN n) mYes me [n]) aNil)))) ρ st (xs.all p) := fun Q q => lc_all emb xs p hi hgd len (fun x hx acc Pk h => hs x hx acc Pk h) fun o => ⟨st, [o], rfl, Gcd.rfl', q⟩
theorem et_any (emb : α → W) (xs : List α) (p : α → Bool) {gd : Sto → Prop} (hi : Walks mi ρ st (xs.map emb) gd) (hgd : ∀ acc, gd (st ++ [.ls acc])) (len : xs.length ≤ 1000000)
    (hs : ∀ x ∈ xs, ∀ acc : List W, Ev' me ((wipeE ρ [n]).set n (some (emb x))) (st ++ [.ls acc]) (wB (p x))) : EvT (mGcT (mB (mCB cAny (aCons (mLc mi (gN n) mYes me [n]) aNil)))) ρ st (xs.any p) := fun Q q => lc_any emb xs p hi hgd len (fun x hx acc Pk h => hs x hx acc Pk h) fun o => ⟨st, [o], rfl, Gcd.rfl', q⟩
theorem ev_tupd (emb : α → W) (xs : List α) (keep : α → Bool) (f : α → PyData) {gd : Sto → Prop} (hi : Walks mi ρ st (xs.map emb) gd) (hgd : ∀ acc, gd (st ++ [.ls acc])) (len : xs.length ≤ 1000000)
    (ht : ∀ x ∈ xs, ∀ acc : List W, EvT mt ((wipeE ρ [n]).set n (some (emb x))) (st ++ [.ls acc]) (keep x)) (hs : ∀ x ∈ xs, ∀ acc : List W, keep x = true → Ev' me ((wipeE ρ [n]).set n (some (emb x))) (st ++ [.ls acc]) (.d (f x))) : Ev' (mGc (mCB cTup (aCons (mLc mi (gN n) mt me [n]) aNil))) ρ st (.d (.tuple ((xs.filter keep).map f))) := fun Q q =>
  gc_tupd emb xs keep f hi hgd len (fun x hx acc Pk Pn h1 h2 => ht x hx acc _ (by
    cases k : keep x with
    | true => exact hs x hx acc k Pk (h1 k)
    | false => exact h2 k)) q
/-- a list: it stays, at the store's end -/
theorem s_setLc {E : WE} {j : Nat} (emb : α → W) (xs : List α) (keep : α → Bool) (f : α → W) {gd : Sto → Prop} (hi : Walks mi ρ st (xs.map emb) gd) (hgd : ∀ acc, gd (st ++ [.ls acc])) (len : xs.length ≤ 1000000)
    (ht : ∀ x ∈ xs, ∀ acc : List W, EvT mt ((wipeE ρ [n]).set n (some (emb x))) (st ++ [.ls acc]) (keep x)) (hs : ∀ x ∈ xs, ∀ acc : List W, keep x = true → Ev' me ((wipeE ρ [n]).set n (some (emb x))) (st ++ [.ls acc]) (f x))
    (q : E.nx (ρ.set j (some (.l st.length))) (st ++ [.ls ((xs.filter keep).map f)])) : sAsg (mLc mi (gN n) mt me [n]) (gN j) ρ st E :=
  lc_map emb xs keep f hi hgd len (fun x hx acc Pk Pn h1 h2 => ht x hx acc _ (by
    cases k : keep x with
    | true => exact hs x hx acc k Pk (h1 k)
    | false => exact h2 k)) q
end
/-- the empty display -/
theorem s_lst0 {ρ : Ev} {st : Sto} {E : WE} {n : Nat} (q : E.nx (ρ.set n (some (.l st.length))) (st ++ [.ls []])) : sAsg (mLst aNil) (gN n) ρ st E := ⟨by decide, q⟩
theorem s_lst1 {ρ : Ev} {st : Sto} {E : WE} {n : Nat} {m : ME} {w : W} (h : Ev' m ρ st w) (q : E.nx (ρ.set n (some (.l st.length))) (st ++ [.ls [w]])) : sAsg (mLst (aCons m aNil)) (gN n) ρ st E := h _ ⟨(by decide : 1 ≤ 1000000), q⟩
/-- tuple(sorted(xs)) as what is handed back -/
theorem s_retSort {ρ : Ev} {st : Sto} {E : WE} {m : ME} {n : Nat} {ns : List Int} (h : Ev' m ρ st (.l n)) (e : st[n]? = some (.ls (ns.map wI))) (l : ns.length < 64) (q : ∀ o, E.rt (wR (isort ns)) (st ++ [o])) : sRet (mCB cTup (aCons (mCB cSort (aCons m aNil)) aNil)) ρ st E :=
  h _ ⟨_, e, intsD_at rfl ⟨l, ⟨_, app_at, allD_at (by rw [List.map_map]; rfl) (q _)⟩⟩⟩
/-! ### statements in a row -/
abbrev WE.thn (E : WE) (r : MS) : WE := ⟨fun ρ s => r ρ s E, E.rt, E.bk, E.ct⟩
section
variable {ρ : Ev} {st : Sto} {E : WE} {r a b : MS} {m : ME} {n k : Nat} {w : W} {xs : List W}
theorem sq (h : a ρ st (E.thn r)) : sSeq a r ρ st E := h
theorem sq_lst0 (q : r (ρ.set n (some (.l st.length))) (st ++ [.ls []]) E) : sSeq (sAsg (mLst aNil) (gN n)) r ρ st E := sq (s_lst0 q)
theorem sq_lst1 (h : Ev' m ρ st w) (q : r (ρ.set n (some (.l st.length))) (st ++ [.ls [w]]) E) : sSeq (sAsg (mLst (aCons m aNil)) (gN n)) r ρ st E := sq (s_lst1 h q)
theorem sq_set (h : Ev' m ρ st w) (q : r (ρ.set n (some w)) st E) : sSeq (sAsg m (gN n)) r ρ st E := sq (s_set h q)
theorem sq_app {mo : ME} (ho : Ev' mo ρ st (.l n)) (e : st[n]? = some (.ls xs)) (hm : Ev' m ρ st w) (l : xs.length < 1000000) (q : r ρ (st.set n (.ls (xs ++ [w]))) E) : sSeq (sDrop (mBM cApp mo (aCons m aNil))) r ρ st E := sq (s_app ho e hm l q)
theorem sq_if {c : Bool} {mt : MT} (h : EvT mt ρ st c) (ha : c = true → a ρ st (E.thn r)) (hb : c = false → b ρ st (E.thn r)) : sSeq (sIf mt a b) r ρ st E := sq (s_if h ha hb)
theorem sq_for {α β : Type} {mi : MI} {mg : MG} {mb : MS} {b0 : β} (emb : α → W) (xs : List α) (step : β → α → β) (R : β → Option W → Ev) (S : β → Sto) {gd : Sto → Prop} (y0 : Option W) (hi : Walks mi ρ st (xs.map emb) gd)
    (hgd : ∀ i, gd (S ((xs.take i).foldl step b0))) (e1 : ρ = R b0 y0) (e2 : st = S b0)
    (hs : ∀ (i : Nat) (x : α) (b : β) (y : Option W) (E' : WE), xs[i]? = some x → b = (xs.take i).foldl step b0 → (∀ y', E'.nx (R (step b x) y') (S (step b x))) → (∀ y', E'.ct (R (step b x) y') (S (step b x))) → mg (emb x) (R b y) (S b) fun ρ2 s2 => mb ρ2 s2 E')
    (hd : ∀ y, r (R (xs.foldl step b0) y) (S (xs.foldl step b0)) E) : sSeq (sFor mi mg mb) r ρ st E := sq (for_fold emb xs step R S y0 hi hgd e1 e2 hs hd)
theorem s_pop {mo : ME} (ho : Ev' mo ρ st (.l n)) (e : st[n]? = some (.ls (xs ++ [w]))) (q : E.nx (ρ.set k (some w)) (st.set n (.ls xs))) : sAsg (mBM0 cPop0 mo) (gN k) ρ st E := by
  refine ho _ ⟨_, e, rfl, _, w, e, by simp, ?_⟩
  rw [List.dropLast_concat]
  exact q
theorem sq_pop {mo : ME} (ho : Ev' mo ρ st (.l n)) (e : st[n]? = some (.ls (xs ++ [w]))) (q : r (ρ.set k (some w)) (st.set n (.ls xs)) E) : sSeq (sAsg (mBM0 cPop0 mo) (gN k)) r ρ st E := sq (s_pop ho e q)
theorem sq_while {c : MT} {mb : MS} (I : Nat → Ev → Sto → Prop) (h0 : ∃ n, I n ρ st) (hs : ∀ n ρ s, I n ρ s → ∃ b, EvT c ρ s b ∧ (b = true → mb ρ s { nx := fun ρ' s' => ∃ k, k < n ∧ I k ρ' s', ct := fun ρ' s' => ∃ k, k < n ∧ I k ρ' s', bk := fun ρ s => r ρ s E, rt := E.rt }) ∧ (b = false → r ρ s E)) : sSeq (sWhile c mb) r ρ st E := by
  refine ⟨I, h0, fun n ρ s q => ?_⟩
  obtain ⟨b, e, h1, h2⟩ := hs n ρ s q
  refine e _ ?_
  cases b with
  | true => exact h1 rfl
  | false => exact h2 rfl
theorem app2_at {a b : Ob} : (st ++ [a, b])[st.length]? = some a := by simp
theorem app2_at1 {a b : Ob} : (st ++ [a, b])[st.length + 1]? = some b := by
  rw [List.getElem?_append_right (by omega)]
  simp
theorem app2_set {a b u : Ob} : (st ++ [a, b]).set st.length u = st ++ [u, b] := by simp
theorem app2_set1 {a b u : Ob} : (st ++ [a, b]).set (st.length + 1) u = st ++ [a, u] := by
  rw [List.set_append_right _ _ (by omega)]
  simp
theorem app11 {a b : Ob} : st ++ [a] ++ [b] = st ++ [a, b] := by rw [List.append_assoc]; rfl
theorem app21 {a b c : Ob} : st ++ [a, b] ++ [c] = st ++ [a, b, c] := by rw [List.append_assoc]; rfl
theorem len1 {a : Ob} : (st ++ [a]).length = st.length + 1 := by rw [List.length_append]; rfl
theorem len2 {a b : Ob} : (st ++ [a, b]).length = st.length + 2 := by rw [List.length_append]; rfl
end
end FL

namespace GR
open PySem PySem.Spec PyProof.Rows L2 KL KG KS KV KY RT
def ancF (ar : List (List Int)) (ms ss : List Int) : List Int := ms.reverse.foldl (ancStep ar ss) []
theorem anc_few (ar : List (List Int)) (ss : List Int) : ∀ (ms found : List Int), (ms.foldl (ancStep ar ss) found).length ≤ found.length + ms.length
  | [], found => Nat.le_refl _
  | m :: ms, found => by
    have z := anc_few ar ss ms (ancStep ar ss found m)
    have y : (ancStep ar ss found m).length ≤ found.length + 1 := by
      unfold ancStep
      split
      · rw [List.length_append]; exact Nat.le_refl _
      · omega
    show (ms.foldl (ancStep ar ss) (ancStep ar ss found m)).length ≤ _
    rw [List.length_cons]
    omega
end GR

/-! Ancestors and districts within a lot, as sets. -/
namespace FL
open PySem GR
open Classical
/-- the ancestors of ss within ms: along the rows [i, j] -/
inductive AncR (ar : List (List Int)) (ms ss : List Int) : Int → Prop
  | base {y : Int} (h : y ∈ ms) (h2 : y ∈ ss) : AncR ar ms ss y
  | step {y z : Int} (h : y ∈ ms) (a : AncR ar ms ss z) (e : [y, z] ∈ ar) : AncR ar ms ss y
/-- joined to x within ms by rows of hs -/
inductive ConR (hs : List (List Int)) (ms : List Int) (x : Int) : Int → Prop
  | base : ConR hs ms x x
  | step {y z : Int} {b : List Int} (a : ConR hs ms x z) (h : b ∈ hs) (hz : z ∈ b) (hy : y ∈ b) (hm : y ∈ ms) : ConR hs ms x y
noncomputable def ancL (ar : List (List Int)) (ms ss : List Int) : List Int := ms.filter fun y => decide (AncR ar ms ss y)
noncomputable def comL (hs : List (List Int)) (ms : List Int) (x : Int) : List Int := ms.filter fun y => decide (ConR hs ms x y)
noncomputable def rowStep (hs : List (List Int)) (ms : List Int) (acc : List (List Int)) (x : Int) : List (List Int) := if x ∈ acc.flatten then acc else acc ++ [comL hs ms x]
noncomputable def rowsL (hs : List (List Int)) (ms : List Int) : List (List Int) := ms.foldl (rowStep hs ms) []
theorem AncR.mem {ar : List (List Int)} {ms ss : List Int} {y : Int} (h : AncR ar ms ss y) : y ∈ ms := by cases h <;> assumption
theorem ConR.mem {hs : List (List Int)} {ms : List Int} {x y : Int} (h : ConR hs ms x y) (hx : x ∈ ms) : y ∈ ms := by
  cases h with
  | base => exact hx
  | step _ _ _ _ hm => exact hm
theorem mem_ancL {ar : List (List Int)} {ms ss : List Int} {y : Int} : y ∈ ancL ar ms ss ↔ AncR ar ms ss y := by
  unfold ancL
  rw [List.mem_filter, decide_eq_true_iff]
  exact ⟨fun h => h.2, fun h => ⟨h.mem, h⟩⟩
theorem mem_comL {hs : List (List Int)} {ms : List Int} {x y : Int} (hx : x ∈ ms) : y ∈ comL hs ms x ↔ ConR hs ms x y := by
  unfold comL
  rw [List.mem_filter, decide_eq_true_iff]
  exact ⟨fun h => h.2, fun h => ⟨h.mem hx, h⟩⟩
/-- strictly ascending -/
abbrev Asc (ns : List Int) : Prop := ns.Pairwise (· < ·)
theorem asc_nodup {ns : List Int} (h : Asc ns) : ns.Nodup := h.imp fun h => by omega
theorem asc_filter {ns : List Int} (h : Asc ns) (p : Int → Bool) : Asc (ns.filter p) := h.filter p
/-- ascending lists with the same items are the same -/
theorem asc_ext {ns ms : List Int} (h : Asc ns) (h' : Asc ms) (e : ∀ y, y ∈ ns ↔ y ∈ ms) : ns = ms := by
  refine List.Perm.eq_of_pairwise (le := fun a b : Int => a ≤ b) (fun a b _ _ h1 h2 => Int.le_antisymm h1 h2) (h.imp fun h => Int.le_of_lt h) (h'.imp fun h => Int.le_of_lt h) ?_
  exact (List.perm_ext_iff_of_nodup (asc_nodup h) (asc_nodup h')).mpr e
/-- what is sorted, without doubles, with the items of an ascending list is that list -/
theorem isort_asc {ns ms : List Int} (nd : ns.Nodup) (h : Asc ms) (e : ∀ y, y ∈ ns ↔ y ∈ ms) : isort ns = ms := by
  refine asc_ext ?_ h fun y => ((isort_perm ns).mem_iff).trans (e y)
  have w := isort_pw ns
  have n : (isort ns).Nodup := (isort_perm ns).nodup_iff.mpr nd
  exact (w.and n).imp fun ⟨a, b⟩ => by omega
theorem ancL_asc {ar : List (List Int)} {ms ss : List Int} (h : Asc ms) : Asc (ancL ar ms ss) := asc_filter h _
theorem comL_asc {hs : List (List Int)} {ms : List Int} {x : Int} (h : Asc ms) : Asc (comL hs ms x) := asc_filter h _
theorem len_filter_le {α : Type} (p : α → Bool) (l : List α) : (l.filter p).length ≤ l.length := List.length_filter_le p l
/-- a list without doubles within a shorter one is no longer -/
theorem nodup_le : ∀ {xs ys : List Int}, xs.Nodup → (∀ x ∈ xs, x ∈ ys) → xs.length ≤ ys.length := fun {xs ys} h1 h2 => by
  induction xs generalizing ys with
  | nil => exact Nat.zero_le _
  | cons x xs ih =>
    have hx := h2 x List.mem_cons_self
    have := ih (ys := ys.erase x) (List.nodup_cons.mp h1).2 fun y hy => by
      have ne : y ≠ x := fun e => (List.nodup_cons.mp h1).1 (e ▸ hy)
      exact (List.mem_erase_of_ne ne).mpr (h2 y (List.mem_cons_of_mem _ hy))
    rw [List.length_erase_of_mem hx] at this
    have : 0 < ys.length := List.length_pos_of_mem hx
    rw [List.length_cons]
    omega
/-! ### the walk down a lot finds all ancestors -/
/-- rows lead up -/
def Up (ar : List (List Int)) : Prop := ∀ r ∈ ar, ∃ i j : Int, r = [i, j] ∧ i < j
theorem anc_pos {ar : List (List Int)} {ss found : List Int} {m : Int} (c : m ∈ ss ∨ ∃ o ∈ found, [m, o] ∈ ar) : ancStep ar ss found m = found ++ [m] := by
  unfold ancStep
  rw [if_pos c]
theorem anc_neg {ar : List (List Int)} {ss found : List Int} {m : Int} (c : ¬ (m ∈ ss ∨ ∃ o ∈ found, [m, o] ∈ ar)) : ancStep ar ss found m = found := by
  unfold ancStep
  rw [if_neg c]
theorem walk_mem {ar : List (List Int)} {ms ss : List Int} (up : Up ar) (h : Asc ms) : ∀ y, y ∈ ancF ar ms ss ↔ AncR ar ms ss y := by
  have key : ∀ (pre suf : List Int), ms = pre ++ suf → ∀ y, y ∈ suf.reverse.foldl (ancStep ar ss) [] ↔ (y ∈ suf ∧ AncR ar ms ss y) := by
    intro pre suf
    induction suf generalizing pre with
    | nil => exact fun _ y => by simp
    | cons m suf ih =>
      intro e y
      have ih := ih (pre ++ [m]) (by rw [e]; simp)
      rw [List.reverse_cons, List.foldl_append]
      show y ∈ ancStep ar ss (suf.reverse.foldl (ancStep ar ss) []) m ↔ _
      have hm : m ∈ ms := by rw [e]; simp
      have big : ∀ z ∈ ms, m < z → z ∈ suf := fun z hz lt => by
        rw [e] at hz h
        rcases List.mem_append.mp hz with hz | hz
        · have := (List.pairwise_append.mp h).2.2 z hz m List.mem_cons_self
          omega
        · rcases List.mem_cons.mp hz with rfl | hz
          · omega
          · exact hz
      have iff : (m ∈ ss ∨ ∃ o ∈ suf.reverse.foldl (ancStep ar ss) [], [m, o] ∈ ar) ↔ AncR ar ms ss m := by
        constructor
        · rintro (z | ⟨o, ho, ea⟩)
          · exact .base hm z
          · exact .step hm ((ih o).mp ho).2 ea
        · intro a
          cases a with
          | base _ z => exact .inl z
          | @step _ z _ a ea =>
            obtain ⟨i, j, e1, lt⟩ := up _ ea
            cases e1
            exact .inr ⟨z, (ih z).mpr ⟨big z a.mem lt, a⟩, ea⟩
      by_cases c : m ∈ ss ∨ ∃ o ∈ suf.reverse.foldl (ancStep ar ss) [], [m, o] ∈ ar
      · rw [anc_pos c, List.mem_append, ih, List.mem_singleton, List.mem_cons]
        constructor
        · rintro (⟨a, b⟩ | rfl)
          · exact ⟨.inr a, b⟩
          · exact ⟨.inl rfl, iff.mp c⟩
        · rintro ⟨rfl | a, b⟩
          · exact .inr rfl
          · exact .inl ⟨a, b⟩
      · rw [anc_neg c, ih, List.mem_cons]
        constructor
        · rintro ⟨a, b⟩
          exact ⟨.inr a, b⟩
        · rintro ⟨rfl | a, b⟩
          · exact absurd (iff.mpr b) c
          · exact ⟨a, b⟩
  intro y
  have := key [] ms rfl y
  unfold ancF
  rw [this]
  exact ⟨fun h => h.2, fun h => ⟨h.mem, h⟩⟩
theorem walk_nodup {ar : List (List Int)} {ss : List Int} : ∀ {ms : List Int}, ms.Nodup → (ancF ar ms ss).Nodup := fun {ms} nd => by
  have key : ∀ (xs found : List Int), xs.Nodup → found.Nodup → (∀ x ∈ xs, x ∉ found) → (xs.foldl (ancStep ar ss) found).Nodup := by
    intro xs
    induction xs with
    | nil => exact fun _ _ h _ => h
    | cons x xs ih =>
      intro found h1 h2 h3
      refine ih _ (List.nodup_cons.mp h1).2 ?_ ?_
      · unfold ancStep
        split
        · rw [List.nodup_append]
          exact ⟨h2, by simp, fun a ha b hb e => h3 x List.mem_cons_self (by rw [List.mem_singleton.mp hb] at e; exact e ▸ ha)⟩
        · exact h2
      · intro y hy hm
        unfold ancStep at hm
        have ne : y ≠ x := fun e => (List.nodup_cons.mp h1).1 (e ▸ hy)
        split at hm
        · rcases List.mem_append.mp hm with z | z
          · exact h3 y (List.mem_cons_of_mem _ hy) z
          · exact ne (List.mem_singleton.mp z)
        · exact h3 y (List.mem_cons_of_mem _ hy) hm
  exact key _ _ ((List.reverse_perm ms).nodup_iff.mpr nd) List.nodup_nil fun _ _ h => absurd h List.not_mem_nil
theorem walk_is {ar : List (List Int)} {ms ss : List Int} (up : Up ar) (h : Asc ms) : isort (ancF ar ms ss) = ancL ar ms ss :=
  isort_asc (walk_nodup (asc_nodup h)) (ancL_asc h) fun y => (walk_mem up h y).trans mem_ancL.symm
end FL

/-! Rounds from a lot: they end at the greatest closed lot. -/
namespace FL
open PySem GR
open Classical
section
variable {ar hs : List (List Int)} {ms ls ss S H : List Int} {x y z : Int}
theorem anc_mono (h : ∀ y ∈ ms, y ∈ ls) (a : AncR ar ms ss y) : AncR ar ls ss y := by
  induction a with
  | base h1 h2 => exact .base (h _ h1) h2
  | step h1 _ e ih => exact .step (h _ h1) ih e
theorem con_mono (h : ∀ y ∈ ms, y ∈ ls) (a : ConR hs ms x y) : ConR hs ls x y := by
  induction a with
  | base => exact .base
  | step _ hb hz hy hm ih => exact .step ih hb hz hy (h _ hm)
theorem con_trans (a : ConR hs ms x y) (b : ConR hs ms y z) : ConR hs ms x z := by
  induction b with
  | base => exact a
  | step _ hb hz hy hm ih => exact .step ih hb hz hy hm
theorem con_symm (hx : x ∈ ms) (a : ConR hs ms x y) : ConR hs ms y x := by
  induction a with
  | base => exact .base
  | @step y z b a1 hb hz hy hm ih =>
    have zm : z ∈ ms := a1.mem hx
    exact con_trans (.step (.base : ConR hs ms y y) hb hy hz zm) ih
theorem comL_sub : ∀ y ∈ comL hs S x, y ∈ S := fun y hy => (List.mem_filter.mp hy).1
theorem ancL_sub : ∀ y ∈ ancL ar S ss, y ∈ S := fun y hy => (List.mem_filter.mp hy).1
theorem sub_len {A B : List Int} (hA : Asc A) (hB : Asc B) (s : ∀ y ∈ A, y ∈ B) (ne : A ≠ B) : A.length < B.length := by
  have le := nodup_le (asc_nodup hA) s
  rcases Nat.lt_or_ge A.length B.length with h | h
  · exact h
  · refine absurd (asc_ext hA hB fun y => ⟨s y, fun hy => ?_⟩) ne
    refine Classical.byContradiction fun n => ?_
    have := nodup_le (xs := y :: A) (List.nodup_cons.mpr ⟨n, asc_nodup hA⟩) (ys := B) fun w hw => by
      rcases List.mem_cons.mp hw with rfl | hw
      · exact hy
      · exact s w hw
    rw [List.length_cons] at this
    omega
/-- a lot that rounds leave as it is -/
structure Closd (ar hs : List (List Int)) (ss : List Int) (x : Int) (S : List Int) : Prop where
  asc : Asc S
  sub : ∀ y ∈ ss, y ∈ S
  com : comL hs S x = S
  anc : ancL ar S ss = S
theorem Closd.in_com (h : Closd ar hs ss x H) (hx : x ∈ ss) (s : ∀ y ∈ H, y ∈ S) : ∀ y ∈ H, y ∈ comL hs S x := fun y hy => by
  have hy' := hy
  rw [← h.com] at hy'
  have c := (mem_comL (h.sub x hx)).mp hy'
  exact (mem_comL (s x (h.sub x hx))).mpr (con_mono s c)
theorem Closd.in_anc (h : Closd ar hs ss x H) (s : ∀ y ∈ H, y ∈ S) : ∀ y ∈ H, y ∈ ancL ar S ss := fun y hy => by
  have hy' := hy
  rw [← h.anc] at hy'
  exact mem_ancL.mpr (anc_mono s (mem_ancL.mp hy'))
/-- rounds, so many at most -/
noncomputable def rnd (ar hs : List (List Int)) (ss : List Int) (x : Int) : Nat → List Int → List (List Int)
  | 0, _ => []
  | k + 1, S => (if comL hs S x = S then [] else [comL hs S x]) ++ (if ancL ar (comL hs S x) ss = comL hs S x then [] else [ancL ar (comL hs S x) ss]) ++ (if ancL ar (comL hs S x) ss = S then [] else rnd ar hs ss x k (ancL ar (comL hs S x) ss))
noncomputable def roundsL (ar hs : List (List Int)) (ss : List Int) (x : Int) (S : List Int) : List (List Int) := S :: rnd ar hs ss x (S.length + 1) S
/-- a round's end -/
noncomputable def rst (ar hs : List (List Int)) (ss : List Int) (x : Int) (S : List Int) : List Int := ancL ar (comL hs S x) ss
theorem rst_asc (h : Asc S) : Asc (rst ar hs ss x S) := ancL_asc (comL_asc h)
theorem rst_sub : ∀ y ∈ rst ar hs ss x S, y ∈ S := fun y hy => comL_sub y (ancL_sub y hy)
theorem rst_com (h : Asc S) (e : rst ar hs ss x S = S) : comL hs S x = S := asc_ext (comL_asc h) h fun y => ⟨comL_sub y, fun hy => ancL_sub y (by
  show y ∈ rst ar hs ss x S
  rw [e]
  exact hy)⟩
/-- a lot that is joined, as a lot -/
structure Joi (hs : List (List Int)) (ss : List Int) (x : Int) : Prop where
  asc : Asc ss
  mem : x ∈ ss
  all : comL hs ss x = ss
theorem Joi.in_com (j : Joi hs ss x) (s : ∀ y ∈ ss, y ∈ S) : ∀ y ∈ ss, y ∈ comL hs S x := fun y hy => by
  have hy' := hy
  rw [← j.all] at hy'
  exact (mem_comL (s x j.mem)).mpr (con_mono s ((mem_comL j.mem).mp hy'))
theorem Joi.in_rst (j : Joi hs ss x) (s : ∀ y ∈ ss, y ∈ S) : ∀ y ∈ ss, y ∈ rst ar hs ss x S := fun y hy => mem_ancL.mpr (.base (j.in_com s y hy) hy)
theorem rst_closd (h : Asc S) (j : Joi hs ss x) (s : ∀ y ∈ ss, y ∈ S) (e : rst ar hs ss x S = S) : Closd ar hs ss x S := by
  have c := rst_com h e
  refine ⟨h, s, c, ?_⟩
  have e' : ancL ar (comL hs S x) ss = S := e
  rw [c] at e'
  exact e'
theorem rnd_cont {k : Nat} (ne : rst ar hs ss x S ≠ S) : rnd ar hs ss x (k + 1) S = ((if comL hs S x = S then [] else [comL hs S x]) ++ (if rst ar hs ss x S = comL hs S x then [] else [rst ar hs ss x S])) ++ rnd ar hs ss x k (rst ar hs ss x S) := by
  have ne' : ¬ ancL ar (comL hs S x) ss = S := ne
  rw [rnd, if_neg ne']
  rfl
theorem rnd_stop {k : Nat} (h : Asc S) (e : rst ar hs ss x S = S) : rnd ar hs ss x (k + 1) S = [] := by
  have c := rst_com h e
  have e' : ancL ar (comL hs S x) ss = S := e
  rw [rnd, if_pos e', if_pos c, if_pos (e'.trans c.symm)]
  rfl
theorem rst_len (h : Asc S) (ne : rst ar hs ss x S ≠ S) : (rst ar hs ss x S).length < S.length := sub_len (rst_asc h) h rst_sub ne
/-- more rounds than are wanted change nothing -/
theorem rnd_fuel : ∀ (n : Nat) (S : List Int), Asc S → S.length ≤ n → ∀ k, S.length < k → rnd ar hs ss x k S = rnd ar hs ss x (S.length + 1) S
  | 0, S, h, l, k + 1, _ => by
    by_cases e : rst ar hs ss x S = S
    · rw [rnd_stop h e, rnd_stop h e]
    · have := rst_len h e
      omega
  | n + 1, S, h, l, k + 1, hk => by
    by_cases e : rst ar hs ss x S = S
    · rw [rnd_stop h e, rnd_stop h e]
    · have lt := rst_len h e
      rw [rnd_cont e, rnd_cont e, rnd_fuel n _ (rst_asc h) (by omega) k (by omega), rnd_fuel n _ (rst_asc h) (by omega) S.length (by omega)]
theorem rounds_stop (h : Asc S) (e : rst ar hs ss x S = S) : roundsL ar hs ss x S = [S] := by
  rw [roundsL, rnd_stop h e]
theorem rounds_cont (h : Asc S) (ne : rst ar hs ss x S ≠ S) : roundsL ar hs ss x S = (S :: (if comL hs S x = S then [] else [comL hs S x])) ++ (if rst ar hs ss x S = comL hs S x then [] else [rst ar hs ss x S]) ++ rnd ar hs ss x ((rst ar hs ss x S).length + 1) (rst ar hs ss x S) := by
  rw [roundsL, rnd_cont ne, rnd_fuel S.length (rst ar hs ss x S) (rst_asc h) (Nat.le_of_lt (rst_len h ne)) S.length (rst_len h ne)]
  rfl
/-- what is written before the rounds from there ends with there -/
theorem rst_last (ne : rst ar hs ss x S ≠ S) : ∃ zs, (S :: (if comL hs S x = S then [] else [comL hs S x])) ++ (if rst ar hs ss x S = comL hs S x then [] else [rst ar hs ss x S]) = zs ++ [rst ar hs ss x S] := by
  by_cases c : rst ar hs ss x S = comL hs S x
  · rw [if_pos c, List.append_nil]
    have : comL hs S x ≠ S := fun e => ne (c.trans e)
    rw [if_neg this]
    exact ⟨[S], by rw [c]; rfl⟩
  · rw [if_neg c]
    exact ⟨_, rfl⟩
/-- the last of the rounds -/
noncomputable def lastR (ar hs : List (List Int)) (ss : List Int) (x : Int) (S : List Int) : List Int := (roundsL ar hs ss x S).getLastD []
theorem last_stop (h : Asc S) (e : rst ar hs ss x S = S) : lastR ar hs ss x S = S := by
  rw [lastR, rounds_stop h e]
  rfl
theorem last_cont (h : Asc S) (ne : rst ar hs ss x S ≠ S) : lastR ar hs ss x S = lastR ar hs ss x (rst ar hs ss x S) := by
  obtain ⟨zs, e⟩ := rst_last (ar := ar) (hs := hs) (ss := ss) (x := x) ne
  rw [lastR, rounds_cont h ne, e, List.append_assoc]
  show (zs ++ ([rst ar hs ss x S] ++ rnd ar hs ss x ((rst ar hs ss x S).length + 1) (rst ar hs ss x S))).getLastD [] = _
  have q : ([rst ar hs ss x S] ++ rnd ar hs ss x ((rst ar hs ss x S).length + 1) (rst ar hs ss x S)) = roundsL ar hs ss x (rst ar hs ss x S) := rfl
  rw [q, lastR]
  have ne2 : roundsL ar hs ss x (rst ar hs ss x S) ≠ [] := by
    unfold roundsL
    exact List.cons_ne_nil _ _
  rw [List.getLastD_eq_getLast?, List.getLastD_eq_getLast?, List.getLast?_append, List.getLast?_eq_some_getLast ne2]
  rfl
/-- the last is closed, and holds all that are closed -/
theorem last_is (j : Joi hs ss x) : ∀ (n : Nat) (S : List Int), S.length ≤ n → Asc S → (∀ y ∈ ss, y ∈ S) → Closd ar hs ss x (lastR ar hs ss x S) ∧ (∀ y ∈ lastR ar hs ss x S, y ∈ S) ∧ ∀ H, Closd ar hs ss x H → (∀ y ∈ H, y ∈ S) → ∀ y ∈ H, y ∈ lastR ar hs ss x S := by
  intro n
  induction n with
  | zero =>
    intro S l h s
    have := s x j.mem
    have := List.length_pos_of_mem this
    omega
  | succ n ih =>
    intro S l h s
    by_cases e : rst ar hs ss x S = S
    · rw [last_stop h e]
      exact ⟨rst_closd h j s e, fun y hy => hy, fun H _ hH => hH⟩
    · rw [last_cont h e]
      have lt := rst_len h e
      obtain ⟨a, b, c⟩ := ih (rst ar hs ss x S) (by omega) (rst_asc h) (j.in_rst s)
      refine ⟨a, fun y hy => rst_sub y (b y hy), fun H hH sub => c H hH ?_⟩
      have s1 := hH.in_com j.mem sub
      exact hH.in_anc s1
theorem last_closd (j : Joi hs ss x) (h : Asc S) (s : ∀ y ∈ ss, y ∈ S) : Closd ar hs ss x (lastR ar hs ss x S) := (last_is j _ S (Nat.le_refl _) h s).1
theorem last_sub (j : Joi hs ss x) (h : Asc S) (s : ∀ y ∈ ss, y ∈ S) : ∀ y ∈ lastR ar hs ss x S, y ∈ S := (last_is j _ S (Nat.le_refl _) h s).2.1
theorem last_most (j : Joi hs ss x) (h : Asc S) (s : ∀ y ∈ ss, y ∈ S) (c : Closd ar hs ss x H) (sub : ∀ y ∈ H, y ∈ S) : ∀ y ∈ H, y ∈ lastR ar hs ss x S := (last_is j _ S (Nat.le_refl _) h s).2.2 H c sub
/-- a part is closed itself -/
theorem self_closd (j : Joi hs ss x) : Closd ar hs ss x ss := ⟨j.asc, fun y hy => hy, j.all, List.filter_eq_self.mpr fun y hy => decide_eq_true (.base hy hy)⟩
theorem closd_rst (c : Closd ar hs ss x S) : rst ar hs ss x S = S := by
  unfold rst
  rw [c.com, c.anc]
theorem closd_last (c : Closd ar hs ss x S) : lastR ar hs ss x S = S := last_stop c.asc (closd_rst c)
theorem closd_rounds (c : Closd ar hs ss x S) : roundsL ar hs ss x S = [S] := rounds_stop c.asc (closd_rst c)
/-- rounds from a lot between end alike -/
theorem last_between {M : List Int} (j : Joi hs ss x) (h : Asc S) (s : ∀ y ∈ ss, y ∈ S) (hM : Asc M) (lo : ∀ y ∈ lastR ar hs ss x S, y ∈ M) (hi : ∀ y ∈ M, y ∈ S) : lastR ar hs ss x M = lastR ar hs ss x S := by
  have c := last_closd (ar := ar) j h s
  have sM : ∀ y ∈ ss, y ∈ M := fun y hy => lo y (c.sub y hy)
  have cM := last_closd (ar := ar) j hM sM
  exact asc_ext cM.asc c.asc fun y => ⟨fun hy => last_most j h s cM (fun w hw => hi w (last_sub j hM sM w hw)) y hy, fun hy => last_most j hM sM c lo y hy⟩
/-- a closed lot as long as the last is the last -/
theorem closd_len (j : Joi hs ss x) (h : Asc S) (s : ∀ y ∈ ss, y ∈ S) (c : Closd ar hs ss x H) (sub : ∀ y ∈ H, y ∈ S) (ne : H ≠ lastR ar hs ss x S) : H.length < (lastR ar hs ss x S).length := sub_len c.asc (last_closd j h s).asc (last_most j h s c sub) ne
end
end FL

/-! The program's lots: what its defs do to values. -/
namespace FL
open PySem PySem.Spec PyProof.Rows L2 KL KG GR KV KS KY RT
open Classical
def F_wi : List W → Sto → WQ → Prop := fun ws st Q => ∃ ns ms : List Int, ws = [wR ns, wR ms] ∧ ns.length ≤ 1000 ∧ Q (wB (ns.all fun x => decide (x ∈ ms))) st
theorem mo_wi : MonoF F_wi := ⟨fun ws st Q Q' f ⟨ns, ms, e, l, q⟩ => ⟨ns, ms, e, l, f _ _ q⟩⟩
def m_wi : MS :=
  (sRet (mCB cAll (aCons (mLc (iT (mVar 0)) (gN 2) mYes (mOp (oInI false) (mVar 2) (mVar 1)) [2]) aNil)))
theorem do_wi : Does m_wi 2 1 F_wi := by
  rintro ws st Q ⟨ns, ms, rfl, hl, q⟩
  exact ⟨rfl, ev_all (n := 2) wI ns (fun x => decide (x ∈ ms)) (wk_row (ev_var rfl)) (fun _ => trivial) (by omega) (fun x hx acc => ev_in (ev_var rfl) (ev_var rfl)) _ q⟩
def F_wo : List W → Sto → WQ → Prop := fun ws st Q => ∃ ns ms : List Int, ws = [wR ns, wR ms] ∧ ns.length ≤ 1000 ∧ Q (wR (ns.filter fun x => !decide (x ∈ ms))) st
theorem mo_wo : MonoF F_wo := ⟨fun ws st Q Q' f ⟨ns, ms, e, l, q⟩ => ⟨ns, ms, e, l, f _ _ q⟩⟩
def m_wo : MS :=
  (sRet (mCB cTup (aCons (mLc (iT (mVar 0)) (gN 2) (mB (mOp (oInI true) (mVar 2) (mVar 1))) (mVar 2) [2]) aNil)))
theorem do_wo : Does m_wo 2 1 F_wo := by
  rintro ws st Q ⟨ns, ms, rfl, hl, q⟩
  exact ⟨rfl, ev_tupd (n := 2) wI ns (fun x => !decide (x ∈ ms)) .int (wk_row (ev_var rfl)) (fun _ => trivial) (by omega) (fun x hx acc => et_b (ev_notin (ev_var rfl) (ev_var rfl))) (fun x hx acc _ => ev_var rfl) _ q⟩
def F_nw : List W → Sto → WQ → Prop := fun ws st Q => ∃ ns ms : List Int, ws = [wR ns, wR ms] ∧ ns.length ≤ 1000 ∧ (∀ x ∈ ns, x ∈ ms) ∧ Q (.d .none) st
theorem mo_nw : MonoF F_nw := ⟨fun ws st Q Q' f ⟨ns, ms, e, l, h, q⟩ => ⟨ns, ms, e, l, h, f _ _ q⟩⟩
def m_nw : MS :=
  (sIf (mNot (mB (mCB F_wi (aCons (mVar 0) (aCons (mVar 1) aNil))))) sNever sNext)
theorem do_nw : Does m_nw 2 0 F_nw := by
  rintro ws st Q ⟨ns, ms, rfl, hl, h, q⟩
  refine ⟨rfl, s_if (b := false) (fun R r => ?_) (fun c => nomatch c) (fun _ => ⟨st, [], (List.append_nil _).symm, Gcd.rfl', q⟩)⟩
  refine ⟨ns, ms, rfl, hl, ?_⟩
  have e : (ns.all fun x => decide (x ∈ ms)) = true := by
    rw [List.all_eq_true]
    exact fun x hx => decide_eq_true (h x hx)
  rw [e]
  exact r
def F_an : List W → Sto → WQ → Prop := fun ws st Q => ∃ (n l : PyData) (ar : List (List Int)) (ms ss : List Int), ws = [.d (.tuple [n, dRows ar, l]), wR ms, wR ss] ∧ ms.length < 64 ∧ Asc ms ∧ Up ar ∧ Q (wR (ancL ar ms ss)) st
theorem mo_an : MonoF F_an := ⟨fun ws st Q Q' f ⟨n, l, ar, ms, ss, e, a, b, c, q⟩ => ⟨n, l, ar, ms, ss, e, a, b, c, f _ _ q⟩⟩
def m_an : MS :=
  (sSeq (sAsg (mLst aNil) (gN 3))
      (sSeq (sFor (iRv (mVar 1)) (gN 4)
      (sIf (mOr (mB (mOp (oInI false) (mVar 4) (mVar 2))) (mGcT (mB (mCB cAny (aCons (mLc (iL (mVar 3)) (gN 5) mYes (mOp oInT (mTup (aCons (mVar 4) (aCons (mVar 5) aNil))) (mOp oIxT (mVar 0) (mC (.int 1)))) [5]) aNil))))) (sDrop (mBM cApp (mVar 3) (aCons (mVar 4) aNil))) sNext))
      (sRet (mCB cTup (aCons (mCB cSort (aCons (mVar 3) aNil)) aNil)))))
theorem do_an : Does m_an 3 3 F_an := by
  rintro ws st Q ⟨n, l, ar, ms, ss, rfl, hl, asc, up, q⟩
  refine ⟨rfl, sq_lst0 ?_⟩
  refine sq_for (α := Int) (β := List Int) wI ms.reverse (ancStep ar ss) (fun b y => [some (.d (.tuple [n, dRows ar, l])), some (wR ms), some (wR ss), some (.l st.length), y, none]) (fun b => st ++ [.ls (b.map wI)]) (b0 := []) none ?_ (gd := fun _ => True) (fun _ => trivial) ?_ ?_ ?_ ?_
  · exact wk_rev (ev_var rfl)
  · rfl
  · rfl
  · intro i x b y E' hx hb h1 h2
    have few : b.length < 64 := by
      have := anc_few ar ss (ms.reverse.take i) []
      rw [← hb, List.length_take, List.length_nil, List.length_reverse] at this
      omega
    refine s_if (et_or (et_b (ev_in (ev_var rfl) (ev_var rfl))) (fun _ => et_any wI b (fun o => decide ([x, o] ∈ ar)) (wk_list (ev_var rfl) app_at) (fun acc => app_lt app_at) (by omega) (fun o ho acc => ev_inT (r := [x, o]) (ev_tup (ds := [.int x, .int o]) (ea_cons (ev_var rfl) (ea_cons (ev_var rfl) ea_nil)) (show 2 ≤ 1000000 by decide)) (ev_ixT (ev_var rfl) ev_c rfl)))) (fun c => ?_) (fun c => ?_)
    · have z : x ∈ ss ∨ ∃ o ∈ b, [x, o] ∈ ar := by
        rw [Bool.or_eq_true, decide_eq_true_iff, List.any_eq_true] at c
        exact c.imp id fun ⟨o, ho, e⟩ => ⟨o, ho, of_decide_eq_true e⟩
      refine s_app (ev_var rfl) app_at (ev_var rfl) (by rw [List.length_map]; omega) ?_
      have h := h1 (some (wI x))
      rw [anc_pos z, List.map_append] at h
      rw [app_set]
      exact h
    · have z : ¬ (x ∈ ss ∨ ∃ o ∈ b, [x, o] ∈ ar) := fun z => by
        have : (decide (x ∈ ss) || b.any fun o => decide ([x, o] ∈ ar)) = true := by
          rw [Bool.or_eq_true, decide_eq_true_iff, List.any_eq_true]
          exact z.imp id fun ⟨o, ho, e⟩ => ⟨o, ho, decide_eq_true e⟩
        rw [this] at c
        cases c
      have h := h1 (some (wI x))
      rw [anc_neg z] at h
      exact h
  · intro y
    have few : (ancF ar ms ss).length < 64 := by
      have := anc_few ar ss ms.reverse []
      rw [List.length_reverse, List.length_nil] at this
      unfold ancF
      omega
    exact s_retSort (ns := ancF ar ms ss) (ev_var rfl) app_at few (fun o => ⟨st, [_, o], by rw [List.append_assoc]; rfl, Gcd.rfl', trivial, by rw [walk_is up asc]; exact q⟩)
/-! ### the district of a variable -/
theorem snocI (xs : List Int) (y : Int) : (xs ++ [y]).map wI = xs.map wI ++ [wI y] := by rw [List.map_append]; rfl
theorem snocR (xs : List (List Int)) (y : List Int) : (xs ++ [y]).map wR = xs.map wR ++ [wR y] := by rw [List.map_append]; rfl
def lnk (hs : List (List Int)) (one y : Int) : Bool := hs.any fun b => decide (one ∈ b) && decide (y ∈ b)
theorem lnk_iff {hs : List (List Int)} {one y : Int} : lnk hs one y = true ↔ ∃ b ∈ hs, one ∈ b ∧ y ∈ b := by
  unfold lnk
  rw [List.any_eq_true]
  exact ⟨fun ⟨b, h, e⟩ => ⟨b, h, by rw [Bool.and_eq_true, decide_eq_true_iff, decide_eq_true_iff] at e; exact e⟩, fun ⟨b, h, e⟩ => ⟨b, h, by rw [Bool.and_eq_true, decide_eq_true_iff, decide_eq_true_iff]; exact e⟩⟩
def diStep (hs : List (List Int)) (one : Int) (fw : List Int × List Int) (y : Int) : List Int × List Int := if (!decide (y ∈ fw.1) && lnk hs one y) = true then (fw.1 ++ [y], fw.2 ++ [y]) else fw
theorem di_pos {hs : List (List Int)} {one y : Int} {f w : List Int} (c : (!decide (y ∈ f) && lnk hs one y) = true) : diStep hs one (f, w) y = (f ++ [y], w ++ [y]) := by
  unfold diStep
  rw [if_pos c]
theorem di_neg {hs : List (List Int)} {one y : Int} {f w : List Int} (c : ¬ (!decide (y ∈ f) && lnk hs one y) = true) : diStep hs one (f, w) y = (f, w) := by
  unfold diStep
  rw [if_neg c]
/-- one turn: all new neighbours come to both -/
theorem di_fold (hs : List (List Int)) (one : Int) : ∀ (ms f w : List Int), ms.Nodup → ms.foldl (diStep hs one) (f, w) = (f ++ ms.filter (fun y => !decide (y ∈ f) && lnk hs one y), w ++ ms.filter (fun y => !decide (y ∈ f) && lnk hs one y))
  | [], f, w, _ => by simp
  | m :: ms, f, w, nd => by
    have nm := (List.nodup_cons.mp nd).1
    have ih := fun f w => di_fold hs one ms f w (List.nodup_cons.mp nd).2
    show ms.foldl (diStep hs one) (diStep hs one (f, w) m) = _
    by_cases c : (!decide (m ∈ f) && lnk hs one m) = true
    · rw [di_pos c, ih]
      have e : ms.filter (fun y => !decide (y ∈ f ++ [m]) && lnk hs one y) = ms.filter (fun y => !decide (y ∈ f) && lnk hs one y) := by
        refine List.filter_congr fun y hy => ?_
        have ne : y ≠ m := fun z => nm (z ▸ hy)
        have : decide (y ∈ f ++ [m]) = decide (y ∈ f) := decide_eq_decide.mpr (by rw [List.mem_append, List.mem_singleton]; exact ⟨fun h => h.resolve_right ne, .inl⟩)
        rw [this]
      rw [e, List.filter_cons, if_pos c]
      simp
    · rw [di_neg c, ih, List.filter_cons, if_neg c]
def F_di : List W → Sto → WQ → Prop := fun ws st Q => ∃ (n a : PyData) (hs : List (List Int)) (ms : List Int) (x : Int), ws = [.d (.tuple [n, a, dRows hs]), wR ms, wI x] ∧ ms.length < 64 ∧ Asc ms ∧ x ∈ ms ∧ hs.length ≤ 1000 ∧ Q (wR (comL hs ms x)) st
theorem mo_di : MonoF F_di := ⟨fun ws st Q Q' f ⟨n, l, ar, ms, ss, e, a, b, c, d, q⟩ => ⟨n, l, ar, ms, ss, e, a, b, c, d, f _ _ q⟩⟩
def m_di : MS :=
  (sSeq (sAsg (mLst (aCons (mVar 2) aNil)) (gN 3))
      (sSeq (sAsg (mLst (aCons (mVar 2) aNil)) (gN 4))
      (sSeq (sWhile (mTru (mVar 4))
      (sSeq (sAsg (mBM0 cPop0 (mVar 4)) (gN 5))
      (sFor (iT (mVar 1)) (gN 6)
      (sIf (mAnd (mB (mOp (oInI true) (mVar 6) (mVar 3))) (mGcT (mB (mCB cAny (aCons (mLc (iT (mOp oIxT (mVar 0) (mC (.int 2)))) (gN 7) mYes (mAndV (mOp (oInI false) (mVar 5) (mVar 7)) (mOp (oInI false) (mVar 6) (mVar 7))) [7]) aNil))))) (sSeq (sDrop (mBM cApp (mVar 3) (aCons (mVar 6) aNil)))
      (sDrop (mBM cApp (mVar 4) (aCons (mVar 6) aNil)))) sNext))))
      (sRet (mCB cTup (aCons (mCB cSort (aCons (mVar 3) aNil)) aNil))))))
theorem do_di : Does m_di 3 5 F_di := by
  rintro ws st Q ⟨n, a, hs, ms, x, rfl, hl, asc, hx, hh, q⟩
  have nd := asc_nodup asc
  let R : Option W → Option W → Option W → Ev := fun y z u => [some (.d (.tuple [n, a, dRows hs])), some (wR ms), some (wI x), some (.l st.length), some (.l (st.length + 1)), y, z, u]
  let S : List Int → List Int → Sto := fun f w => st ++ [.ls (f.map wI), .ls (w.map wI)]
  refine ⟨rfl, sq_lst1 (ev_var rfl) (sq_lst1 (ev_var rfl) (sq_while (fun k ρ s => ∃ f w y z u, ρ = R y z u ∧ s = S f w ∧ k = 2 * (ms.length - f.length) + w.length ∧ f.Nodup ∧ (∀ y ∈ f, ConR hs ms x y) ∧ x ∈ f ∧ (∀ y ∈ w, y ∈ f) ∧ w.Nodup ∧ ∀ z ∈ f, z ∉ w → ∀ y ∈ ms, lnk hs z y = true → y ∈ f) ?_ ?_))⟩
  · refine ⟨_, [x], [x], none, none, none, ?_, ?_, rfl, by simp, fun y hy => by rw [List.mem_singleton.mp hy]; exact .base, by simp, fun y h => h, by simp, fun z hz hn => absurd hz hn⟩
    · rw [len1]
      rfl
    · exact app11
  · rintro k ρ s ⟨f, w, y, z, u, rfl, rfl, rfl, fnd, fc, fx, wf, wnd, cl⟩
    have fm : ∀ y ∈ f, y ∈ ms := fun y hy => (fc y hy).mem hx
    have flen := nodup_le fnd fm
    refine ⟨_, et_truL (ev_var rfl) app2_at1, fun c => ?_, fun c => ?_⟩
    · have wne : w ≠ [] := fun e => by subst e; cases c
      obtain ⟨w0, one, rfl⟩ : ∃ w0 one, w = w0 ++ [one] := ⟨w.dropLast, w.getLast wne, (List.dropLast_concat_getLast wne).symm⟩
      have one_f : one ∈ f := wf one (by simp)
      have w0nd : w0.Nodup := wnd.sublist (List.sublist_append_left _ _)
      have w0f : ∀ y ∈ w0, y ∈ f := fun y hy => wf y (List.mem_append_left _ hy)
      have wl := nodup_le w0nd w0f
      have at1 : (S f (w0 ++ [one]))[st.length + 1]? = some (.ls (w0.map wI ++ [wI one])) := by
        show (st ++ [_, _])[_]? = _
        rw [app2_at1, List.map_append]
        rfl
      refine sq_pop (n := st.length + 1) (ev_var rfl) at1 ?_
      have e0 : (S f (w0 ++ [one])).set (st.length + 1) (.ls (w0.map wI)) = S f w0 := app2_set1
      rw [e0]
      have full := di_fold hs one ms f w0 nd
      refine for_fold (α := Int) (β := List Int × List Int) (b0 := (f, w0)) wI ms (diStep hs one) (fun b y => R (some (wI one)) y u) (fun b => S b.1 b.2) z ?_ (gd := fun _ => True) (fun _ => trivial) ?_ ?_ ?_ ?_
      · exact wk_row (ev_var rfl)
      · rfl
      · rfl
      · rintro i y ⟨b1, b2⟩ v E' hy hb h1 h2
        have pre := di_fold hs one (ms.take i) f w0 (nd.sublist (List.take_sublist _ _))
        rw [← hb] at pre
        injection pre with e1 e2
        have l1 : b1.length ≤ 1000 := by
          have h1 := len_filter_le (fun y => !decide (y ∈ f) && lnk hs one y) (ms.take i)
          rw [List.length_take] at h1
          rw [e1, List.length_append]
          omega
        have l2 : b2.length ≤ 1000 := by
          have h1 := len_filter_le (fun y => !decide (y ∈ f) && lnk hs one y) (ms.take i)
          rw [List.length_take] at h1
          rw [e2, List.length_append]
          omega
        refine s_if (b := !decide (y ∈ b1) && lnk hs one y) (et_and (et_b (ev_notinL (ev_var rfl) (ev_var rfl) app2_at)) fun _ => ?_) (fun c => ?_) (fun c => ?_)
        · refine et_any wR hs (fun b => decide (one ∈ b) && decide (y ∈ b)) (wk_rows (ev_ixT (ev_var rfl) ev_c rfl)) (fun _ => trivial) (by omega) fun b hb acc => ?_
          exact ev_and (ev_in (ev_var rfl) (ev_var rfl)) fun _ => ev_in (ev_var rfl) (ev_var rfl)
        · have h := h1 (some (wI y))
          rw [di_pos c] at h
          refine sq_app (n := st.length) (ev_var rfl) app2_at (ev_var rfl) (by rw [List.length_map]; exact Nat.lt_of_le_of_lt l1 (by decide)) ?_
          rw [show (S b1 b2).set st.length (.ls (b1.map wI ++ [wI y])) = S (b1 ++ [y]) b2 by show (st ++ [_, _]).set _ _ = st ++ [_, _]; rw [app2_set, snocI]]
          refine s_app (n := st.length + 1) (ev_var rfl) app2_at1 (ev_var rfl) (by rw [List.length_map]; exact Nat.lt_of_le_of_lt l2 (by decide)) ?_
          rw [show (S (b1 ++ [y]) b2).set (st.length + 1) (.ls (b2.map wI ++ [wI y])) = S (b1 ++ [y]) (b2 ++ [y]) by show (st ++ [_, _]).set _ _ = st ++ [_, _]; rw [app2_set1, snocI b2]]
          exact h
        · have h := h1 (some (wI y))
          rw [di_neg (by rw [c]; exact Bool.false_ne_true)] at h
          exact h
      · intro y'
        rw [full]
        have add_in : ∀ y, y ∈ ms.filter (fun y => !decide (y ∈ f) && lnk hs one y) ↔ y ∈ ms ∧ y ∉ f ∧ lnk hs one y = true := fun y => by
          rw [List.mem_filter, Bool.and_eq_true, Bool.not_eq_true', decide_eq_false_iff_not]
        generalize hadd : ms.filter (fun y => !decide (y ∈ f) && lnk hs one y) = add at add_in
        have add_nd : add.Nodup := by rw [← hadd]; exact nd.filter _
        have fnd2 : (f ++ add).Nodup := by
          rw [List.nodup_append]
          exact ⟨fnd, add_nd, fun p hp r hr e => ((add_in r).mp hr).2.1 (e ▸ hp)⟩
        have fc2 : ∀ y ∈ f ++ add, ConR hs ms x y := fun y hy => by
          rcases List.mem_append.mp hy with z | z
          · exact fc y z
          · obtain ⟨z1, z2, z3⟩ := (add_in y).mp z
            obtain ⟨b, hb, b1, b2⟩ := lnk_iff.mp z3
            exact .step (fc one one_f) hb b1 b2 z1
        have fl2 := nodup_le fnd2 fun y hy => (fc2 y hy).mem hx
        rw [List.length_append] at fl2
        refine ⟨_, ?_, f ++ add, w0 ++ add, _, y', u, rfl, rfl, rfl, fnd2, fc2, List.mem_append_left _ fx, fun y hy => ?_, ?_, fun z hz hn y hy hlk => ?_⟩
        · simp only [List.length_append, List.length_singleton]
          omega
        · rcases List.mem_append.mp hy with z | z
          · exact List.mem_append_left _ (wf y (List.mem_append_left _ z))
          · exact List.mem_append_right _ z
        · rw [List.nodup_append]
          exact ⟨w0nd, add_nd, fun p hp r hr e => ((add_in r).mp hr).2.1 (e ▸ w0f p hp)⟩
        · have hn1 : z ∉ w0 := fun h => hn (List.mem_append_left _ h)
          have hn2 : z ∉ add := fun h => hn (List.mem_append_right _ h)
          have zf : z ∈ f := (List.mem_append.mp hz).resolve_right hn2
          by_cases z1 : z = one
          · subst z1
            by_cases yf : y ∈ f
            · exact List.mem_append_left _ yf
            · exact List.mem_append_right _ ((add_in y).mpr ⟨hy, yf, hlk⟩)
          · exact List.mem_append_left _ (cl z zf (fun h => (List.mem_append.mp h).elim hn1 fun h => z1 (List.mem_singleton.mp h)) y hy hlk)
    · have we : w = [] := by
        cases w with
        | nil => rfl
        | cons => cases c
      subst we
      have e : isort f = comL hs ms x := by
        refine isort_asc fnd (comL_asc asc) fun y => ?_
        rw [mem_comL hx]
        refine ⟨fc y, fun h => ?_⟩
        induction h with
        | base => exact fx
        | step a hb hz hy hm ih => exact cl _ ih List.not_mem_nil _ hm (lnk_iff.mpr ⟨_, hb, hz, hy⟩)
      exact s_retSort (ns := f) (ev_var rfl) app2_at (by omega) (fun o => ⟨st, [_, _, o], app21, Gcd.rfl', trivial, by rw [e]; exact q⟩)
/-! ### all districts of a lot -/
theorem rowStep_in {hs : List (List Int)} {ms : List Int} {acc : List (List Int)} {x : Int} (h : x ∈ acc.flatten) : rowStep hs ms acc x = acc := by
  unfold rowStep
  rw [if_pos h]
theorem rowStep_out {hs : List (List Int)} {ms : List Int} {acc : List (List Int)} {x : Int} (h : x ∉ acc.flatten) : rowStep hs ms acc x = acc ++ [comL hs ms x] := by
  unfold rowStep
  rw [if_neg h]
theorem rows_skip (hs : List (List Int)) (ms c : List Int) : ∀ (xs : List Int) (acc : List (List Int)), (∀ y ∈ c, y ∈ acc.flatten) → xs.foldl (rowStep hs ms) acc = (xs.filter fun y => !decide (y ∈ c)).foldl (rowStep hs ms) acc
  | [], _, _ => rfl
  | x :: xs, acc, h => by
    by_cases hx : x ∈ c
    · rw [List.filter_cons, if_neg (by rw [decide_eq_true hx]; exact Bool.false_ne_true)]
      show xs.foldl (rowStep hs ms) (rowStep hs ms acc x) = _
      rw [rowStep_in (h x hx)]
      exact rows_skip hs ms c xs acc h
    · rw [List.filter_cons, if_pos (by rw [decide_eq_false hx]; rfl)]
      show xs.foldl (rowStep hs ms) (rowStep hs ms acc x) = (xs.filter _).foldl (rowStep hs ms) (rowStep hs ms acc x)
      refine rows_skip hs ms c xs _ fun y hy => ?_
      have := h y hy
      unfold rowStep
      split
      · exact this
      · rw [List.flatten_append]
        exact List.mem_append_left _ this
def F_ds : List W → Sto → WQ → Prop := fun ws st Q => ∃ (n a : PyData) (hs : List (List Int)) (ms : List Int), ws = [.d (.tuple [n, a, dRows hs]), wR ms] ∧ ms.length < 64 ∧ Asc ms ∧ hs.length ≤ 1000 ∧ Q (.d (dRows (rowsL hs ms))) st
theorem mo_ds : MonoF F_ds := ⟨fun ws st Q Q' f ⟨n, l, ar, ms, e, a, b, c, q⟩ => ⟨n, l, ar, ms, e, a, b, c, f _ _ q⟩⟩
def m_ds : MS :=
  (sSeq (sAsg (mLst aNil) (gN 2))
      (sSeq (sAsg (mVar 1) (gN 3))
      (sSeq (sWhile (mTru (mVar 3))
      (sSeq (sDrop (mBM cApp (mVar 2) (aCons (mCB F_di (aCons (mVar 0) (aCons (mVar 1) (aCons (mOp oIxT (mVar 3) (mC (.int 0))) aNil)))) aNil)))
      (sAsg (mCB F_wo (aCons (mVar 3) (aCons (mOp oIxL (mVar 2) (mNeg (mC (.int 1)))) aNil))) (gN 3))))
      (sRet (mCB cTup (aCons (mVar 2) aNil))))))
theorem do_ds : Does m_ds 2 2 F_ds := by
  rintro ws st Q ⟨n, a, hs, ms, rfl, hl, asc, hh, q⟩
  refine ⟨rfl, sq_lst0 (sq_set (ev_var rfl) (sq_while (fun k ρ s => ∃ (acc : List (List Int)) (lf : List Int), ρ = [some (.d (.tuple [n, a, dRows hs])), some (wR ms), some (.l st.length), some (wR lf)] ∧ s = st ++ [.ls (acc.map wR)] ∧ k = lf.length ∧ Asc lf ∧ (∀ y ∈ lf, y ∈ ms ∧ y ∉ acc.flatten) ∧ acc.length + lf.length ≤ ms.length ∧ rowsL hs ms = lf.foldl (rowStep hs ms) acc) ?_ ?_))⟩
  · exact ⟨_, [], ms, rfl, rfl, rfl, asc, fun y hy => ⟨hy, by simp⟩, by simp, rfl⟩
  · rintro k ρ s ⟨acc, lf, rfl, rfl, rfl, lasc, lin, few, e⟩
    refine ⟨_, et_truT (ev_var rfl), fun c => ?_, fun c => ?_⟩
    · obtain ⟨x, rest, rfl⟩ : ∃ x rest, lf = x :: rest := by
        cases lf with
        | nil => cases c
        | cons x rest => exact ⟨x, rest, rfl⟩
      obtain ⟨hx, hxa⟩ := lin x List.mem_cons_self
      have xc : x ∈ comL hs ms x := (mem_comL hx).mpr .base
      rw [List.length_cons] at few
      refine sq_app (n := st.length) (xs := acc.map wR) (w := wR (comL hs ms x)) (ev_var rfl) app_at (ev_call (ea_cons (ev_var rfl) (ea_cons (ev_var rfl) (ea_cons (ev_ixT (x := .int x) (ev_var rfl) ev_c (atI_nat (j := 0) rfl)) ea_nil))) fun Q q => ⟨n, a, hs, ms, x, rfl, hl, asc, hx, hh, q⟩) (by rw [List.length_map]; omega) ?_
      rw [app_set, ← snocR]
      have fl : (x :: rest).filter (fun y => !decide (y ∈ comL hs ms x)) = rest.filter (fun y => !decide (y ∈ comL hs ms x)) := by
        rw [List.filter_cons, if_neg (by rw [decide_eq_true xc]; exact Bool.false_ne_true)]
      refine s_set (w := wR ((x :: rest).filter fun y => !decide (y ∈ comL hs ms x))) (ev_call (ea_cons (ev_var rfl) (ea_cons (ev_ixL (n := st.length) (w := wR (comL hs ms x)) (ev_var rfl) app_at (ev_neg ev_c) (by rw [snocR]; exact atI_last _ _)) ea_nil)) fun Q q => ⟨x :: rest, comL hs ms x, rfl, by rw [List.length_cons]; omega, q⟩) ?_
      · rw [fl]
        have lt := len_filter_le (fun y => !decide (y ∈ comL hs ms x)) rest
        refine ⟨_, Nat.lt_succ_of_le lt, acc ++ [comL hs ms x], _, rfl, rfl, rfl, asc_filter lasc.tail _, fun y hy => ?_, by rw [List.length_append, List.length_singleton]; omega, ?_⟩
        · obtain ⟨h1, h2⟩ := List.mem_filter.mp hy
          obtain ⟨h3, h4⟩ := lin y (List.mem_cons_of_mem _ h1)
          refine ⟨h3, fun h => ?_⟩
          rw [List.flatten_append] at h
          rcases List.mem_append.mp h with h | h
          · exact h4 h
          · simp at h
            rw [decide_eq_true h] at h2
            cases h2
        · rw [e]
          show rest.foldl (rowStep hs ms) (rowStep hs ms acc x) = _
          rw [rowStep_out hxa]
          refine rows_skip hs ms _ rest _ fun y hy => ?_
          rw [List.flatten_append]
          exact List.mem_append_right _ (by simpa using hy)
    · have : lf = [] := by
        cases lf with
        | nil => rfl
        | cons => cases c
      subst this
      have e : rowsL hs ms = acc := e
      exact s_ret (ev_tupL (n := st.length) (ds := acc.map dInts) (ev_var rfl) (by rw [app_at, List.map_map]; rfl)) ⟨st, [_], rfl, Gcd.rfl', trivial, by rw [e] at q; exact q⟩
/-- 0, 1, .. below n -/
def everyL (n : Nat) : List Int := (List.range n).map fun i : Nat => (i : Int)
theorem every_rg (n : Nat) : rgD 0 (n : Int) = everyL n := by
  unfold rgD everyL
  have : ((n : Int) - 0).toNat = n := by omega
  rw [this]
  exact List.map_congr_left fun i _ => by omega
theorem every_asc (n : Nat) : Asc (everyL n) := by
  unfold everyL
  show List.Pairwise _ _
  rw [List.pairwise_map]
  exact List.pairwise_lt_range.imp fun h => by omega
theorem mem_every {n : Nat} {y : Int} : y ∈ everyL n ↔ 0 ≤ y ∧ y < n := by
  unfold everyL
  rw [List.mem_map]
  constructor
  · rintro ⟨i, hi, rfl⟩
    rw [List.mem_range] at hi
    omega
  · rintro ⟨h1, h2⟩
    exact ⟨y.toNat, List.mem_range.mpr (by omega), by omega⟩
theorem every_len (n : Nat) : (everyL n).length = n := by unfold everyL; rw [List.length_map, List.length_range]
noncomputable def needL (n : Nat) (ar : List (List Int)) (acts aims : List Int) : List Int := ancL ar ((everyL n).filter fun y => !decide (y ∈ acts)) aims
def F_nl : List W → Sto → WQ → Prop := fun ws st Q => ∃ (ls : List PyData) (l : PyData) (ar : List (List Int)) (acts aims : List Int), ws = [.d (.tuple [.tuple ls, dRows ar, l]), wR acts, wR aims] ∧ ls.length < 60 ∧ Up ar ∧ Q (wR (needL ls.length ar acts aims)) st
theorem mo_nl : MonoF F_nl := ⟨fun ws st Q Q' f ⟨n, l, ar, ms, ss, e, a, b, q⟩ => ⟨n, l, ar, ms, ss, e, a, b, f _ _ q⟩⟩
def m_nl : MS :=
  (sRet (mCB F_an (aCons (mVar 0) (aCons (mCB F_wo (aCons (mTupRg (mRg1 (mCB cLen (aCons (mOp oIxT (mVar 0) (mC (.int 0))) aNil)))) (aCons (mVar 1) aNil))) (aCons (mVar 2) aNil)))))
theorem do_nl : Does m_nl 3 0 F_nl := by
  rintro ws st Q ⟨ls, l, ar, acts, aims, rfl, hl, up, q⟩
  have l1 : ((everyL ls.length).filter fun y => !decide (y ∈ acts)).length < 64 := by
    have := len_filter_le (fun x => !decide (x ∈ acts)) (everyL ls.length)
    rw [every_len] at this
    omega
  refine ⟨rfl, s_ret (w := wR (needL ls.length ar acts aims)) (ev_call (ea_cons (ev_var rfl) (ea_cons (w := wR ((everyL ls.length).filter fun y => !decide (y ∈ acts))) (ev_call (ea_cons (w := wR (everyL ls.length)) (fun Q q => ev_tupRg (ev_lenT (ds := ls) (ev_ixT (x := .tuple ls) (ev_var rfl) ev_c (atI_nat (j := 0) rfl))) ⟨by decide, by decide, by omega, by omega, by omega⟩ Q (by rw [every_rg]; exact q)) (ea_cons (ev_var rfl) ea_nil)) fun Q q => ⟨everyL ls.length, acts, rfl, by rw [every_len]; omega, q⟩) (ea_cons (ev_var rfl) ea_nil))) fun Q q => ⟨_, l, ar, _, aims, rfl, l1, asc_filter (every_asc _) _, up, q⟩) ⟨st, [], (List.append_nil _).symm, Gcd.rfl', trivial, q⟩⟩
def F_nd : List W → Sto → WQ → Prop := fun ws st Q => ∃ (ls : List PyData) (ar hs : List (List Int)) (acts aims : List Int), ws = [.d (.tuple [.tuple ls, dRows ar, dRows hs]), wR acts, wR aims] ∧ ls.length < 60 ∧ Up ar ∧ hs.length ≤ 1000 ∧ Q (.d (dRows (rowsL hs (needL ls.length ar acts aims)))) st
theorem mo_nd : MonoF F_nd := ⟨fun ws st Q Q' f ⟨n, l, ar, ms, ss, e, a, b, c, q⟩ => ⟨n, l, ar, ms, ss, e, a, b, c, f _ _ q⟩⟩
theorem need_asc {n : Nat} {ar : List (List Int)} {acts aims : List Int} : Asc (needL n ar acts aims) := ancL_asc (asc_filter (every_asc _) _)
theorem need_len {n : Nat} {ar : List (List Int)} {acts aims : List Int} : (needL n ar acts aims).length ≤ n := by
  have h1 := len_filter_le (fun y => decide (AncR ar ((everyL n).filter fun y => !decide (y ∈ acts)) aims y)) ((everyL n).filter fun y => !decide (y ∈ acts))
  have h2 := len_filter_le (fun x => !decide (x ∈ acts)) (everyL n)
  rw [every_len] at h2
  exact Nat.le_trans h1 h2
def m_nd : MS :=
  (sRet (mCB F_ds (aCons (mVar 0) (aCons (mCB F_nl (aCons (mVar 0) (aCons (mVar 1) (aCons (mVar 2) aNil)))) aNil))))
theorem do_nd : Does m_nd 3 0 F_nd := by
  rintro ws st Q ⟨ls, ar, hs, acts, aims, rfl, hl, up, hh, q⟩
  have := need_len (n := ls.length) (ar := ar) (acts := acts) (aims := aims)
  exact ⟨rfl, s_ret (w := .d (dRows (rowsL hs (needL ls.length ar acts aims)))) (ev_call (ea_cons (ev_var rfl) (ea_cons (w := wR (needL ls.length ar acts aims)) (ev_call (ea_cons (ev_var rfl) (ea_cons (ev_var rfl) (ea_cons (ev_var rfl) ea_nil))) fun Q q => ⟨ls, _, ar, acts, aims, rfl, hl, up, q⟩) ea_nil)) fun Q q => ⟨_, _, hs, _, rfl, by omega, need_asc, hh, q⟩) ⟨st, [], (List.append_nil _).symm, Gcd.rfl', trivial, q⟩⟩
end FL

/-! The program's refusals and what it tells of lots (rounds.py): what its defs do to values. -/
namespace FL
open PySem PySem.Spec PyProof.Rows L2 KL KG GR KV KS KY RT
open Classical
theorem sq_drop {ρ : Ev} {st : Sto} {E : WE} {r : MS} {m : ME} {w : W} (h : Ev' m ρ st w) (q : r ρ st E) : sSeq (sDrop m) r ρ st E := sq (show sDrop m ρ st _ from h _ q)
theorem same {st : Sto} {P : Sto → Prop} (h : P st) : ∃ s0 g, st = s0 ++ g ∧ Gcd st s0 ∧ P s0 := ⟨st, [], (List.append_nil _).symm, Gcd.rfl', h⟩
theorem sameW {st : Sto} {w : W} {Q : WQ} (k : okW st.length w) (h : Q w st) : ∃ s0 g, st = s0 ++ g ∧ Gcd st s0 ∧ okW s0.length w ∧ Q w s0 := ⟨st, [], (List.append_nil _).symm, Gcd.rfl', k, h⟩
theorem ev_anyG {α : Type} {mi : MI} {me : ME} {ρ : Ev} {st : Sto} {n : Nat} (emb : α → W) (xs : List α) (p : α → Bool) {gd : Sto → Prop} (hi : Walks mi ρ st (xs.map emb) gd) (hgd : gd st → gd st)
    (hs : ∀ x ∈ xs, Ev' me ((wipeE ρ [n]).set n (some (emb x))) st (wB (p x))) (hg : gd st := by exact trivial) : Ev' (mAnyG true mi (gN n) mYes me [n]) ρ st (wB (xs.any p)) := fun Q q => by
  refine hi _ ⟨fun i s' => s' = st ∧ (xs.take i).any p = false, ⟨rfl, rfl⟩, fun _ s' e => by rw [e.1]; exact hg, fun i x s' hx e => ?_, fun s' e => ?_⟩
  · obtain ⟨rfl, e⟩ := e
    rw [List.getElem?_map] at hx
    obtain ⟨a, ha, rfl⟩ : ∃ a, xs[i]? = some a ∧ x = emb a := by
      cases z : xs[i]? with
      | none => rw [z] at hx; cases hx
      | some a => rw [z] at hx; exact ⟨a, rfl, (Option.some.inj hx).symm⟩
    have ma := List.mem_of_getElem? ha
    dsimp only [gN, mYes]
    rw [if_pos rfl]
    refine hs a ma _ ?_
    dsimp only [bl1]
    cases k : p a with
    | true =>
      rw [if_pos rfl]
      have z : xs.any p = true := List.any_eq_true.mpr ⟨a, ma, k⟩
      rw [z] at q
      exact q
    | false =>
      rw [if_neg Bool.false_ne_true]
      exact ⟨rfl, by rw [List.take_add_one, ha, List.any_append, e]; simp [k]⟩
  · obtain ⟨rfl, e⟩ := e
    rw [List.length_map, List.take_length] at e
    rw [e] at q
    exact q
def F_ng : List W → Sto → WQ → Prop := fun ws st Q => ∃ (n : Nat) (nm : List Str) (ar hd : List (List Int)), ws = [.d (dGraph nm ar hd)] ∧ GrN n nm ar hd ∧ Q (.d .none) st
theorem mo_ng : MonoF F_ng := ⟨fun ws st Q Q' f ⟨n, l, ar, ms, e, a, q⟩ => ⟨n, l, ar, ms, e, a, f _ _ q⟩⟩
def F_lo : List W → Sto → WQ → Prop := fun ws st Q => ∃ (n : Nat) (nm : List Str) (ar hd : List (List Int)) (r : List Int), ws = [.d (dGraph nm ar hd), wR r] ∧ GrN n nm ar hd ∧ LotN n r ∧ Q (.d .none) st
theorem mo_lo : MonoF F_lo := ⟨fun ws st Q Q' f ⟨n, l, ar, ms, r, e, a, b, q⟩ => ⟨n, l, ar, ms, r, e, a, b, f _ _ q⟩⟩
theorem lend_row {n : Nat} {r : List Int} (h : LotN n r) (hn : n ≤ 8) : (r.map PyData.int).length ≤ 1000000 := by
  have := lot_short h
  rw [List.length_map]
  omega
theorem grn_lend {n : Nat} {nm : List Str} {ar hd : List (List Int)} (g : GrN n nm ar hd) : LenD 2 (dGraph nm ar hd) := by
  have m := g.most
  have l := g.len
  refine ⟨(by show 3 ≤ 1000000; decide), fun ds e d hd' => ?_⟩
  injection e with e
  subst e
  simp only [List.mem_cons, List.not_mem_nil, or_false] at hd'
  rcases hd' with rfl | rfl | rfl
  · refine ⟨by show (nm.map PyData.str).length ≤ _; rw [List.length_map]; omega, fun ds e d hd' => ?_⟩
    injection e with e
    subst e
    obtain ⟨x, hx, rfl⟩ := List.mem_map.mp hd'
    have z := g.nm x hx
    have z : (!inV (.str x) (wordsL.map V.str) && ((decide (1 ≤ x.length) && decide (x.length ≤ 8)) && _)) = true := z
    simp only [Bool.and_eq_true, decide_eq_true_iff] at z
    show x.length ≤ 1000000
    omega
  · have few := arr_few g.ar m
    refine ⟨by show (ar.map dInts).length ≤ _; rw [List.length_map]; omega, fun ds e d hd' => ?_⟩
    injection e with e
    subst e
    obtain ⟨r, hr, rfl⟩ := List.mem_map.mp hd'
    exact lend_row (g.ar.2 r hr).1 m
  · have few := g.hd.2.1
    refine ⟨by show (hd.map dInts).length ≤ _; rw [List.length_map]; omega, fun ds e d hd' => ?_⟩
    injection e with e
    subst e
    obtain ⟨r, hr, rfl⟩ := List.mem_map.mp hd'
    exact lend_row (g.hd.2.2 r hr).1 m
theorem grn_up {n : Nat} {nm : List Str} {ar hd : List (List Int)} (g : GrN n nm ar hd) : Up ar := fun r hr => by
  obtain ⟨⟨h1, h2⟩, h3⟩ := g.ar.2 r hr
  match r, h3 with
  | [a, b], _ => exact ⟨a, b, rfl, (List.pairwise_cons.mp h1).1 b (by simp)⟩
theorem to_row (r : List Int) : tupOnly (dInts r) = true := tupOnlyL_iff.mpr fun d hd => by
  obtain ⟨x, _, rfl⟩ := List.mem_map.mp hd
  rfl
theorem to_rows (rs : List (List Int)) : tupOnly (dRows rs) = true := tupOnlyL_iff.mpr fun d hd => by
  obtain ⟨x, _, rfl⟩ := List.mem_map.mp hd
  exact to_row x
theorem to_strs (rs : List Str) : tupOnly (dStrs rs) = true := tupOnlyL_iff.mpr fun d hd => by
  obtain ⟨x, _, rfl⟩ := List.mem_map.mp hd
  rfl
theorem to_gr (nm : List Str) (ar hd : List (List Int)) : tupOnly (dGraph nm ar hd) = true := tupOnlyL_iff.mpr fun d h => by
  simp only [List.mem_cons, List.not_mem_nil, or_false] at h
  rcases h with rfl | rfl | rfl
  · exact to_strs nm
  · exact to_rows ar
  · exact to_rows hd
theorem sp_ng {K : PySem.W.Frag} {ts : List Addr} {vs : List V} {H : Hp} {Q : VK} {E : XK} (h : spS K ts F_ng vs H Q E) : spNeed ts vs H Q E := by
  obtain ⟨μ, st, ws, S, r, n, nm, ar, hd, rfl, g, q⟩ := h
  obtain ⟨v, rfl, r1⟩ := RWL.one r
  refine ⟨v, _, fun b => b ∈ ts, rfl, fun b h => h, S.tb, TD.dq S.tb _ _ (to_gr nm ar hd) r1, (grn_lend g), g.data, fun G m => ?_⟩
  obtain ⟨g1, S1⟩ := S.ms m
  exact q μ G _ g1 S1 .non
theorem sp_lo {K : PySem.W.Frag} {ts : List Addr} {vs : List V} {H : Hp} {Q : VK} {E : XK} (h : spS K ts F_lo vs H Q E) : spNeedLot ts vs H Q E := by
  obtain ⟨μ, st, ws, S, r, n, nm, ar, hd, l, rfl, g, lo, q⟩ := h
  obtain ⟨v, u, rfl, r1, r2⟩ := RWL.two r
  refine ⟨v, u, _, _, _, dInts l, fun b => b ∈ ts, rfl, fun b h => h, S.tb, TD.dq S.tb _ _ (to_gr nm ar hd) r1, g.data, TD.dq S.tb _ _ (to_row l) r2, lend_row lo g.most, ?_, fun G m => ?_⟩
  · rw [lenD_strs, g.len]
    exact lot_data lo
  · obtain ⟨g1, S1⟩ := S.ms m
    exact q μ G _ g1 S1 .non
def F_na : List W → Sto → WQ → Prop := fun ws st Q => ∃ (n : Nat) (nm : List Str) (ar hd : List (List Int)) (r s : List Int), ws = [.d (dGraph nm ar hd), wR r, wR s] ∧ GrN n nm ar hd ∧ LotN n r ∧ LotN n s ∧ s ≠ [] ∧ (∀ x ∈ s, x ∉ r) ∧ Q (.d .none) st
theorem mo_na : MonoF F_na := ⟨fun ws st Q Q' f ⟨n, l, ar, ms, r, s, e, a, b, c, d, i, q⟩ => ⟨n, l, ar, ms, r, s, e, a, b, c, d, i, f _ _ q⟩⟩
def m_na : MS :=
  (sSeq (sDrop (mCB F_lo (aCons (mVar 0) (aCons (mVar 1) aNil))))
      (sSeq (sDrop (mCB F_lo (aCons (mVar 0) (aCons (mVar 2) aNil))))
      (sIf (mOr (mB (mOp (oEqD false) (mVar 2) (mTup aNil))) (mB (mAnyG true (iT (mVar 2)) (gN 3) mYes (mOp (oInI false) (mVar 3) (mVar 1)) [3]))) sNever sNext)))
theorem do_na : Does m_na 3 1 F_na := by
  rintro ws st Q ⟨n, nm, ar, hd, r, s, rfl, g, lr, ls, ne, off, q⟩
  refine ⟨rfl, sq_drop (w := .d .none) (ev_call (ea_cons (ev_var rfl) (ea_cons (ev_var rfl) ea_nil)) fun Q q => ⟨n, nm, ar, hd, r, rfl, g, lr, q⟩) (sq_drop (w := .d .none) (ev_call (ea_cons (ev_var rfl) (ea_cons (ev_var rfl) ea_nil)) fun Q q => ⟨n, nm, ar, hd, s, rfl, g, ls, q⟩) ?_)⟩
  refine s_if (b := false || false) (et_or (b := false) (et_b fun Q q => ev_eqR (r := s) (s := []) (ev_var rfl) (ev_tup (ds := []) ea_nil (by decide)) Q (by rw [decide_eq_false ne]; exact q)) fun _ => ?_) (fun c => nomatch c) (fun _ => same (P := fun s => Q (.d .none) s) q)
  have e : s.any (fun x => decide (x ∈ r)) = false := by
    rw [List.any_eq_false]
    exact fun x hx => by rw [decide_eq_false (off x hx)]; exact Bool.false_ne_true
  have z := ev_anyG (n := 3) wI s (fun x => decide (x ∈ r)) (ρ := [some (.d (dGraph nm ar hd)), some (wR r), some (wR s), none]) (st := st) (wk_row (ma := mVar 2) (ev_var rfl)) (fun _ => trivial) fun x hx => ev_in (ma := mVar 3) (mb := mVar 1) (ev_var rfl) (ev_var rfl)
  rw [e] at z
  exact et_b z
theorem lot_sub {n : Nat} {r : List Int} (h : LotN n r) (hn : n ≤ 8) : r.length ≤ 1000 ∧ r.length < 64 := by
  have := lot_short h
  omega
def F_ra : List W → Sto → WQ → Prop := fun ws st Q => ∃ (n : Nat) (nm : List Str) (ar hd : List (List Int)) (r s : List Int), ws = [.d (dGraph nm ar hd), wR r, wR s] ∧ GrN n nm ar hd ∧ LotN n r ∧ LotN n s ∧ (∀ x ∈ s, x ∈ r) ∧ Q (wR (ancL ar r s)) st
theorem mo_ra : MonoF F_ra := ⟨fun ws st Q Q' f ⟨n, l, ar, ms, r, s, e, a, b, c, d, q⟩ => ⟨n, l, ar, ms, r, s, e, a, b, c, d, f _ _ q⟩⟩
def m_ra : MS :=
  (sSeq (sDrop (mCB F_ng (aCons (mVar 0) aNil)))
      (sSeq (sDrop (mCB F_lo (aCons (mVar 0) (aCons (mVar 1) aNil))))
      (sSeq (sDrop (mCB F_lo (aCons (mVar 0) (aCons (mVar 2) aNil))))
      (sSeq (sDrop (mCB F_nw (aCons (mVar 2) (aCons (mVar 1) aNil))))
      (sRet (mCB F_an (aCons (mVar 0) (aCons (mVar 1) (aCons (mVar 2) aNil)))))))))
theorem do_ra : Does m_ra 3 0 F_ra := by
  rintro ws st Q ⟨n, nm, ar, hd, r, s, rfl, g, lr, ls, sub, q⟩
  refine ⟨rfl, sq_drop (w := .d .none) (ev_call (ea_cons (ev_var rfl) ea_nil) fun Q q => ⟨n, nm, ar, hd, rfl, g, q⟩) (sq_drop (w := .d .none) (ev_call (ea_cons (ev_var rfl) (ea_cons (ev_var rfl) ea_nil)) fun Q q => ⟨n, nm, ar, hd, r, rfl, g, lr, q⟩) (sq_drop (w := .d .none) (ev_call (ea_cons (ev_var rfl) (ea_cons (ev_var rfl) ea_nil)) fun Q q => ⟨n, nm, ar, hd, s, rfl, g, ls, q⟩) (sq_drop (w := .d .none) (ev_call (ea_cons (ev_var rfl) (ea_cons (ev_var rfl) ea_nil)) fun Q q => ⟨s, r, rfl, (lot_sub ls g.most).1, sub, q⟩) ?_)))⟩
  exact s_ret (w := wR (ancL ar r s)) (ev_call (ea_cons (ev_var rfl) (ea_cons (ev_var rfl) (ea_cons (ev_var rfl) ea_nil))) fun Q q => ⟨_, _, ar, r, s, rfl, (lot_sub lr g.most).2, lr.1, (grn_up g), q⟩) (sameW trivial q)
def F_rd : List W → Sto → WQ → Prop := fun ws st Q => ∃ (n : Nat) (nm : List Str) (ar hd : List (List Int)) (r : List Int), ws = [.d (dGraph nm ar hd), wR r] ∧ GrN n nm ar hd ∧ LotN n r ∧ Q (.d (dRows (rowsL hd r))) st
theorem mo_rd : MonoF F_rd := ⟨fun ws st Q Q' f ⟨n, l, ar, ms, r, e, a, b, q⟩ => ⟨n, l, ar, ms, r, e, a, b, f _ _ q⟩⟩
def m_rd : MS :=
  (sSeq (sDrop (mCB F_ng (aCons (mVar 0) aNil)))
      (sSeq (sDrop (mCB F_lo (aCons (mVar 0) (aCons (mVar 1) aNil))))
      (sRet (mCB F_ds (aCons (mVar 0) (aCons (mVar 1) aNil))))))
theorem hd_few {n : Nat} {nm : List Str} {ar hd : List (List Int)} (g : GrN n nm ar hd) : hd.length ≤ 1000 := Nat.le_trans g.hd.2.1 (by decide)
theorem do_rd : Does m_rd 2 0 F_rd := by
  rintro ws st Q ⟨n, nm, ar, hd, r, rfl, g, lr, q⟩
  refine ⟨rfl, sq_drop (w := .d .none) (ev_call (ea_cons (ev_var rfl) ea_nil) fun Q q => ⟨n, nm, ar, hd, rfl, g, q⟩) (sq_drop (w := .d .none) (ev_call (ea_cons (ev_var rfl) (ea_cons (ev_var rfl) ea_nil)) fun Q q => ⟨n, nm, ar, hd, r, rfl, g, lr, q⟩) ?_)⟩
  exact s_ret (w := .d (dRows (rowsL hd r))) (ev_call (ea_cons (ev_var rfl) (ea_cons (ev_var rfl) ea_nil)) fun Q q => ⟨_, _, hd, r, rfl, (lot_sub lr g.most).2, lr.1, hd_few g, q⟩) (sameW trivial q)
def F_rn : List W → Sto → WQ → Prop := fun ws st Q => ∃ (n : Nat) (nm : List Str) (ar hd : List (List Int)) (r s : List Int), ws = [.d (dGraph nm ar hd), wR r, wR s] ∧ GrN n nm ar hd ∧ LotN n r ∧ LotN n s ∧ s ≠ [] ∧ (∀ x ∈ s, x ∉ r) ∧ Q (wR (needL n ar r s)) st
theorem mo_rn : MonoF F_rn := ⟨fun ws st Q Q' f ⟨n, l, ar, ms, r, s, e, a, b, c, d, i, q⟩ => ⟨n, l, ar, ms, r, s, e, a, b, c, d, i, f _ _ q⟩⟩
def m_rn : MS :=
  (sSeq (sDrop (mCB F_ng (aCons (mVar 0) aNil)))
      (sSeq (sDrop (mCB F_na (aCons (mVar 0) (aCons (mVar 1) (aCons (mVar 2) aNil)))))
      (sRet (mCB F_nl (aCons (mVar 0) (aCons (mVar 1) (aCons (mVar 2) aNil)))))))
theorem nm_len {n : Nat} {nm : List Str} {ar hd : List (List Int)} (g : GrN n nm ar hd) : (nm.map PyData.str).length = n := by rw [List.length_map]; exact g.len
theorem do_rn : Does m_rn 3 0 F_rn := by
  rintro ws st Q ⟨n, nm, ar, hd, r, s, rfl, g, lr, ls, ne, off, q⟩
  have l := nm_len g
  have m := g.most
  refine ⟨rfl, sq_drop (w := .d .none) (ev_call (ea_cons (ev_var rfl) ea_nil) fun Q q => ⟨n, nm, ar, hd, rfl, g, q⟩) (sq_drop (w := .d .none) (ev_call (ea_cons (ev_var rfl) (ea_cons (ev_var rfl) (ea_cons (ev_var rfl) ea_nil))) fun Q q => ⟨n, nm, ar, hd, r, s, rfl, g, lr, ls, ne, off, q⟩) ?_)⟩
  exact s_ret (w := wR (needL n ar r s)) (ev_call (ea_cons (ev_var rfl) (ea_cons (ev_var rfl) (ea_cons (ev_var rfl) ea_nil))) fun Q q => ⟨nm.map .str, _, ar, r, s, rfl, by omega, (grn_up g), by rw [l]; exact q⟩) (sameW trivial q)
def F_rs : List W → Sto → WQ → Prop := fun ws st Q => ∃ (n : Nat) (nm : List Str) (ar hd : List (List Int)) (r s : List Int), ws = [.d (dGraph nm ar hd), wR r, wR s] ∧ GrN n nm ar hd ∧ LotN n r ∧ LotN n s ∧ s ≠ [] ∧ (∀ x ∈ s, x ∉ r) ∧ Q (.d (dRows (rowsL hd (needL n ar r s)))) st
theorem mo_rs : MonoF F_rs := ⟨fun ws st Q Q' f ⟨n, l, ar, ms, r, s, e, a, b, c, d, i, q⟩ => ⟨n, l, ar, ms, r, s, e, a, b, c, d, i, f _ _ q⟩⟩
def m_rs : MS :=
  (sSeq (sDrop (mCB F_ng (aCons (mVar 0) aNil)))
      (sSeq (sDrop (mCB F_na (aCons (mVar 0) (aCons (mVar 1) (aCons (mVar 2) aNil)))))
      (sRet (mCB F_nd (aCons (mVar 0) (aCons (mVar 1) (aCons (mVar 2) aNil)))))))
theorem do_rs : Does m_rs 3 0 F_rs := by
  rintro ws st Q ⟨n, nm, ar, hd, r, s, rfl, g, lr, ls, ne, off, q⟩
  have l := nm_len g
  have m := g.most
  refine ⟨rfl, sq_drop (w := .d .none) (ev_call (ea_cons (ev_var rfl) ea_nil) fun Q q => ⟨n, nm, ar, hd, rfl, g, q⟩) (sq_drop (w := .d .none) (ev_call (ea_cons (ev_var rfl) (ea_cons (ev_var rfl) (ea_cons (ev_var rfl) ea_nil))) fun Q q => ⟨n, nm, ar, hd, r, s, rfl, g, lr, ls, ne, off, q⟩) ?_)⟩
  exact s_ret (w := .d (dRows (rowsL hd (needL n ar r s)))) (ev_call (ea_cons (ev_var rfl) (ea_cons (ev_var rfl) (ea_cons (ev_var rfl) ea_nil))) fun Q q => ⟨nm.map .str, ar, hd, r, s, rfl, by omega, (grn_up g), hd_few g, by rw [l]; exact q⟩) (sameW trivial q)
end FL

/-! Own layer, values: texts walked and cut; draws from a well (a list of three numbers in the store). -/
namespace FL
open PySem PySem.Spec PyProof.Rows L2 KL KG GR KV KS KY RT
section
variable {K : PySem.W.Frag} {ts μ μ' : List Addr} {H G : Hp} {st : Sto} {t ta tb tc : TE} {m ma mb mc : ME} {σ : L2.St} {ρ : Ev}
abbrev wC (c : Nat) : W := .d (.str ⟨#[c]⟩)
def iS (ma : ME) : MI := fun ρ st Q => ma ρ st fun w s => str1 w fun x => Q (x.cps.toList.map wC) (fun _ => True) s
theorem xi_str (ha : XE K ts ta ma) : XI K ts (iStr ta) (iS ma) := by
  refine ⟨fun ρ st Q Q' f h => ha.mono _ _ _ _ (fun w s => str1.imp fun n q => f _ _ _ q) h, fun μ st H σ ρ R S E h => ha.thn S E h fun w s μ1 G v h1 g S1 E1 rv => ?_⟩
  obtain ⟨x, rfl, q⟩ := str1.ex h1
  cases rv
  refine ⟨x, rfl, q μ1 G _ g S1 ⟨fun μ' G' s' i g2 S2 _ hi => ?_, fun μ' G' s' i v H' g2 S2 _ hi y => ?_, fun μ' G' s' g2 S2 _ => ?_⟩⟩
  · rw [List.length_map, Array.length_toList] at hi
    exact hi
  · obtain ⟨rfl, c, hc, rfl⟩ := y
    exact ⟨wC c, by rw [List.getElem?_map, Array.getElem?_toList, hc]; rfl, Gr.rfl', S2, TD.str _⟩
  · show x.cps.size ≤ _
    rw [List.length_map, Array.length_toList]
    exact Nat.le_refl _
def mSlS (ma : ME) (ml mh : MO) : ME := fun ρ st Q => ma ρ st fun w s1 => ml ρ s1 fun lo s2 => mh ρ s2 fun hi s3 => str1 w fun x => x.length ≤ 1000000 ∧ Q (.d (.str (cutS x lo hi))) s3
theorem xe_slS {tl th : TO} {ml mh : MO} (ha : XE K ts ta ma) (hl : XP K ts tl ml) (hh : XP K ts th mh) : XE K ts (tSl rSlS ta tl th) (mSlS ma ml mh) := by
  refine ⟨fun ρ st Q Q' f h => ha.mono _ _ _ _ (fun w s h => hl.mono _ _ _ _ (fun lo s h => hh.mono _ _ _ _ (fun hi s => str1.imp fun ds q => ⟨q.1, f _ _ q.2⟩) h) h) h, fun μ st H σ ρ Q S E h => ?_⟩
  refine ha.thn S E h fun w s1 μ1 G1 v h g1 S1 E1 rv => hl.thn S1 E1 h fun lo s2 μ2 G2 h g2 S2 E2 => hh.thn S2 E2 h fun hi s3 μ3 G3 h g3 S3 E3 => ?_
  obtain ⟨x, rfl, l, q⟩ := str1.ex h
  cases rv
  exact ⟨x, rfl, by rw [sizeLine_eq]; omega, q μ3 G3 _ ((g1.tr g2).tr g3) S3 (.str _)⟩
end
theorem ev_slS {ρ : Ev} {st : Sto} {ma : ME} {x : Str} {lo : Int} (h : Ev' ma ρ st (wS x)) (l : x.length ≤ 1000000) : Ev' (mSlS ma (mPart (mC (.int lo))) mNone) ρ st (wS (cutS x (some lo) none)) := fun Q q => h _ ⟨l, q⟩
theorem wk_str {ρ : Ev} {st : Sto} {ma : ME} {x : Str} (h : Ev' ma ρ st (wS x)) : Walks (iS ma) ρ st (x.cps.toList.map wC) (fun _ => True) := fun R r => h _ r
theorem set_same {α : Type} : ∀ {l : List α} {n : Nat} {x : α}, l[n]? = some x → l.set n x = l
  | [], _, _, e => by simp at e
  | a :: l, 0, x, e => by cases e; rfl
  | a :: l, n + 1, x, e => congrArg (a :: ·) (set_same (l := l) (n := n) e)
/-! ### the well -/
def isWell (o : Ob) : Prop := ∃ a b c : Int, o = .ls [wI a, wI b, wI c]
def WellAt (st : Sto) (s : Nat) : Prop := ∃ o, st[s]? = some o ∧ isWell o
/-- st, but for the well at s, and L behind -/
abbrev Xs (st : Sto) (s : Nat) (o : Ob) (L : Sto) : Sto := st.set s o ++ L
section
variable {st L : Sto} {s n : Nat} {o u : Ob} {ρ : Ev} {m ma mb : ME} {mt mt' : MT} {w : W} {P Pa : W → Prop} {b : Bool}
theorem xs_at (h : s < st.length) : (Xs st s o L)[s]? = some o := by
  rw [List.getElem?_append_left (by rw [List.length_set]; exact h), List.getElem?_set_self h]
theorem xs_well (h : s < st.length) (w : isWell o) : WellAt (Xs st s o L) s := ⟨o, xs_at h, w⟩
theorem xs_set (h : s < st.length) : (Xs st s o L).set s u = Xs st s u L := by
  rw [List.set_append_left _ _ (by rw [List.length_set]; exact h), List.set_set]
theorem xs_loc (k : Nat) : (Xs st s o L)[st.length + k]? = L[k]? := by
  rw [List.getElem?_append_right (by rw [List.length_set]; omega), List.length_set]
  congr 1
  omega
theorem xs_loc0 : (Xs st s o L)[st.length]? = L[0]? := xs_loc 0
theorem xs_setloc (k : Nat) : (Xs st s o L).set (st.length + k) u = Xs st s o (L.set k u) := by
  rw [List.set_append_right _ _ (by rw [List.length_set]; omega), List.length_set]
  congr 2
  omega
theorem xs_setloc0 : (Xs st s o L).set st.length u = Xs st s o (L.set 0 u) := xs_setloc 0
theorem xs_len : (Xs st s o L).length = st.length + L.length := by rw [List.length_append, List.length_set]
theorem xs_app {M : Sto} : Xs st s o L ++ M = Xs st s o (L ++ M) := List.append_assoc _ _ _
theorem xs_oth (e : st[n]? = some u) (h : n ≠ s) : (Xs st s o L)[n]? = some u := by
  have l := (List.getElem?_eq_some_iff.mp e).1
  rw [List.getElem?_append_left (by rw [List.length_set]; exact l), List.getElem?_set_ne (Ne.symm h)]
  exact e
theorem xs_self (e : st[s]? = some o) : Xs st s o [] = st := by
  unfold Xs
  rw [List.append_nil]
  exact set_same e
theorem well_ok (h : isWell o) (n : Nat) : okO n o := by
  obtain ⟨a, b, c, rfl⟩ := h
  intro w hw
  simp only [List.mem_cons, List.not_mem_nil, or_false] at hw
  rcases hw with rfl | rfl | rfl <;> trivial
theorem xs_gc (w : isWell o) : Gcd st (st.set s o) := Gcd.set Gcd.rfl' (well_ok w _)
/-- what is handed back is data: what stands behind goes -/
theorem xs_end {Q : WQ} {x : PyData} (w : isWell o) (q : Q (.d x) (st.set s o)) : ∃ s0 g, Xs st s o L = s0 ++ g ∧ Gcd st s0 ∧ okW s0.length (.d x) ∧ Q (.d x) s0 := ⟨_, L, rfl, xs_gc w, trivial, q⟩
def Dr (m : ME) (ρ : Ev) (st : Sto) (s : Nat) (P : W → Prop) : Prop := ∀ Q : WQ, (∀ w o, isWell o → P w → Q w (st.set s o)) → m ρ st Q
def DrT (m : MT) (ρ : Ev) (st : Sto) (s : Nat) : Prop := ∀ Q : Bool → Sto → Prop, (∀ b o, isWell o → Q b (st.set s o)) → m ρ st Q
def F_dr : List W → Sto → WQ → Prop := fun ws st Q => ∃ (s : Nat) (top : Int), ws = [.l s, wI top] ∧ 0 < top ∧ top < 1073741824 ∧ WellAt st s ∧ ∀ r o, 0 ≤ r → r < top → isWell o → Q (wI r) (st.set s o)
theorem mo_dr : MonoF F_dr := ⟨fun ws st Q Q' f ⟨s, t, e, a, b, c, q⟩ => ⟨s, t, e, a, b, c, fun r o h1 h2 h3 => f _ _ (q r o h1 h2 h3)⟩⟩
def inTop (top : Int) (w : W) : Prop := ∃ r, w = wI r ∧ 0 ≤ r ∧ r < top
theorem dr_draw {a : MA} {top : Int} (h : EvA a ρ st [.l s, wI top]) (h0 : 0 < top) (h1 : top < 1073741824) (w : WellAt st s) : Dr (mCB F_dr a) ρ st s (inTop top) := fun Q q => h _ ⟨s, top, rfl, h0, h1, w, fun r o a b c => q _ o c ⟨r, rfl, a, b⟩⟩
theorem WellAt.same (w : WellAt st s) : ∃ o, isWell o ∧ st.set s o = st := by
  obtain ⟨o, e, h⟩ := w
  exact ⟨o, h, set_same e⟩
theorem WellAt.lt (w : WellAt st s) : s < st.length := by
  obtain ⟨o, e, h⟩ := w
  exact (List.getElem?_eq_some_iff.mp e).1
theorem WellAt.next (w : WellAt st s) (h : isWell o) : WellAt (st.set s o) s := ⟨o, List.getElem?_set_self w.lt, h⟩
theorem dr_ev (h : Ev' m ρ st w) (W : WellAt st s) (p : P w) : Dr m ρ st s P := fun Q q => h _ (by
  obtain ⟨o, ho, e⟩ := W.same
  have z := q w o ho p
  rw [e] at z
  exact z)
theorem dr_bin {f : W → W → Sto → WQ → Prop} {Pb : W → W → Prop} (W : WellAt st s) (ha : Dr ma ρ st s Pa) (hb : ∀ o, isWell o → ∀ w, Pa w → Dr mb ρ (st.set s o) s (Pb w)) (ho : ∀ w u st', Pa w → Pb w u → ∃ x, P x ∧ ∀ Q : WQ, Q x st' → f w u st' Q) : Dr (mOp f ma mb) ρ st s P := fun Q q =>
  ha _ fun w o h1 p1 => hb o h1 w p1 _ fun u o2 h2 p2 => by
    obtain ⟨x, px, e⟩ := ho w u ((st.set s o).set s o2) p1 p2
    refine e Q ?_
    rw [List.set_set]
    exact q x o2 h2 px
theorem drT_b (h : Dr m ρ st s P) (hp : ∀ w, P w → ∃ b, w = wB b) : DrT (mB m) ρ st s := fun Q q => h _ fun w o h1 p => by
  obtain ⟨b, rfl⟩ := hp w p
  exact q b o h1
theorem drT_ev (h : EvT mt ρ st b) (W : WellAt st s) : DrT mt ρ st s := fun Q q => h _ (by
  obtain ⟨o, ho, e⟩ := W.same
  have z := q b o ho
  rw [e] at z
  exact z)
theorem drT_and (W : WellAt st s) (h : DrT mt ρ st s) (h' : ∀ o, isWell o → DrT mt' ρ (st.set s o) s) : DrT (mAnd mt mt') ρ st s := fun Q q => h _ fun b o ho => by
  cases b with
  | true => exact h' o ho _ fun b o2 h2 => by rw [List.set_set]; exact q b o2 h2
  | false => exact q false o ho
theorem drT_or (W : WellAt st s) (h : DrT mt ρ st s) (h' : ∀ o, isWell o → DrT mt' ρ (st.set s o) s) : DrT (mOr mt mt') ρ st s := fun Q q => h _ fun b o ho => by
  cases b with
  | false => exact h' o ho _ fun b o2 h2 => by rw [List.set_set]; exact q b o2 h2
  | true => exact q true o ho
theorem drT_gc (h : DrT mt ρ st s) : DrT (mGcT mt) ρ st s := fun Q q => h _ fun b o ho => ⟨_, [], (List.append_nil _).symm, Gcd.set Gcd.rfl' (well_ok ho _), q b o ho⟩
/-- a draw compared with a number -/
theorem drT_cmp {f : Int → Int → Bool} {top j : Int} (W : WellAt st s) (h : Dr ma ρ st s (inTop top)) (hb : ∀ o, isWell o → Ev' mb ρ (st.set s o) (wI j)) : DrT (mB (mOp (oI0 fun i j => .bool (f i j)) ma mb)) ρ st s :=
  drT_b (P := fun w => ∃ b, w = wB b) (dr_bin W h (Pb := fun _ u => u = wI j) (fun o ho w _ => dr_ev (hb o ho) (W.next ho) rfl) fun w u st' ⟨r, e, _⟩ e2 => by
    subst e e2
    exact ⟨_, ⟨_, rfl⟩, fun Q q => q⟩) fun w h => h
theorem dr_if (W : WellAt st s) (h : DrT mt ρ st s) (ha : ∀ o, isWell o → Dr ma ρ (st.set s o) s P) (hb : ∀ o, isWell o → Dr mb ρ (st.set s o) s P) : Dr (mIf mt ma mb) ρ st s P := fun Q q => h _ fun b o ho => by
  cases b with
  | true => exact ha o ho _ fun w o2 h2 p => by rw [List.set_set]; exact q w o2 h2 p
  | false => exact hb o ho _ fun w o2 h2 p => by rw [List.set_set]; exact q w o2 h2 p
theorem dr_add {Q1 Q2 R : Int → Prop} (W : WellAt st s) (ha : Dr ma ρ st s fun w => ∃ i, w = wI i ∧ Q1 i) (hb : ∀ o, isWell o → Dr mb ρ (st.set s o) s fun w => ∃ i, w = wI i ∧ Q2 i) (h : ∀ i j, Q1 i → Q2 j → R (i + j)) : Dr (mOp oAdd ma mb) ρ st s fun w => ∃ i, w = wI i ∧ R i :=
  dr_bin W ha (Pb := fun _ w => ∃ i, w = wI i ∧ Q2 i) (fun o ho _ _ => hb o ho) fun w u st' ⟨i, e, p⟩ ⟨j, e2, p2⟩ => by
    subst e e2
    exact ⟨_, ⟨_, rfl, h i j p p2⟩, fun Q q => q⟩
theorem dr_sub {Q1 Q2 R : Int → Prop} (W : WellAt st s) (ha : Dr ma ρ st s fun w => ∃ i, w = wI i ∧ Q1 i) (hb : ∀ o, isWell o → Dr mb ρ (st.set s o) s fun w => ∃ i, w = wI i ∧ Q2 i) (h : ∀ i j, Q1 i → Q2 j → R (i - j)) : Dr (mOp oSub ma mb) ρ st s fun w => ∃ i, w = wI i ∧ R i :=
  dr_bin W ha (Pb := fun _ w => ∃ i, w = wI i ∧ Q2 i) (fun o ho _ _ => hb o ho) fun w u st' ⟨i, e, p⟩ ⟨j, e2, p2⟩ => by
    subst e e2
    exact ⟨_, ⟨_, rfl, h i j p p2⟩, fun Q q => q⟩
theorem dr_int {i : Int} {Q1 : Int → Prop} (h : Ev' m ρ st (wI i)) (W : WellAt st s) (p : Q1 i) : Dr m ρ st s fun w => ∃ i, w = wI i ∧ Q1 i := dr_ev h W ⟨i, rfl, p⟩
theorem dr_drawI {a : MA} {top : Int} {Q1 : Int → Prop} (h : EvA a ρ st [.l s, wI top]) (h0 : 0 < top) (h1 : top < 1073741824) (w : WellAt st s) (hq : ∀ r, 0 ≤ r → r < top → Q1 r) : Dr (mCB F_dr a) ρ st s fun w => ∃ i, w = wI i ∧ Q1 i := fun Q q => dr_draw h h0 h1 w Q fun w o ho ⟨r, e, a, b⟩ => q w o ho ⟨r, e, hq r a b⟩
theorem s_setD {E : WE} (h : Dr m ρ st s P) (q : ∀ w o, isWell o → P w → E.nx (ρ.set n (some w)) (st.set s o)) : sAsg m (gN n) ρ st E := h _ q
theorem sq_setD {E : WE} {r : MS} (h : Dr m ρ st s P) (q : ∀ w o, isWell o → P w → r (ρ.set n (some w)) (st.set s o) E) : sSeq (sAsg m (gN n)) r ρ st E := sq (s_setD h q)
theorem s_ifD {A B : MS} {E : WE} (h : DrT mt ρ st s) (ha : ∀ o, isWell o → A ρ (st.set s o) E) (hb : ∀ o, isWell o → B ρ (st.set s o) E) : sIf mt A B ρ st E := h _ fun b o ho => by
  cases b with
  | true => exact ha o ho
  | false => exact hb o ho
theorem sq_ifD {A B r : MS} {E : WE} (h : DrT mt ρ st s) (ha : ∀ o, isWell o → A ρ (st.set s o) (E.thn r)) (hb : ∀ o, isWell o → B ρ (st.set s o) (E.thn r)) : sSeq (sIf mt A B) r ρ st E := sq (s_ifD h ha hb)
end
theorem sq_if1 {A r : MS} {E : WE} {ρ : Ev} {st : Sto} {b : Bool} {mt : MT} (h : EvT mt ρ st b) (ha : b = true → A ρ st (E.thn r)) (hb : b = false → r ρ st E) : sSeq (sIf mt A sNext) r ρ st E := sq_if h ha hb
theorem sq_ifD1 {A r : MS} {E : WE} {ρ : Ev} {st : Sto} {s : Nat} {mt : MT} (h : DrT mt ρ st s) (ha : ∀ o, isWell o → A ρ (st.set s o) (E.thn r)) (hb : ∀ o, isWell o → r ρ (st.set s o) E) : sSeq (sIf mt A sNext) r ρ st E := sq_ifD h ha hb
theorem s_if1 {A : MS} {E : WE} {ρ : Ev} {st : Sto} {b : Bool} {mt : MT} (h : EvT mt ρ st b) (ha : b = true → A ρ st E) (hb : b = false → E.nx ρ st) : sIf mt A sNext ρ st E := s_if h ha hb
theorem s_ifD1 {A : MS} {E : WE} {ρ : Ev} {st : Sto} {s : Nat} {mt : MT} (h : DrT mt ρ st s) (ha : ∀ o, isWell o → A ρ (st.set s o) E) (hb : ∀ o, isWell o → E.nx ρ (st.set s o)) : sIf mt A sNext ρ st E := s_ifD h ha hb
theorem s_retD {E : WE} {ρ : Ev} {st : Sto} {s : Nat} {m : ME} {P : W → Prop} (h : Dr m ρ st s P) (q : ∀ w o, isWell o → P w → E.rt w (st.set s o)) : sRet m ρ st E := h _ q
/-- a tuple's item by a draw -/
theorem dr_ixT {ρ : Ev} {st : Sto} {s : Nat} {ma mb : ME} {ds : List PyData} (W : WellAt st s) (ha : Ev' ma ρ st (.d (.tuple ds))) (hb : Dr mb ρ st s (inTop ds.length)) : Dr (mOp oIxT ma mb) ρ st s fun w => ∃ x ∈ ds, w = .d x := fun Q q => ha _ (hb _ fun w o ho ⟨r, e, r0, r1⟩ => by
  subst e
  have hk : r.toNat < ds.length := by omega
  have e : atI ds r = some ds[r.toNat] := by
    have z : atI ds ((r.toNat : Nat) : Int) = some ds[r.toNat] := atI_nat (List.getElem?_eq_getElem hk)
    rw [show ((r.toNat : Nat) : Int) = r by omega] at z
    exact z
  exact ⟨_, e, q _ o ho ⟨_, List.getElem_mem hk, rfl⟩⟩)
/-- a sign of a text by a draw -/
theorem dr_ixS {ρ : Ev} {st : Sto} {s : Nat} {ma mb : ME} {x : Str} (W : WellAt st s) (l : x.length ≤ 1000000) (ha : Ev' ma ρ st (wS x)) (hb : Dr mb ρ st s (inTop x.length)) : Dr (mOp oIxS ma mb) ρ st s fun w => ∃ c ∈ x.cps.toList, w = wC c := fun Q q => ha _ (hb _ fun w o ho ⟨r, e, r0, r1⟩ => by
  subst e
  have hk : r.toNat < x.cps.toList.length := by
    have : x.length = x.cps.toList.length := by rw [Array.length_toList]; rfl
    omega
  have e : atI x.cps.toList r = some x.cps.toList[r.toNat] := by
    have z : atI x.cps.toList ((r.toNat : Nat) : Int) = some x.cps.toList[r.toNat] := atI_nat (List.getElem?_eq_getElem hk)
    rw [show ((r.toNat : Nat) : Int) = r by omega] at z
    exact z
  exact ⟨l, _, e, q _ o ho ⟨_, List.getElem_mem hk, rfl⟩⟩)
theorem sq_listR {ρ : Ev} {st : Sto} {E : WE} {r : MS} {m : ME} {n : Nat} {ns : List Int} (h : Ev' m ρ st (wR ns)) (q : r (ρ.set n (some (.l st.length))) (st ++ [.ls (ns.map wI)]) E) : sSeq (sAsg (mCB cLst (aCons m aNil)) (gN n)) r ρ st E := h _ (by
  show r _ (st ++ [.ls ((ns.map PyData.int).map W.d)]) E
  rw [rowD]
  exact q)
theorem sq_listL {ρ : Ev} {st : Sto} {E : WE} {r : MS} {m : ME} {n k : Nat} {xs : List W} (h : Ev' m ρ st (.l k)) (e : st[k]? = some (.ls xs)) (q : r (ρ.set n (some (.l st.length))) (st ++ [.ls xs]) E) : sSeq (sAsg (mCB cLst (aCons m aNil)) (gN n)) r ρ st E := h _ ⟨_, e, q⟩
theorem map_erase {α β : Type} (f : α → β) : ∀ (xs : List α) (k : Nat), (xs.map f).eraseIdx k = (xs.eraseIdx k).map f
  | [], _ => rfl
  | _ :: _, 0 => rfl
  | x :: xs, k + 1 => congrArg (f x :: ·) (map_erase f xs k)
/-- xs.pop(a draw below its length) -/
theorem dr_popAt {ρ : Ev} {st : Sto} {s : Nat} {o : Ob} {L : Sto} {k : Nat} {mo ma : ME} {ms : List Int} (lt : s < st.length) (ho : isWell o) (hl : ms.length ≤ 1000) (e : L[k]? = some (.ls (ms.map wI))) (hm : Ev' mo ρ (Xs st s o L) (.l (st.length + k))) (ha : Dr ma ρ (Xs st s o L) s (inTop ms.length)) {Q : WQ}
    (q : ∀ (r : Nat) (o' : Ob) (hr : r < ms.length), isWell o' → Q (wI ms[r]) (Xs st s o' (L.set k (.ls ((ms.eraseIdx r).map wI))))) : mBM cPopAt mo (aCons ma aNil) ρ (Xs st s o L) Q := by
  refine hm _ ⟨_, (xs_loc k).trans e, ha _ ?_⟩
  rintro w' o1 h1 ⟨r, rfl, r0, r1⟩
  rw [xs_set lt]
  have hk : r.toNat < ms.length := by omega
  have ix : ixN (ms.map wI).length r = some r.toNat := by
    rw [List.length_map]
    unfold ixN
    rw [if_pos r0, if_pos (by omega)]
  refine ⟨ms.map wI, r.toNat, wI ms[r.toNat], (xs_loc k).trans e, ⟨by omega, by omega⟩, ix, by rw [List.getElem?_map, List.getElem?_eq_getElem hk]; rfl, ?_⟩
  rw [xs_setloc, map_erase]
  exact q r.toNat o1 hk h1
theorem gt2 {i j : Nat} {x y : PyData} {ρ : Ev} {st : Sto} {Q : Ev → Sto → Prop} (q : Q ((ρ.set i (some (.d x))).set j (some (.d y))) st) : gT 2 (gsC (gN i) (gsC (gN j) gsN)) (.d (.tuple [x, y])) ρ st Q := ⟨rfl, q⟩
/-- walking what is made on the way -/
def Walk2 (mi : MI) (ρ : Ev) (st st1 : Sto) (ws : List W) (gd : Sto → Prop) : Prop := ∀ R : List W → (Sto → Prop) → Sto → Prop, R ws gd st1 → mi ρ st R
theorem wk_slZ {ma : ME} {ρ : Ev} {st : Sto} {ds : List PyData} {k : Int} (h : Ev' ma ρ st (.d (.list ds))) : Walk2 (iL (mSlZ ma mNone (mPart (mC (.int k))))) ρ st (st ++ [.ls ((cutG ds none (some k)).map .d)]) ((cutG ds none (some k)).map .d) (fun s => s[st.length]? = some (.ls ((cutG ds none (some k)).map .d))) := fun R r => h _ ⟨_, app_at, r⟩
theorem sq_par {ρ : Ev} {st : Sto} {E : WE} {r : MS} {i j : Nat} {a : MA} {w u : W} (h : EvA a ρ st [w, u]) (q : r ((ρ.set i (some w)).set j (some u)) st E) : sSeq (sPar i j a) r ρ st E := h _ q
theorem sq_sub {ρ : Ev} {st : Sto} {E : WE} {r : MS} {m mo mi : ME} {n j : Nat} {k : Int} {w : W} {xs : List W} (h : Ev' m ρ st w) (ho : Ev' mo ρ st (.l n)) (e : st[n]? = some (.ls xs)) (hi : Ev' mi ρ st (wI k)) (hj : ixN xs.length k = some j) (q : r ρ (st.set n (.ls (xs.set j w))) E) : sSeq (sAsg m (gSb mo mi)) r ρ st E :=
  h _ (ho _ (hi _ ⟨xs, e, j, hj, q⟩))
/-- a loop whose state is told by what is so at each turn -/
theorem sq_forI {α : Type} {mi : MI} {mg : MG} {mb r : MS} {E : WE} {ρ : Ev} {st st1 : Sto} (emb : α → W) (xs : List α) {gd : Sto → Prop} (I : Nat → Ev → Sto → Prop) (hi : Walk2 mi ρ st st1 (xs.map emb) gd) (h0 : I 0 ρ st1) (hgd : ∀ i ρ s, I i ρ s → gd s)
    (hs : ∀ (i : Nat) (x : α) (ρ : Ev) (s : Sto), xs[i]? = some x → I i ρ s → mg (emb x) ρ s fun ρ2 s2 => mb ρ2 s2 ⟨I (i + 1), E.rt, fun ρ s => r ρ s E, I (i + 1)⟩) (hd : ∀ ρ s, I xs.length ρ s → r ρ s E) : sSeq (sFor mi mg mb) r ρ st E := by
  refine hi _ ⟨I, h0, hgd, fun i x ρ s hx hI => ?_, fun ρ s h => hd ρ s (by rw [List.length_map] at h; exact h)⟩
  rw [List.getElem?_map] at hx
  obtain ⟨a, ha, rfl⟩ : ∃ a, xs[i]? = some a ∧ x = emb a := by
    cases z : xs[i]? with
    | none => rw [z] at hx; cases hx
    | some a => rw [z] at hx; exact ⟨a, rfl, (Option.some.inj hx).symm⟩
  exact hs i a ρ s ha hI
theorem s_forI {α : Type} {mi : MI} {mg : MG} {mb : MS} {E : WE} {ρ : Ev} {st st1 : Sto} (emb : α → W) (xs : List α) {gd : Sto → Prop} (I : Nat → Ev → Sto → Prop) (hi : Walk2 mi ρ st st1 (xs.map emb) gd) (h0 : I 0 ρ st1) (hgd : ∀ i ρ s, I i ρ s → gd s)
    (hs : ∀ (i : Nat) (x : α) (ρ : Ev) (s : Sto), xs[i]? = some x → I i ρ s → mg (emb x) ρ s fun ρ2 s2 => mb ρ2 s2 ⟨I (i + 1), E.rt, E.nx, I (i + 1)⟩) (hd : ∀ ρ s, I xs.length ρ s → E.nx ρ s) : sFor mi mg mb ρ st E := by
  refine hi _ ⟨I, h0, hgd, fun i x ρ s hx hI => ?_, fun ρ s h => hd ρ s (by rw [List.length_map] at h; exact h)⟩
  rw [List.getElem?_map] at hx
  obtain ⟨a, ha, rfl⟩ : ∃ a, xs[i]? = some a ∧ x = emb a := by
    cases z : xs[i]? with
    | none => rw [z] at hx; cases hx
    | some a => rw [z] at hx; exact ⟨a, rfl, (Option.some.inj hx).symm⟩
  exact hs i a ρ s ha hI
end FL

/-! The law's draws: what its defs do to values. -/
namespace FL
open PySem PySem.Spec PyProof.Rows L2 KL KG GR KV KS KY RT
open Classical
def F_sp : List W → Sto → WQ → Prop := fun ws st Q => ∃ (ns : List Int) (lap : Int), ws = [.d (.list (ns.map .int)), wI lap] ∧ ns.length ≤ 63 ∧ 0 ≤ lap ∧ lap < 1000 ∧ ∀ u o, isWell o → Q (.l (st.length + 1)) (st ++ [u, o])
theorem mo_sp : MonoF F_sp := ⟨fun ws st Q Q' f ⟨s, t, e, a, b, c, q⟩ => ⟨s, t, e, a, b, c, fun u o h => f _ _ (q u o h)⟩⟩
def m_sp : MS :=
  (sSeq (sPar 2 3 (aCons (mIf (mB (mOp oLt (mVar 1) (mCB cLen (aCons (mVar 0) aNil)))) (mCB cInt (aCons (mOp oIxZ (mVar 0) (mVar 1)) aNil)) (mC (.int 0))) (aCons (mOp oAdd (mC (.int 351707)) (mOp oMul (mC (.int 7013)) (mVar 1))) aNil)))
      (sSeq (sFor (iL (mSlZ (mVar 0) mNone (mPart (mC (.int 63))))) (gN 4)
      (sAsg (mOp oMod (mCB cInt (aCons (mOp oAdd (mOp oAdd (mOp oMul (mVar 3) (mC (.int 46021))) (mOp oMod (mCB cInt (aCons (mVar 4) aNil)) (mC (.int 2147483323)))) (mC (.int 29))) aNil)) (mC (.int 2147483549))) (gN 3)))
      (sSeq (sAsg (mOp oMod (mCB cInt (aCons (mOp oAdd (mOp oAdd (mOp oMul (mVar 3) (mC (.int 67))) (mOp oMul (mOp oMod (mCB cInt (aCons (mVar 2) aNil)) (mC (.int 2147483323))) (mC (.int 30493)))) (mC (.int 11))) aNil)) (mC (.int 2147483549))) (gN 3))
      (sRet (mLst (aCons (mIf (mOr (mB (mOp oLt (mVar 2) (mC (.int 0)))) (mB (mOp oGe (mVar 2) (mOp oPow (mC (.int 10)) (mC (.int 15)))))) (mCB cAbs (aCons (mVar 2) aNil)) (mC (.int 0))) (aCons (mVar 3) (aCons (mC (.int 0)) aNil))))))))
theorem cm {i j : Int} (h : -(2 ^ 64) < j ∧ j < 2 ^ 64) : CMul i j := .inr h
theorem cm' {i j : Int} (h : -(2 ^ 64) < i ∧ i < 2 ^ 64) : CMul i j := .inl h
theorem s_retLst {ρ : Ev} {st : Sto} {E : WE} {a : MA} {ws : List W} (h : EvA a ρ st ws) (l : ws.length ≤ 1000000) (q : E.rt (.l st.length) (st ++ [.ls ws])) : sRet (mLst a) ρ st E := h _ ⟨l, q⟩
theorem okO_data (n : Nat) (ds : List PyData) : okO n (.ls (ds.map .d)) := fun w hw => by
  obtain ⟨d, _, rfl⟩ := List.mem_map.mp hw
  trivial
theorem do_sp : Does m_sp 2 3 F_sp := by
  rintro ws st Q ⟨ns, lap, rfl, hl, h0, h1, q⟩
  have own : ∃ own : Int, Ev' (mIf (mB (mOp oLt (mVar 1) (mCB cLen (aCons (mVar 0) aNil)))) (mCB cInt (aCons (mOp oIxZ (mVar 0) (mVar 1)) aNil)) (mC (.int 0))) [some (.d (.list (ns.map .int))), some (wI lap), none, none, none] st (wI own) := by
    have t : EvT (mB (mOp oLt (mVar 1) (mCB cLen (aCons (mVar 0) aNil)))) [some (.d (.list (ns.map .int))), some (wI lap), none, none, none] st (decide (lap < ((ns.map PyData.int).length : Nat))) := et_b (ev_lt (ev_var rfl) (ev_lenZ (ev_var rfl)))
    by_cases c : lap < ((ns.map PyData.int).length : Nat)
    · have hk : lap.toNat < ns.length := by rw [List.length_map] at c; omega
      refine ⟨ns[lap.toNat], ev_if t (fun _ => ev_int (ev_ixZ (ev_var rfl) (ev_var rfl) ?_)) (fun z => by rw [decide_eq_true c] at z; cases z)⟩
      have e : ((lap.toNat : Nat) : Int) = lap := by omega
      have z : atI (ns.map PyData.int) ((lap.toNat : Nat) : Int) = some (.int ns[lap.toNat]) := atI_nat (by rw [List.getElem?_map, List.getElem?_eq_getElem hk]; rfl)
      rw [e] at z
      exact z
    · exact ⟨0, ev_if t (fun z => by rw [decide_eq_false c] at z; cases z) (fun _ => ev_c)⟩
  obtain ⟨own, ho⟩ := own
  refine ⟨rfl, sq_par (ea_cons ho (ea_cons (ev_add ev_c (ev_mul ev_c (ev_var rfl) (cm' (by decide)))) ea_nil)) ?_⟩
  refine sq_forI (α := PyData) (st1 := st ++ [.ls ((cutG (ns.map PyData.int) none (some 63)).map .d)]) .d (cutG (ns.map PyData.int) none (some 63)) (fun _ ρ s => (∃ (seed : Int) (y : Option W), ρ = [some (.d (.list (ns.map .int))), some (wI lap), some (wI own), some (wI seed), y]) ∧ s = st ++ [.ls ((cutG (ns.map PyData.int) none (some 63)).map .d)]) ?_ ⟨⟨_, _, rfl⟩, rfl⟩ (gd := fun s => s[st.length]? = some (.ls ((cutG (ns.map PyData.int) none (some 63)).map .d))) (fun i ρ s h => by rw [h.2]; exact app_at) ?_ ?_
  · exact wk_slZ (ev_var rfl)
  · rintro i x ρ s hx ⟨⟨seed, y, rfl⟩, rfl⟩
    obtain ⟨k, _, rfl⟩ : ∃ k, k ∈ ns ∧ PyData.int k = x := List.mem_map.mp (List.mem_of_mem_drop (List.mem_of_mem_take (List.mem_of_getElem? hx)))
    exact s_set (ev_mod (ev_int (ev_add (ev_add (ev_mul (ev_var rfl) ev_c (cm (by decide))) (ev_mod (ev_int (ev_var (w := wI k) rfl)) ev_c (by decide))) ev_c)) ev_c (by decide)) ⟨⟨_, _, rfl⟩, rfl⟩
  · rintro ρ s ⟨⟨seed, y, rfl⟩, rfl⟩
    refine sq_set (ev_mod (ev_int (ev_add (ev_add (ev_mul (ev_var rfl) ev_c (cm (by decide))) (ev_mul (ev_mod (ev_int (ev_var rfl)) ev_c (by decide)) ev_c (cm (by decide)))) ev_c)) ev_c (by decide)) ?_
    have pick : ∃ v : Int, Ev' (mIf (mOr (mB (mOp oLt (mVar 2) (mC (.int 0)))) (mB (mOp oGe (mVar 2) (mOp oPow (mC (.int 10)) (mC (.int 15)))))) (mCB cAbs (aCons (mVar 2) aNil)) (mC (.int 0))) [some (.d (.list (ns.map .int))), some (wI lap), some (wI own), some (wI (((seed * 67 + own % 2147483323 * 30493 + 11) % 2147483549))), y] (st ++ [.ls ((cutG (ns.map PyData.int) none (some 63)).map .d)]) (wI v) := by
      have t := et_or (et_b (ev_lt (i := own) (j := 0) (ma := mVar 2) (mb := mC (.int 0)) (ρ := [some (.d (.list (ns.map .int))), some (wI lap), some (wI own), some (wI (((seed * 67 + own % 2147483323 * 30493 + 11) % 2147483549))), y]) (st := st ++ [.ls ((cutG (ns.map PyData.int) none (some 63)).map .d)]) (ev_var rfl) ev_c)) (fun _ => et_b (ev_ge (i := own) (ma := mVar 2) (ev_var rfl) (ev_pow (i := 10) (j := 15) ev_c ev_c ⟨by decide, by decide, by decide⟩)))
      generalize (decide (own < 0) || decide ((10 : Int) ^ (15 : Int).toNat ≤ own)) = b at t
      cases b with
      | true => exact ⟨_, ev_if t (fun _ => ev_abs (ev_var rfl)) (fun z => nomatch z)⟩
      | false => exact ⟨_, ev_if t (fun z => nomatch z) (fun _ => ev_c)⟩
    obtain ⟨v, hv⟩ := pick
    refine s_retLst (ws := [wI v, wI _, wI 0]) (ea_cons hv (ea_cons (ev_var rfl) (ea_cons ev_c ea_nil))) (show 3 ≤ 1000000 by decide) ⟨st ++ [.ls ((cutG (ns.map PyData.int) none (some 63)).map .d), .ls [wI v, wI _, wI 0]], [], by rw [List.append_nil]; exact app11, ?_, ?_, ?_⟩
    · rw [← app11]
      exact (Gcd.rfl'.app (okO_data _ _)).app (well_ok ⟨_, _, _, rfl⟩ _)
    · show _ < _
      rw [len1, len2]
      omega
    · rw [len1]
      exact q _ _ ⟨_, _, _, rfl⟩
def m_dr : MS :=
  (sSeq (sIf (mB (mOp oGt (mOp oIxL (mVar 0) (mC (.int 0))) (mC (.int 0)))) (sSeq (sAsg (mCB cDm (aCons (mOp oIxL (mVar 0) (mC (.int 0))) (aCons (mVar 1) aNil))) (gT 2 (gsC (gSb (mVar 0) (mC (.int 0))) (gsC (gN 2) gsN))))
      (sRet (mVar 2))) sNext)
      (sSeq (sAsg (mOp oAdd (mOp oIxL (mVar 0) (mC (.int 2))) (mC (.int 1))) (gSb (mVar 0) (mC (.int 2))))
      (sSeq (sAsg (mOp oMod (mCB cInt (aCons (mOp oAdd (mOp oIxL (mVar 0) (mC (.int 1))) (mOp oMul (mC (.int 40127)) (mOp oIxL (mVar 0) (mC (.int 2))))) aNil)) (mC (.int 2147483549))) (gN 3))
      (sSeq (sAsg (mOp oMod (mCB cInt (aCons (mOp oAdd (mOp oMul (mVar 3) (mOp oAdd (mOp oMod (mCB cInt (aCons (mVar 3) aNil)) (mC (.int 5009))) (mC (.int 47143)))) (mOp oMul (mC (.int 41)) (mOp oIxL (mVar 0) (mC (.int 2))))) aNil)) (mC (.int 2147483549))) (gSb (mVar 0) (mC (.int 1))))
      (sRet (mOp oMod (mCB cInt (aCons (mOp oFdiv (mOp oIxL (mVar 0) (mC (.int 1))) (mC (.int 743))) aNil)) (mVar 1)))))))
theorem sq_dm {ρ : Ev} {st : Sto} {E : WE} {r : MS} {a : MA} {i j k : Int} {n l v : Nat} {mo mi : ME} {xs : List W} (h : EvA a ρ st [wI i, wI j]) (c : CDiv i j) (ho : True → Ev' mo ρ st (.l n)) (e : st[n]? = some (.ls xs)) (hi : True → Ev' mi ρ st (wI k)) (hl : ixN xs.length k = some l) (q : r (ρ.set v (some (wI (i % j)))) (st.set n (.ls (xs.set l (wI (i / j))))) E) :
    sSeq (sAsg (mCB cDm a) (gT 2 (gsC (gSb mo mi) (gsC (gN v) gsN)))) r ρ st E := h _ ⟨c, rfl, ho trivial _ (hi trivial _ ⟨xs, e, l, hl, q⟩)⟩
theorem do_dr : Does m_dr 2 2 F_dr := by
  rintro ws st Q ⟨s, top, rfl, h0, h1, ⟨o, e, a, b, c, rfl⟩, q⟩
  have lt := (List.getElem?_eq_some_iff.mp e).1
  have go : ∀ (r x y z : Int), 0 ≤ r → r < top → ∃ s0 g, st.set s (.ls [wI x, wI y, wI z]) = s0 ++ g ∧ Gcd st s0 ∧ okW s0.length (wI r) ∧ Q (wI r) s0 := fun r x y z r0 r1 => ⟨_, [], (List.append_nil _).symm, xs_gc ⟨x, y, z, rfl⟩, trivial, q r _ r0 r1 ⟨x, y, z, rfl⟩⟩
  refine ⟨rfl, sq_if1 (et_b (ev_gt (ev_ixL (n := s) (w := wI a) (ev_var rfl) e ev_c rfl) ev_c)) (fun _ => ?_) (fun _ => ?_)⟩
  · refine sq_dm (i := a) (j := top) (k := 0) (l := 0) (ea_cons (ev_ixL (n := s) (w := wI a) (ev_var rfl) e ev_c rfl) (ea_cons (ev_var rfl) ea_nil)) ⟨h0, h1⟩ (fun _ => ev_var rfl) e (fun _ => ev_c) rfl ?_
    exact s_ret (w := wI (a % top)) (ev_var rfl) (go _ _ _ _ (Int.emod_nonneg _ (by omega)) (Int.emod_lt_of_pos _ h0))
  · refine sq_sub (n := s) (j := 2) (k := 2) (ev_add (ev_ixL (n := s) (w := wI c) (ev_var rfl) e ev_c rfl) ev_c) (ev_var rfl) e ev_c rfl ?_
    have e2 : (st.set s (.ls [wI a, wI b, wI (c + 1)]))[s]? = some (.ls [wI a, wI b, wI (c + 1)]) := List.getElem?_set_self lt
    refine sq_set (ev_mod (ev_int (ev_add (ev_ixL (n := s) (w := wI b) (ev_var rfl) e2 ev_c rfl) (ev_mul ev_c (ev_ixL (n := s) (w := wI (c + 1)) (ev_var rfl) e2 ev_c rfl) (cm' (by decide))))) ev_c (by decide)) ?_
    have sm := Int.emod_lt_of_pos (b + 40127 * (c + 1)) (show (0 : Int) < 2147483549 by decide)
    have sn := Int.emod_nonneg (b + 40127 * (c + 1)) (show (2147483549 : Int) ≠ 0 by decide)
    generalize (b + 40127 * (c + 1)) % 2147483549 = seed at sm sn
    have big : CMul seed (seed % 5009 + 47143) := cm' ⟨by omega, by omega⟩
    refine sq_sub (n := s) (j := 1) (k := 1) (xs := [wI a, wI b, wI (c + 1)]) (w := wI ((seed * (seed % 5009 + 47143) + 41 * (c + 1)) % 2147483549)) ?_ ?_ e2 ?_ rfl ?_
    · exact ev_mod (ev_int (ev_add (ev_mul (ev_var rfl) (ev_add (ev_mod (ev_int (ev_var rfl)) ev_c (by decide)) ev_c) big) (ev_mul ev_c (ev_ixL (n := s) (w := wI (c + 1)) (ev_var rfl) e2 ev_c rfl) (cm' (by decide))))) ev_c (by decide)
    · exact ev_var rfl
    · exact ev_c
    rw [List.set_set]
    have e3 : ∀ z : Int, (st.set s (.ls ([wI a, wI b, wI (c + 1)].set 1 (wI z))))[s]? = some (.ls [wI a, wI z, wI (c + 1)]) := fun z => List.getElem?_set_self lt
    refine s_ret (ev_mod (ev_int (ev_fdiv (ev_ixL (n := s) (ev_var rfl) (e3 _) ev_c rfl) ev_c ⟨by decide, by decide⟩)) (ev_var rfl) h0) (go _ _ _ _ (Int.emod_nonneg _ (by omega)) (Int.emod_lt_of_pos _ h0))
end FL

/-! The law's own walks: passes that grow until nothing is new. -/
namespace FL
open PySem GR
open Classical
section
variable {α : Type} {step : List Int → α → List Int}
/-- steps that let a list grow -/
def Grows (step : List Int → α → List Int) : Prop := ∀ f x, ∃ g, step f x = f ++ g
theorem grows_len (h : Grows step) (f : List Int) (x : α) : f.length ≤ (step f x).length := by
  obtain ⟨g, e⟩ := h f x
  rw [e, List.length_append]
  omega
theorem grows_same (h : Grows step) {f : List Int} {x : α} (l : (step f x).length ≤ f.length) : step f x = f := by
  obtain ⟨g, e⟩ := h f x
  rw [e, List.length_append] at l
  have : g = [] := List.eq_nil_of_length_eq_zero (by omega)
  rw [e, this, List.append_nil]
theorem fold_len (h : Grows step) : ∀ (xs : List α) (f : List Int), f.length ≤ (xs.foldl step f).length
  | [], _ => Nat.le_refl _
  | x :: xs, f => Nat.le_trans (grows_len h f x) (fold_len h xs _)
/-- a pass that changes nothing: no step does -/
theorem fold_same (h : Grows step) : ∀ (xs : List α) (f : List Int), (xs.foldl step f).length ≤ f.length → ∀ x ∈ xs, step f x = f
  | [], _, _ => fun _ h => absurd h List.not_mem_nil
  | x :: xs, f, l => by
    have l : (xs.foldl step (step f x)).length ≤ f.length := l
    have e := grows_same h (x := x) (f := f) (Nat.le_trans (fold_len h xs _) l)
    rw [e] at l
    intro y hy
    rcases List.mem_cons.mp hy with rfl | hy
    · exact e
    · exact fold_same h xs f l y hy
def passes (step : List Int → α → List Int) (xs : List α) : Nat → List Int → List Int
  | 0, f => f
  | k + 1, f => xs.foldl step (passes step xs k f)
theorem foldl_id {xs : List α} {f : List Int} (h : ∀ x ∈ xs, step f x = f) : xs.foldl step f = f := by
  induction xs with
  | nil => rfl
  | cons x xs ih =>
    show xs.foldl step (step f x) = f
    rw [h x List.mem_cons_self]
    exact ih fun y hy => h y (List.mem_cons_of_mem _ hy)
/-- so many passes: nothing new comes, or so many have come -/
theorem passes_end (h : Grows step) (xs : List α) (f : List Int) : ∀ k, (∀ x ∈ xs, step (passes step xs k f) x = passes step xs k f) ∨ f.length + k ≤ (passes step xs k f).length
  | 0 => .inr (Nat.le_refl _)
  | k + 1 => by
    by_cases c : (xs.foldl step (passes step xs k f)).length ≤ (passes step xs k f).length
    · have e := fold_same h xs _ c
      have e2 : passes step xs (k + 1) f = passes step xs k f := foldl_id e
      rw [e2]
      exact .inl e
    · rcases passes_end h xs f k with z | z
      · exact absurd (by rw [foldl_id z]; exact Nat.le_refl _) c
      · refine .inr ?_
        show _ ≤ (xs.foldl step (passes step xs k f)).length
        omega
theorem passes_inv {Pr : List Int → Prop} (hs : ∀ f x, x ∈ (xs : List α) → Pr f → Pr (step f x)) {f : List Int} (h : Pr f) : ∀ k, Pr (passes step xs k f)
  | 0 => h
  | k + 1 => by
    have : ∀ (ys : List α) (g : List Int), (∀ y ∈ ys, y ∈ xs) → Pr g → Pr (ys.foldl step g) := by
      intro ys
      induction ys with
      | nil => exact fun g _ h => h
      | cons y ys ih => exact fun g hy hg => ih _ (fun z hz => hy z (List.mem_cons_of_mem _ hz)) (hs g y (hy y List.mem_cons_self) hg)
    exact this xs _ (fun _ h => h) (passes_inv hs h k)
end
/-! ### ancestors by passes -/
def nrStep (crew : List Int) (f : List Int) (r : List Int) : List Int := match r with
  | [i, j] => if j ∈ f ∧ i ∈ crew ∧ i ∉ f then f ++ [i] else f
  | _ => f
theorem nr_grows (crew : List Int) : Grows (nrStep crew) := fun f r => by
  unfold nrStep
  split
  · split
    · exact ⟨_, rfl⟩
    · exact ⟨[], (List.append_nil f).symm⟩
  · exact ⟨[], (List.append_nil f).symm⟩
theorem nr_inv {ar : List (List Int)} {crew some_ : List Int} (nd : some_.Nodup) (sub : ∀ x ∈ some_, x ∈ crew) (k : Nat) : (passes (nrStep crew) ar k some_).Nodup ∧ (∀ y ∈ passes (nrStep crew) ar k some_, AncR ar crew some_ y) ∧ ∀ y ∈ some_, y ∈ passes (nrStep crew) ar k some_ := by
  refine passes_inv (Pr := fun f => f.Nodup ∧ (∀ y ∈ f, AncR ar crew some_ y) ∧ ∀ y ∈ some_, y ∈ f) (fun f r hr ⟨h1, h2, h3⟩ => ?_) ⟨nd, fun y hy => .base (sub y hy) hy, fun y hy => hy⟩ k
  unfold nrStep
  split
  · rename_i i j
    split
    · rename_i c
      refine ⟨?_, fun y hy => ?_, fun y hy => List.mem_append_left _ (h3 y hy)⟩
      · rw [List.nodup_append]
        exact ⟨h1, by simp, fun a ha b hb e => c.2.2 (by rw [List.mem_singleton.mp hb] at e; exact e ▸ ha)⟩
      · rcases List.mem_append.mp hy with z | z
        · exact h2 y z
        · rw [List.mem_singleton.mp z]
          exact .step c.2.1 (h2 j c.1) hr
    · exact ⟨h1, h2, h3⟩
  · exact ⟨h1, h2, h3⟩
theorem nr_is {ar : List (List Int)} {crew some_ : List Int} (up : Up ar) (asc : Asc crew) (nd : some_.Nodup) (sub : ∀ x ∈ some_, x ∈ crew) : isort (passes (nrStep crew) ar crew.length some_) = ancL ar crew some_ := by
  obtain ⟨h1, h2, h3⟩ := nr_inv (ar := ar) nd sub crew.length
  generalize hf : passes (nrStep crew) ar crew.length some_ = f at h1 h2 h3
  have fin : ∀ y ∈ f, y ∈ crew := fun y hy => (h2 y hy).mem
  have closed : ∀ i j, [i, j] ∈ ar → j ∈ f → i ∈ crew → i ∈ f := by
    intro i j hr hj hi
    rcases passes_end (nr_grows crew) ar some_ crew.length with z | z
    · rw [hf] at z
      have e := z _ hr
      by_cases c : i ∈ f
      · exact c
      · exfalso
        unfold nrStep at e
        simp only at e
        rw [if_pos ⟨hj, hi, c⟩] at e
        have := congrArg List.length e
        rw [List.length_append] at this
        simp at this
    · rw [hf] at z
      -- all of the crew has come
      refine Decidable.byContradiction fun c => ?_
      have := nodup_le (xs := i :: f) (ys := crew) (List.nodup_cons.mpr ⟨c, h1⟩) fun y hy => (List.mem_cons.mp hy).elim (fun e => e ▸ hi) (fin y)
      rw [List.length_cons] at this
      omega
  refine isort_asc h1 (ancL_asc asc) fun y => ?_
  rw [mem_ancL]
  refine ⟨h2 y, fun a => ?_⟩
  induction a with
  | base _ h => exact h3 _ h
  | step h a e ih => exact closed _ _ e ih h
/-! ### a district by passes -/
def joStep (crew : List Int) (f : List Int) (b : List Int) : List Int := if (b.filter fun y => decide (y ∈ f)) ≠ [] then f ++ b.filter (fun y => decide (y ∈ crew) && !decide (y ∈ f)) else f
theorem jo_grows (crew : List Int) : Grows (joStep crew) := fun f b => by
  unfold joStep
  split
  · exact ⟨_, rfl⟩
  · exact ⟨[], (List.append_nil f).symm⟩
theorem jo_inv {hs : List (List Int)} {crew : List Int} {x : Int} (hnd : ∀ b ∈ hs, b.Nodup) (k : Nat) : (passes (joStep crew) hs k [x]).Nodup ∧ (∀ y ∈ passes (joStep crew) hs k [x], ConR hs crew x y) ∧ x ∈ passes (joStep crew) hs k [x] := by
  refine passes_inv (Pr := fun f => f.Nodup ∧ (∀ y ∈ f, ConR hs crew x y) ∧ x ∈ f) (fun f b hb ⟨h1, h2, h3⟩ => ?_) ⟨by simp, fun y hy => by rw [List.mem_singleton.mp hy]; exact .base, by simp⟩ k
  unfold joStep
  split
  · rename_i c
    obtain ⟨z, hz⟩ := List.exists_mem_of_ne_nil _ c
    obtain ⟨zb, zf⟩ := List.mem_filter.mp hz
    have zf := of_decide_eq_true zf
    refine ⟨?_, fun y hy => ?_, List.mem_append_left _ h3⟩
    · rw [List.nodup_append]
      refine ⟨h1, (hnd b hb).filter _, fun a ha c hc e => ?_⟩
      have := (List.mem_filter.mp hc).2
      rw [Bool.and_eq_true, Bool.not_eq_true', decide_eq_false_iff_not] at this
      exact this.2 (e ▸ ha)
    · rcases List.mem_append.mp hy with w | w
      · exact h2 y w
      · obtain ⟨yb, yc⟩ := List.mem_filter.mp w
        rw [Bool.and_eq_true, decide_eq_true_iff] at yc
        exact .step (h2 z zf) hb zb yb yc.1
  · exact ⟨h1, h2, h3⟩
theorem jo_is {hs : List (List Int)} {crew : List Int} {x : Int} (hnd : ∀ b ∈ hs, b.Nodup) (asc : Asc crew) (hx : x ∈ crew) : isort (passes (joStep crew) hs crew.length [x]) = comL hs crew x := by
  obtain ⟨h1, h2, h3⟩ := jo_inv (crew := crew) (x := x) hnd crew.length
  have e0 := passes_end (jo_grows crew) hs [x] crew.length
  generalize hf : passes (joStep crew) hs crew.length [x] = f at h1 h2 h3 e0
  have fin : ∀ y ∈ f, y ∈ crew := fun y hy => (h2 y hy).mem hx
  have lf := nodup_le h1 fin
  have still : ∀ b ∈ hs, joStep crew f b = f := by
    rcases e0 with z | z
    · exact z
    · rw [List.length_singleton] at z
      omega
  refine isort_asc h1 (comL_asc asc) fun y => ?_
  rw [mem_comL hx]
  refine ⟨h2 y, fun a => ?_⟩
  induction a with
  | base => exact h3
  | @step y z b a hb hz hy hm ih =>
    by_cases c : y ∈ f
    · exact c
    · exfalso
      have e := still b hb
      have ne : (b.filter fun y => decide (y ∈ f)) ≠ [] := fun q => by
        have : z ∈ b.filter fun y => decide (y ∈ f) := List.mem_filter.mpr ⟨hz, decide_eq_true ih⟩
        rw [q] at this
        exact absurd this List.not_mem_nil
      unfold joStep at e
      rw [if_pos ne] at e
      have e := congrArg List.length e
      rw [List.length_append] at e
      have : y ∈ b.filter fun y => decide (y ∈ crew) && !decide (y ∈ f) := List.mem_filter.mpr ⟨hy, by rw [decide_eq_true hm, decide_eq_false c]; rfl⟩
      have := List.length_pos_of_mem this
      omega
end FL

/-! The law's draws of lots, its own walks: what its defs do to values. -/
namespace FL
open PySem PySem.Spec PyProof.Rows L2 KL KG GR KV KS KY RT
open Classical
def F_pk : List W → Sto → WQ → Prop := fun ws st Q => ∃ (s : Nat) (ds : List PyData), ws = [.l s, .d (.tuple ds)] ∧ ds ≠ [] ∧ ds.length ≤ 1000000 ∧ WellAt st s ∧ ∀ x o, x ∈ ds → isWell o → Q (.d x) (st.set s o)
theorem mo_pk : MonoF F_pk := ⟨fun ws st Q Q' f ⟨s, t, e, a, b, c, q⟩ => ⟨s, t, e, a, b, c, fun x o h1 h2 => f _ _ (q x o h1 h2)⟩⟩
def m_pk : MS :=
  (sRet (mOp oIxT (mVar 1) (mCB F_dr (aCons (mVar 0) (aCons (mCB cLen (aCons (mVar 1) aNil)) aNil)))))
theorem do_pk : Does m_pk 2 0 F_pk := by
  rintro ws st Q ⟨s, ds, rfl, ne, hl, w, q⟩
  have pos : 0 < ds.length := List.length_pos_iff.mpr ne
  refine ⟨rfl, s_retD (dr_ixT (ds := ds) w (ev_var rfl) (dr_draw (ea_cons (ev_var rfl) (ea_cons (ev_lenT (ev_var rfl)) ea_nil)) (by omega) (by omega) w)) ?_⟩
  rintro w' o ho ⟨x, hx, rfl⟩
  exact ⟨_, [], (List.append_nil _).symm, xs_gc ho, trivial, q x o hx ho⟩
/-- the same shown: the same -/
def F_is : List W → Sto → WQ → Prop := fun ws st Q => ∃ ds : List PyData, ws = [.d (.tuple ds), .d (.tuple ds)] ∧ (PyData.tuple ds).showable = true ∧ (PyData.tuple ds).depth ≤ 50 ∧ (PyData.tuple ds).shown.length ≤ 1000000 ∧ Q (wB true) st
theorem mo_is : MonoF F_is := ⟨fun ws st Q Q' f ⟨s, e, a, b, c, q⟩ => ⟨s, e, a, b, c, f _ _ q⟩⟩
def m_is : MS :=
  (sRet (mOp oEqS (mCB cRepr (aCons (mVar 0) aNil)) (mCB cRepr (aCons (mVar 1) aNil))))
theorem ev_repr {ρ : Ev} {st : Sto} {m : ME} {ds : List PyData} (h : Ev' m ρ st (.d (.tuple ds))) (a : (PyData.tuple ds).showable = true) (b : (PyData.tuple ds).depth ≤ 50) (c : (PyData.tuple ds).shown.length ≤ 1000000) : Ev' (mCB cRepr (aCons m aNil)) ρ st (wS (PyData.tuple ds).shown) := fun Q q => h _ ⟨a, b, c, q⟩
theorem do_is : Does m_is 2 0 F_is := by
  rintro ws st Q ⟨ds, rfl, a, b, c, q⟩
  refine ⟨rfl, s_ret (w := wB true) (fun R r => ev_eqS (ev_repr (ev_var rfl) a b c) (ev_repr (ev_var rfl) a b c) R ?_) (sameW trivial q)⟩
  rw [decide_eq_true rfl]
  exact r
def F_so : List W → Sto → WQ → Prop := fun ws st Q => ∃ (s : Nat) (ns : List Int), ws = [.l s, wR ns] ∧ ns.length ≤ 1000 ∧ WellAt st s ∧ ∀ ms o, ms.Sublist ns → isWell o → Q (wR ms) (st.set s o)
theorem mo_so : MonoF F_so := ⟨fun ws st Q Q' f ⟨s, t, e, a, b, q⟩ => ⟨s, t, e, a, b, fun x o h1 h2 => f _ _ (q x o h1 h2)⟩⟩
def m_so : MS :=
  (sSeq (sAsg (mLst aNil) (gN 2))
      (sSeq (sFor (iT (mVar 1)) (gN 3)
      (sIf (mB (mOp oEqI (mCB F_dr (aCons (mVar 0) (aCons (mC (.int 2)) aNil))) (mC (.int 0)))) (sDrop (mBM cApp (mVar 2) (aCons (mVar 3) aNil))) sNext))
      (sRet (mCB cTup (aCons (mVar 2) aNil)))))
theorem do_so : Does m_so 2 2 F_so := by
  rintro ws st Q ⟨s, ns, rfl, hl, w, q⟩
  have lt := w.lt
  obtain ⟨o0, w0, e0⟩ := w.same
  refine ⟨rfl, sq_lst0 ?_⟩
  refine sq_forI (α := Int) wI ns (fun i ρ s' => ∃ (y : Option W) (ms : List Int) (o : Ob), ρ = [some (.l s), some (wR ns), some (.l st.length), y] ∧ isWell o ∧ s' = Xs st s o [.ls (ms.map wI)] ∧ ms.Sublist (ns.take i)) ?_ ⟨none, [], o0, rfl, w0, by rw [Xs, e0], List.nil_sublist _⟩ (gd := fun _ => True) (fun _ _ _ _ => trivial) ?_ ?_
  · exact wk_row (ev_var rfl)
  · rintro i x ρ s' hx ⟨y, ms, o, rfl, ho, rfl, sub⟩
    have nxt : (ns.take (i + 1)) = ns.take i ++ [x] := by rw [List.take_add_one, hx]; rfl
    have W := xs_well (L := [.ls (ms.map wI)]) lt ho
    have ml : ms.length ≤ 1000 := by
      have := sub.length_le
      rw [List.length_take] at this
      omega
    refine s_ifD1 (drT_cmp W (dr_draw (s := s) (top := 2) (ea_cons (ev_var rfl) (ea_cons ev_c ea_nil)) (by decide) (by decide) W) (fun _ _ => ev_c)) (fun o1 h1 => ?_) (fun o1 h1 => ?_)
    · rw [xs_set lt]
      refine s_app (n := st.length) (xs := ms.map wI) (ev_var rfl) xs_loc0 (ev_var rfl) (by rw [List.length_map]; omega) ?_
      rw [xs_setloc0]
      exact ⟨_, ms ++ [x], o1, rfl, h1, by rw [snocI]; rfl, by rw [nxt]; exact sub.append (List.Sublist.refl _)⟩
    · rw [xs_set lt]
      exact ⟨_, ms, o1, rfl, h1, rfl, by rw [nxt]; exact sub.trans (List.sublist_append_left _ _)⟩
  · rintro ρ s' ⟨y, ms, o, rfl, ho, rfl, sub⟩
    rw [List.take_length] at sub
    exact s_ret (ev_tupL (n := st.length) (ds := ms.map .int) (ev_var rfl) (by rw [xs_loc0, List.map_map]; rfl)) (xs_end ho (q ms o sub ho))
/-- a row as a tuple, as a list -/
def rowAt (w : W) (st : Sto) (s : Nat) (ns : List Int) : Prop := w = wR ns ∨ ∃ n, w = .l n ∧ n ≠ s ∧ st[n]? = some (.ls (ns.map wI))
def F_fe : List W → Sto → WQ → Prop := fun ws st Q => ∃ (s : Nat) (w : W) (ns : List Int) (many : Int), ws = [.l s, w, wI many] ∧ rowAt w st s ns ∧ ns.length ≤ 1000 ∧ 0 ≤ many ∧ WellAt st s ∧ ∀ ms o, ms.Sublist ns → ms.length = min ns.length many.toNat → isWell o → Q (wR ms) (st.set s o)
theorem mo_fe : MonoF F_fe := ⟨fun ws st Q Q' f ⟨s, w, t, m, e, a, b, c, d, q⟩ => ⟨s, w, t, m, e, a, b, c, d, fun x o h1 h2 h3 => f _ _ (q x o h1 h2 h3)⟩⟩
def m_fe : MS :=
  (sSeq (sAsg (mCB cLst (aCons (mVar 1) aNil)) (gN 3))
      (sSeq (sWhile (mB (mOp oGt (mCB cLen (aCons (mVar 3) aNil)) (mVar 2)))
      (sDrop (mBM cPopAt (mVar 3) (aCons (mCB F_dr (aCons (mVar 0) (aCons (mCB cLen (aCons (mVar 3) aNil)) aNil))) aNil))))
      (sRet (mCB cTup (aCons (mVar 3) aNil)))))
theorem do_fe : Does m_fe 3 1 F_fe := by
  rintro ws st Q ⟨s, w, ns, many, rfl, row, hl, m0, W0, q⟩
  have lt := W0.lt
  obtain ⟨o0, w0, e0⟩ := W0.same
  have start : ∀ (r : MS) (E : WE), r [some (.l s), some w, some (wI many), some (.l st.length)] (st ++ [.ls (ns.map wI)]) E → sSeq (sAsg (mCB cLst (aCons (mVar 1) aNil)) (gN 3)) r [some (.l s), some w, some (wI many), none] st E := fun r E h => by
    rcases row with rfl | ⟨n, rfl, _, e⟩
    · exact sq_listR (ns := ns) (ev_var rfl) h
    · exact sq_listL (k := n) (ev_var rfl) e h
  refine ⟨rfl, start _ _ (sq_while (fun k ρ s' => ∃ (ms : List Int) (o : Ob), ρ = [some (.l s), some w, some (wI many), some (.l st.length)] ∧ isWell o ∧ s' = Xs st s o [.ls (ms.map wI)] ∧ ms.Sublist ns ∧ k = ms.length ∧ (ms.length = ns.length ∨ many ≤ ms.length)) ?_ ?_)⟩
  · exact ⟨_, ns, o0, rfl, w0, by rw [Xs, e0], List.Sublist.refl _, rfl, .inl rfl⟩
  · rintro k ρ s' ⟨ms, o, rfl, ho, rfl, sub, rfl, some_⟩
    have sl := sub.length_le
    refine ⟨_, et_b (ev_gt (ev_lenL (n := st.length) (ev_var rfl) xs_loc0) (ev_var rfl)), fun c => ?_, fun c => ?_⟩
    · have c := of_decide_eq_true c
      rw [List.length_map] at c
      have Wl := xs_well (L := [.ls (ms.map wI)]) lt ho
      refine dr_popAt (k := 0) lt ho (by omega) rfl (ev_var rfl) (dr_draw (ea_cons (ev_var rfl) (ea_cons (fun R r => ev_lenL (n := st.length) (ev_var rfl) xs_loc0 R (by rw [List.length_map]; exact r)) ea_nil)) (by omega) (by omega) Wl) fun r o1 hk h1 => ?_
      have le : (ms.eraseIdx r).length = ms.length - 1 := by rw [List.length_eraseIdx, if_pos hk]
      exact ⟨(ms.eraseIdx r).length, by omega, ms.eraseIdx r, o1, rfl, h1, rfl, (List.eraseIdx_sublist _ _).trans sub, rfl, .inr (by omega)⟩
    · have c : ¬ (many < ((ms.map wI).length : Nat)) := of_decide_eq_false c
      rw [List.length_map] at c
      exact s_ret (ev_tupL (n := st.length) (ds := ms.map .int) (ev_var rfl) (by rw [xs_loc0, List.map_map]; rfl)) (xs_end ho (q ms o sub (by omega) ho))
end FL

/-! The program's rounds. -/
namespace FL
open PySem PySem.Spec PyProof.Rows L2 KL KG GR KV KS KY RT
open Classical
theorem atI_last {α : Type} {xs : List α} {x : α} : atI (xs ++ [x]) (-1) = some x := by
  have e : ixN (xs ++ [x]).length (-1) = some xs.length := by
    rw [List.length_append, List.length_singleton]
    unfold ixN
    rw [if_neg (by decide), if_pos (by omega)]
    congr 1
    omega
  unfold atI
  rw [e]
  show (xs ++ [x])[xs.length]? = some x
  simp
theorem atI_head {x : Int} {t : List Int} : atI ((x :: t).map PyData.int) 0 = some (.int x) := atI_nat (xs := (x :: t).map PyData.int) (j := 0) rfl
theorem atI_lastR {zs : List (List Int)} {S : List Int} : atI ((zs ++ [S]).map wR) (-1) = some (wR S) := by
  rw [List.map_append]
  exact atI_last
theorem sq_ifApp {ρ : Ev} {st : Sto} {E : WE} {r : MS} {b : Bool} {mt : MT} {mo m : ME} {n : Nat} {xs : List W} {w : W} (h : EvT mt ρ st b) (ho : Ev' mo ρ st (.l n)) (e : st[n]? = some (.ls xs)) (hm : Ev' m ρ st w) (l : xs.length < 1000000) (q : r ρ (st.set n (.ls (xs ++ if b = true then [w] else []))) E) : sSeq (sIf mt (sDrop (mBM cApp mo (aCons m aNil))) sNext) r ρ st E := by
  refine sq_if1 h (fun c => ?_) (fun c => ?_)
  · subst c
    rw [if_pos rfl] at q
    exact s_app ho e hm l q
  · subst c
    rw [if_neg (by decide), List.append_nil, set_same e] at q
    exact q
theorem s_ifApp {ρ : Ev} {st : Sto} {E : WE} {b : Bool} {mt : MT} {mo m : ME} {n : Nat} {xs : List W} {w : W} (h : EvT mt ρ st b) (ho : Ev' mo ρ st (.l n)) (e : st[n]? = some (.ls xs)) (hm : Ev' m ρ st w) (l : xs.length < 1000000) (q : E.nx ρ (st.set n (.ls (xs ++ if b = true then [w] else [])))) : sIf mt (sDrop (mBM cApp mo (aCons m aNil))) sNext ρ st E := by
  refine s_if1 h (fun c => ?_) (fun c => ?_)
  · subst c
    rw [if_pos rfl] at q
    exact s_app ho e hm l q
  · subst c
    rw [if_neg (by decide), List.append_nil, set_same e] at q
    exact q
def F_ij : List W → Sto → WQ → Prop := fun ws st Q => ∃ (n a : PyData) (hs : List (List Int)) (x : Int) (t : List Int), ws = [.d (.tuple [n, a, dRows hs]), wR (x :: t)] ∧ Joi hs (x :: t) x ∧ (x :: t).length < 64 ∧ hs.length ≤ 1000 ∧ Q (wB true) st
theorem mo_ij : MonoF F_ij := ⟨fun ws st Q Q' f ⟨n, a, hs, x, t, e, b, c, d, q⟩ => ⟨n, a, hs, x, t, e, b, c, d, f _ _ q⟩⟩
def m_ij : MS :=
  (sRet (mAndV (mOp (oEqD true) (mVar 1) (mTup aNil)) (mOp (oEqD false) (mCB F_di (aCons (mVar 0) (aCons (mVar 1) (aCons (mOp oIxT (mVar 1) (mC (.int 0))) aNil)))) (mVar 1))))
theorem do_ij : Does m_ij 2 0 F_ij := by
  rintro ws st Q ⟨n, a, hs, x, t, rfl, j, l, lh, q⟩
  refine ⟨rfl, s_ret (w := wB true) ?_ (sameW trivial q)⟩
  have z : Ev' (mAndV (mOp (oEqD true) (mVar 1) (mTup aNil)) (mOp (oEqD false) (mCB F_di (aCons (mVar 0) (aCons (mVar 1) (aCons (mOp oIxT (mVar 1) (mC (.int 0))) aNil)))) (mVar 1))) ([W.d (.tuple [n, a, dRows hs]), wR (x :: t)].map some ++ List.replicate 0 none) st (wB (!decide (x :: t = []) && decide (comL hs (x :: t) x = x :: t))) :=
    ev_and (ev_neR (s := []) (ev_var rfl) (ev_tup (ds := []) ea_nil (by decide))) fun _ => ev_eqR (ev_call (ea_cons (ev_var rfl) (ea_cons (ev_var rfl) (ea_cons (ev_ixT (ev_var rfl) ev_c atI_head) ea_nil))) fun Q q => ⟨n, a, hs, x :: t, x, rfl, l, j.asc, List.mem_cons_self, lh, q⟩) (ev_var rfl)
  rw [decide_eq_false (List.cons_ne_nil x t), decide_eq_true j.all] at z
  exact z
def F_ro : List W → Sto → WQ → Prop := fun ws st Q => ∃ (n : PyData) (ar hs : List (List Int)) (S : List Int) (x : Int) (t : List Int), ws = [.d (.tuple [n, dRows ar, dRows hs]), wR S, wR (x :: t)] ∧ S.length < 64 ∧ Asc S ∧ Up ar ∧ hs.length ≤ 1000 ∧ Joi hs (x :: t) x ∧ (∀ y ∈ x :: t, y ∈ S) ∧ Q (.d (dRows (roundsL ar hs (x :: t) x S))) st
theorem mo_ro : MonoF F_ro := ⟨fun ws st Q Q' f ⟨n, ar, hs, S, x, t, e, a, b, c, d, i, k, q⟩ => ⟨n, ar, hs, S, x, t, e, a, b, c, d, i, k, f _ _ q⟩⟩
def m_ro : MS :=
  (sSeq (sAsg (mLst (aCons (mVar 1) aNil)) (gN 3))
      (sSeq (sAsg (mC .none) (gN 4))
      (sSeq (sWhile (mB (mOp (oEqD true) (mVar 4) (mOp oIxL (mVar 3) (mNeg (mC (.int 1))))))
      (sSeq (sAsg (mOp oIxL (mVar 3) (mNeg (mC (.int 1)))) (gN 4))
      (sSeq (sAsg (mCB F_di (aCons (mVar 0) (aCons (mVar 4) (aCons (mOp oIxT (mVar 2) (mC (.int 0))) aNil)))) (gN 5))
      (sSeq (sIf (mB (mOp (oEqD true) (mVar 5) (mVar 4))) (sDrop (mBM cApp (mVar 3) (aCons (mVar 5) aNil))) sNext)
      (sSeq (sAsg (mCB F_an (aCons (mVar 0) (aCons (mVar 5) (aCons (mVar 2) aNil)))) (gN 6))
      (sIf (mB (mOp (oEqD true) (mVar 6) (mVar 5))) (sDrop (mBM cApp (mVar 3) (aCons (mVar 6) aNil))) sNext))))))
      (sRet (mCB cTup (aCons (mVar 3) aNil))))))
theorem shp_none : shp .none := rfl
theorem ev_neD {ρ : Ev} {st : Sto} {ma mb : ME} {d e : PyData} (ha : Ev' ma ρ st (.d d)) (hb : Ev' mb ρ st (.d e)) (h1 : shp d) (h2 : shp e) : Ev' (mOp (oEqD true) ma mb) ρ st (wB (!PyData.eqv d e)) := fun Q q => ha _ (hb _ ⟨h1, h2, q⟩)
theorem do_ro : Does m_ro 3 4 F_ro := by
  rintro ws st Q ⟨n, ar, hs, S0, x, t, rfl, l0, asc0, up, lh, j, sub0, q⟩
  refine ⟨rfl, sq_lst1 (w := wR S0) (ev_var rfl) (sq_set (w := .d .none) ev_c ?_)⟩
  refine sq_while (fun m ρ s' => ∃ (zs : List (List Int)) (S : List Int) (d4 : PyData) (y5 y6 : Option W), ρ = [some (.d (.tuple [n, dRows ar, dRows hs])), some (wR S0), some (wR (x :: t)), some (.l st.length), some (.d d4), y5, y6] ∧ s' = st ++ [.ls ((zs ++ [S]).map wR)] ∧ Asc S ∧ (∀ y ∈ x :: t, y ∈ S) ∧ zs.length + 2 * S.length ≤ 2 * S0.length ∧ shp d4 ∧
    ((d4 = dInts S ∧ roundsL ar hs (x :: t) x S0 = zs ++ [S] ∧ m = 0) ∨ (PyData.eqv d4 (dInts S) = false ∧ roundsL ar hs (x :: t) x S0 = zs ++ roundsL ar hs (x :: t) x S ∧ m = S.length + 1))) ⟨S0.length + 1, [], S0, .none, none, none, rfl, rfl, asc0, sub0, by simp, shp_none, .inr ⟨rfl, rfl, rfl⟩⟩ ?_
  rintro m ρ s' ⟨zs, S, d4, y5, y6, rfl, rfl, asc, sub, bd, sh, h⟩
  refine ⟨!PyData.eqv d4 (dInts S), et_b (ev_neD (ev_var rfl) (ev_ixL (n := st.length) (ev_var rfl) app_at (ev_neg ev_c) atI_lastR) sh (shp_row S)), fun c => ?_, fun c => ?_⟩
  · rcases h with ⟨rfl, _⟩ | ⟨ne, rs, rfl⟩
    · rw [eqv_dInts, decide_eq_true rfl] at c
      cases c
    have sl : S.length ≤ S0.length := by omega
    refine sq_set (w := wR S) (ev_ixL (n := st.length) (ev_var rfl) app_at (ev_neg ev_c) atI_lastR) ?_
    refine sq_set (w := wR (comL hs S x)) ?_ ?_
    · exact ev_call (ea_cons (ev_var rfl) (ea_cons (ev_var rfl) (ea_cons (ev_ixT (ds := (x :: t).map .int) (ev_var rfl) ev_c atI_head) ea_nil))) fun Q q => ⟨n, _, hs, S, x, rfl, by omega, asc, sub x List.mem_cons_self, lh, q⟩
    have cl : (comL hs S x).length ≤ S.length := List.length_filter_le _ _
    refine sq_ifApp (n := st.length) (w := wR (comL hs S x)) (xs := (zs ++ [S]).map wR) (et_b (ev_neR (r := comL hs S x) (s := S) (ev_var rfl) (ev_var rfl))) (ev_var rfl) app_at (ev_var rfl) ?_ ?_
    · rw [List.length_map, List.length_append, List.length_singleton]
      omega
    rw [app_set]
    refine sq_set (w := wR (rst ar hs (x :: t) x S)) ?_ ?_
    · exact ev_call (ea_cons (ev_var rfl) (ea_cons (ev_var rfl) (ea_cons (ev_var rfl) ea_nil))) fun Q q => ⟨n, _, ar, comL hs S x, x :: t, rfl, by omega, comL_asc asc, up, q⟩
    refine s_ifApp (n := st.length) (w := wR (rst ar hs (x :: t) x S)) (et_b (ev_neR (r := rst ar hs (x :: t) x S) (s := comL hs S x) (ev_var rfl) (ev_var rfl))) (ev_var rfl) app_at (ev_var rfl) ?_ ?_
    · rw [List.length_append, List.length_map, List.length_append, List.length_singleton]
      split <;> simp <;> omega
    rw [app_set]
    have ap1 : (if (!decide (comL hs S x = S)) = true then [wR (comL hs S x)] else []) = (if comL hs S x = S then [] else [comL hs S x]).map wR := by
      by_cases c : comL hs S x = S
      · rw [decide_eq_true c, if_pos c]
        rfl
      · rw [decide_eq_false c, if_neg c]
        rfl
    have ap2 : (if (!decide (rst ar hs (x :: t) x S = comL hs S x)) = true then [wR (rst ar hs (x :: t) x S)] else []) = (if rst ar hs (x :: t) x S = comL hs S x then [] else [rst ar hs (x :: t) x S]).map wR := by
      by_cases c : rst ar hs (x :: t) x S = comL hs S x
      · rw [decide_eq_true c, if_pos c]
        rfl
      · rw [decide_eq_false c, if_neg c]
        rfl
    rw [ap1, ap2, ← List.map_append, ← List.map_append]
    by_cases e : rst ar hs (x :: t) x S = S
    · have ce := rst_com asc e
      refine ⟨0, by omega, zs, S, dInts S, _, _, rfl, ?_, asc, sub, bd, shp_row S, .inl ⟨rfl, ?_, rfl⟩⟩
      · rw [if_pos ce, if_pos (e.trans ce.symm), List.append_nil, List.append_nil]
      · rw [rs, rounds_stop asc e]
    · have rl := rst_len asc e
      obtain ⟨zs2, e2⟩ := rst_last (ar := ar) (hs := hs) (ss := x :: t) (x := x) e
      have e3 : zs ++ [S] ++ (if comL hs S x = S then [] else [comL hs S x]) ++ (if rst ar hs (x :: t) x S = comL hs S x then [] else [rst ar hs (x :: t) x S]) = (zs ++ zs2) ++ [rst ar hs (x :: t) x S] := by
        rw [List.append_assoc zs zs2, ← e2]
        simp
      have l3 := congrArg List.length e3
      have z1 : (if comL hs S x = S then ([] : List (List Int)) else [comL hs S x]).length ≤ 1 := by split <;> simp
      have z2 : (if rst ar hs (x :: t) x S = comL hs S x then ([] : List (List Int)) else [rst ar hs (x :: t) x S]).length ≤ 1 := by split <;> simp
      simp only [List.length_append, List.length_singleton] at l3
      refine ⟨(rst ar hs (x :: t) x S).length + 1, by omega, zs ++ zs2, rst ar hs (x :: t) x S, dInts S, _, _, rfl, by rw [e3], rst_asc asc, j.in_rst sub, ?_, shp_row S, .inr ⟨?_, ?_, rfl⟩⟩
      · rw [List.length_append]
        omega
      · rw [eqv_dInts]
        exact decide_eq_false fun z => e z.symm
      · rw [rs, rounds_cont asc e, e2]
        unfold roundsL
        simp
  · rcases h with ⟨rfl, rs, rfl⟩ | ⟨ne, _⟩
    · refine s_ret (ev_tupL (n := st.length) (ds := (zs ++ [S]).map dInts) (ev_var rfl) (by rw [app_at, List.map_map]; rfl)) ⟨st, [_], rfl, Gcd.rfl', trivial, ?_⟩
      rw [rs] at q
      exact q
    · rw [ne] at c
      cases c
def F_nj : List W → Sto → WQ → Prop := fun ws st Q => ∃ (n : Nat) (nm : List Str) (ar hd : List (List Int)) (x : Int) (t : List Int), ws = [.d (dGraph nm ar hd), wR (x :: t)] ∧ GrN n nm ar hd ∧ LotN n (x :: t) ∧ Joi hd (x :: t) x ∧ Q (.d .none) st
theorem mo_nj : MonoF F_nj := ⟨fun ws st Q Q' f ⟨n, nm, ar, hd, x, t, e, a, b, c, q⟩ => ⟨n, nm, ar, hd, x, t, e, a, b, c, f _ _ q⟩⟩
def m_nj : MS :=
  (sSeq (sDrop (mCB F_lo (aCons (mVar 0) (aCons (mVar 1) aNil))))
      (sIf (mNot (mB (mCB F_ij (aCons (mVar 0) (aCons (mVar 1) aNil))))) sNever sNext))
theorem do_nj : Does m_nj 2 0 F_nj := by
  rintro ws st Q ⟨n, nm, ar, hd, x, t, rfl, g, l, j, q⟩
  refine ⟨rfl, sq_drop (w := .d .none) ?_ ?_⟩
  · exact ev_call (ea_cons (ev_var rfl) (ea_cons (ev_var rfl) ea_nil)) fun Q q => ⟨n, nm, ar, hd, x :: t, rfl, g, l, q⟩
  · refine s_if (b := false) (fun R r => ?_) (fun c => nomatch c) (fun _ => ⟨st, [], (List.append_nil _).symm, Gcd.rfl', q⟩)
    exact ⟨_, _, hd, x, t, rfl, j, (lot_sub l g.most).2, hd_few g, r⟩
/-- rounds are asked: a graph, a lot, a joined part of it -/
def F_rr : List W → Sto → WQ → Prop := fun ws st Q => ∃ (n : Nat) (nm : List Str) (ar hd : List (List Int)) (S : List Int) (x : Int) (t : List Int), ws = [.d (dGraph nm ar hd), wR S, wR (x :: t)] ∧ GrN n nm ar hd ∧ LotN n S ∧ LotN n (x :: t) ∧ Joi hd (x :: t) x ∧ (∀ y ∈ x :: t, y ∈ S) ∧ Q (.d (dRows (roundsL ar hd (x :: t) x S))) st
theorem mo_rr : MonoF F_rr := ⟨fun ws st Q Q' f ⟨n, nm, ar, hd, S, x, t, e, a, b, c, d, i, q⟩ => ⟨n, nm, ar, hd, S, x, t, e, a, b, c, d, i, f _ _ q⟩⟩
def m_rr : MS :=
  (sSeq (sDrop (mCB F_ng (aCons (mVar 0) aNil)))
      (sSeq (sDrop (mCB F_lo (aCons (mVar 0) (aCons (mVar 1) aNil))))
      (sSeq (sDrop (mCB F_nj (aCons (mVar 0) (aCons (mVar 2) aNil))))
      (sSeq (sDrop (mCB F_nw (aCons (mVar 2) (aCons (mVar 1) aNil))))
      (sRet (mCB F_ro (aCons (mVar 0) (aCons (mVar 1) (aCons (mVar 2) aNil)))))))))
theorem do_rr : Does m_rr 3 0 F_rr := by
  rintro ws st Q ⟨n, nm, ar, hd, S, x, t, rfl, g, lS, l, j, sub, q⟩
  refine ⟨rfl, sq_drop (w := .d .none) (ev_call (ea_cons (ev_var rfl) ea_nil) fun Q q => ⟨n, nm, ar, hd, rfl, g, q⟩) (sq_drop (w := .d .none) (ev_call (ea_cons (ev_var rfl) (ea_cons (ev_var rfl) ea_nil)) fun Q q => ⟨n, nm, ar, hd, S, rfl, g, lS, q⟩) (sq_drop (w := .d .none) (ev_call (ea_cons (ev_var rfl) (ea_cons (ev_var rfl) ea_nil)) fun Q q => ⟨n, nm, ar, hd, x, t, rfl, g, l, j, q⟩) (sq_drop (w := .d .none) (ev_call (ea_cons (ev_var rfl) (ea_cons (ev_var rfl) ea_nil)) fun Q q => ⟨x :: t, S, rfl, (lot_sub l g.most).1, sub, q⟩) ?_)))⟩
  exact s_ret (w := .d (dRows (roundsL ar hd (x :: t) x S))) (ev_call (ea_cons (ev_var rfl) (ea_cons (ev_var rfl) (ea_cons (ev_var rfl) ea_nil))) fun Q q => ⟨_, ar, hd, S, x, t, rfl, (lot_sub lS g.most).2, lS.1, grn_up g, hd_few g, j, sub, q⟩) (sameW trivial q)
/-- the last of a list, as data -/
theorem last_at {ar hd : List (List Int)} {ss S : List Int} {x : Int} : atI ((roundsL ar hd ss x S).map dInts) (-1) = some (dInts (lastR ar hd ss x S)) := by
  have ne : roundsL ar hd ss x S ≠ [] := by
    unfold roundsL
    exact List.cons_ne_nil _ _
  have e := List.dropLast_concat_getLast ne
  have l : (roundsL ar hd ss x S).getLast ne = lastR ar hd ss x S := by
    rw [lastR, List.getLastD_eq_getLast?, List.getLast?_eq_some_getLast ne]
    rfl
  rw [← e, List.map_append, l]
  exact atI_last
noncomputable def hedgeD (ar hd : List (List Int)) (ss S : List Int) (x : Int) : PyData := if lastR ar hd ss x S = ss then .none else dInts (lastR ar hd ss x S)
def F_gh : List W → Sto → WQ → Prop := fun ws st Q => ∃ (n : Nat) (nm : List Str) (ar hd : List (List Int)) (S : List Int) (x : Int) (t : List Int), ws = [.d (dGraph nm ar hd), wR S, wR (x :: t)] ∧ GrN n nm ar hd ∧ LotN n S ∧ LotN n (x :: t) ∧ Joi hd (x :: t) x ∧ (∀ y ∈ x :: t, y ∈ S) ∧ Q (.d (hedgeD ar hd (x :: t) S x)) st
theorem mo_gh : MonoF F_gh := ⟨fun ws st Q Q' f ⟨n, nm, ar, hd, S, x, t, e, a, b, c, d, i, q⟩ => ⟨n, nm, ar, hd, S, x, t, e, a, b, c, d, i, f _ _ q⟩⟩
def m_gh : MS :=
  (sSeq (sAsg (mOp oIxT (mCB F_rr (aCons (mVar 0) (aCons (mVar 1) (aCons (mVar 2) aNil)))) (mNeg (mC (.int 1)))) (gN 3))
      (sSeq (sIf (mB (mOp (oEqD false) (mVar 3) (mVar 2))) (sRet (mC .none)) sNext)
      (sRet (mVar 3))))
theorem do_gh : Does m_gh 3 1 F_gh := by
  rintro ws st Q ⟨n, nm, ar, hd, S, x, t, rfl, g, lS, l, j, sub, q⟩
  refine ⟨rfl, sq_set (w := wR (lastR ar hd (x :: t) x S)) ?_ ?_⟩
  · exact ev_ixT (ds := (roundsL ar hd (x :: t) x S).map dInts) (ev_call (ea_cons (ev_var rfl) (ea_cons (ev_var rfl) (ea_cons (ev_var rfl) ea_nil))) fun Q q => ⟨n, nm, ar, hd, S, x, t, rfl, g, lS, l, j, sub, q⟩) (ev_neg ev_c) last_at
  refine sq_if1 (et_b (ev_eqR (r := lastR ar hd (x :: t) x S) (s := x :: t) (ev_var rfl) (ev_var rfl))) (fun c => ?_) (fun c => ?_)
  · unfold hedgeD at q
    rw [if_pos (of_decide_eq_true c)] at q
    exact s_ret (w := .d .none) ev_c (sameW trivial q)
  · unfold hedgeD at q
    rw [if_neg (of_decide_eq_false c)] at q
    exact s_ret (w := wR (lastR ar hd (x :: t) x S)) (ev_var rfl) (sameW trivial q)
end FL

namespace FL
open PySem PySem.Spec PyProof.Rows L2 KL KG GR KV KS KY RT
abbrev st_wi : Stmt := topS 22
theorem sc_wi : FnScope ["part", "lot", "one"] ["part", "lot"] (defScope st_wi) := ⟨rfl, rfl, rfl, by decide +kernel, rfl, by decide +kernel, by decide +kernel⟩
abbrev st_nw : Stmt := topS 31
theorem sc_nw : FnScope ["part", "lot"] ["part", "lot"] (defScope st_nw) := ⟨rfl, rfl, rfl, by decide +kernel, rfl, by decide +kernel, by decide +kernel⟩
abbrev st_an : Stmt := topS 23
theorem sc_an : FnScope ["graph", "lot", "starts", "found", "one", "other"] ["graph", "lot", "starts"] (defScope st_an) := ⟨rfl, rfl, rfl, by decide +kernel, rfl, by decide +kernel, by decide +kernel⟩
abbrev st_di : Stmt := topS 24
theorem sc_di : FnScope ["graph", "lot", "start", "found", "waiting", "one", "other", "both"] ["graph", "lot", "start"] (defScope st_di) := ⟨rfl, rfl, rfl, by decide +kernel, rfl, by decide +kernel, by decide +kernel⟩
abbrev st_ij : Stmt := topS 25
theorem sc_ij : FnScope ["graph", "lot"] ["graph", "lot"] (defScope st_ij) := ⟨rfl, rfl, rfl, by decide +kernel, rfl, by decide +kernel, by decide +kernel⟩
abbrev st_ro : Stmt := topS 26
theorem sc_ro : FnScope ["graph", "lot", "ends", "found", "start", "district", "ancestral"] ["graph", "lot", "ends"] (defScope st_ro) := ⟨rfl, rfl, rfl, by decide +kernel, rfl, by decide +kernel, by decide +kernel⟩
abbrev st_nj : Stmt := topS 30
theorem sc_nj : FnScope ["graph", "lot"] ["graph", "lot"] (defScope st_nj) := ⟨rfl, rfl, rfl, by decide +kernel, rfl, by decide +kernel, by decide +kernel⟩
abbrev st_rr : Stmt := topS 28
theorem sc_rr : FnScope ["graph", "lot", "ends"] ["graph", "lot", "ends"] (defScope st_rr) := ⟨rfl, rfl, rfl, by decide +kernel, rfl, by decide +kernel, by decide +kernel⟩
abbrev st_gh : Stmt := topS 29
theorem sc_gh : FnScope ["graph", "lot", "ends", "last"] ["graph", "lot", "ends"] (defScope st_gh) := ⟨rfl, rfl, rfl, by decide +kernel, rfl, by decide +kernel, by decide +kernel⟩
section
variable {P : Program} {w : World} {K : PySem.W.Frag} {mg : Str → Option Value} {base : Heap} {ts : List Addr}
theorem ok_wi (nb : Nb mg) (d : Dn K mg "is_within" st_wi ["part", "lot"]) : Fd P w K mg base ts "is_within" st_wi ["part", "lot"] 1 F_wi := by
  obtain ⟨f, fd, Fn, g, b⟩ := d
  refine ⟨f, fd, fl_def (k := 0) Fn sc_wi do_wi (fun cdv A outer s H E hr => ?_), g, Fn.kp, b, Fn⟩
  have hu : (A.deeper (envOfC (Str.ofString "is_within") (defScope st_wi) s.heap.objs.size f cdv)).units + 65 < cLine := by
    have := hr.un
    omega
  exact ⟨_, (pss_one (ps_ret (pe_callB (show CallR _ _ (rAll K) from cr_all rfl) (by rfl) nb.all (by decide +kernel) (pa_cons (pe_lc (own := [("one", 2)]) (g := gName 2) (tt := tYes) rfl sc_wi.nd (pi_tup (pv 0)) (blkOk_by (N := ["part", "lot", "one"]) (sc := defScope st_wi) (by decide +kernel)) (fun _ _ _ _ _ => (pg_name (i := 2) sc_wi.nd rfl (.inl rfl))) (fun _ _ _ _ _ => pts_nil) (fun _ _ _ _ _ => (pe_cmpR (show OpR _ _ (rIn K false) from op_in_seq) (pv 2) (pv 1) (by with_unfolding_all rfl)))) pa_nil)))), (xss_one (xs_ret (xe_cb xc_all (xa_cons (xe_lc (xi_tup (xe_var 0)) (xg_name 2) (wp_name (by decide)) xt_yes (xe_op xo_inI (xe_var 2) (xe_var 1))) xa_nil))))⟩
theorem ok_nw (nb : Nb mg) (hwi : Fd P w K mg base ts "is_within" st_wi ["part", "lot"] 1 F_wi) (d : Dn K mg "need_within" st_nw ["part", "lot"]) : Fd P w K mg base ts "need_within" st_nw ["part", "lot"] 2 F_nw := by
  obtain ⟨fwi, fdwi, Gwi, gwi, kwi, bwi, uwi⟩ := hwi
  obtain ⟨f, fd, Fn, g, b⟩ := d
  refine ⟨f, fd, fl_def (k := 1) Fn sc_nw do_nw (fun cdv A outer s H E hr => ?_), g, Fn.kp, b, Fn⟩
  have hu : (A.deeper (envOfC (Str.ofString "need_within") (defScope st_nw) s.heap.objs.size f cdv)).units + 65 < cLine := by
    have := hr.un
    omega
  exact ⟨_, (pss_one (ps_if (pt_not (pt_val (pe_call Gwi (hr.mono (by decide)) (by rfl) gwi kwi bwi .nil pass0 (pa_cons (pv 0) (pa_cons (pv 1) pa_nil))))) pss_never pss_nil)), (xss_one (xs_if (xt_not (xt_b (xe_call mo_wi (xa_cons (xe_var 0) (xa_cons (xe_var 1) xa_nil))))) xs_never xss_nil))⟩
theorem ok_an (nb : Nb mg) (d : Dn K mg "ancestors_in" st_an ["graph", "lot", "starts"]) : Fd P w K mg base ts "ancestors_in" st_an ["graph", "lot", "starts"] 1 F_an := by
  obtain ⟨f, fd, Fn, g, b⟩ := d
  refine ⟨f, fd, fl_def (k := 0) Fn sc_an do_an (fun cdv A outer s H E hr => ?_), g, Fn.kp, b, Fn⟩
  have hu : (A.deeper (envOfC (Str.ofString "ancestors_in") (defScope st_an) s.heap.objs.size f cdv)).units + 65 < cLine := by
    have := hr.un
    omega
  exact ⟨_, (pss_cons (ps_set (i := 3) sc_an.nd rfl (.inl rfl) (pe_lst pa_nil))
      (pss_cons (ps_for PassesOwn.never rfl (pi_revA (by rfl) nb.rev (pv 1)) (pg_name (i := 4) sc_an.nd rfl (.inr rfl))
      (pss_one (ps_if (PW.pt (pw_or (pt_cmpR (show OpR _ _ (rIn K false) from op_in_seq) (pv 4) (pv 2) (by with_unfolding_all rfl)) (pw_or1 (pt_val (pe_callB (show CallR _ _ (rAny K) from cr_any rfl) (by rfl) nb.any (by decide +kernel) (pa_cons (pe_lc (own := [("other", 5)]) (g := gName 5) (tt := tYes) rfl sc_an.nd (pi_list (pv 3)) (blkOk_by (N := ["graph", "lot", "starts", "found", "one", "other"]) (sc := defScope st_an) (by decide +kernel)) (fun _ _ _ _ _ => (pg_name (i := 5) sc_an.nd rfl (.inl rfl))) (fun _ _ _ _ _ => pts_nil) (fun _ _ _ _ _ => (pe_cmpR (show OpR _ _ (rInT K) from op_inT hu) (pe_tup (pa_cons (pv 4) (pa_cons (pv 5) pa_nil))) (pe_ix (show IxR _ (rIxT K) from ix_tup) (pv 0) pe_int (fun _ _ => rfl)) (by with_unfolding_all rfl)))) pa_nil)))))) (pss_one (ps_expr (pe_bm PySem.F.plainAttrs_list PySem.F.slot_list_append PySem.F.type_list_append mt_append (pv 3) (pa_cons (pv 4) pa_nil)))) pss_nil)))
      (pss_one (ps_ret (pe_callTy (show CallR _ _ (rTupO K) from call_tuple_of) (by rfl) nb.tup (by decide +kernel) (pa_cons (pe_callB (show CallR _ _ (rSorted K) from cr_sorted) (by rfl) nb.sorted (by decide +kernel) (pa_cons (pv 3) pa_nil)) pa_nil)))))), (xss_cons (xs_asg (xe_lst xa_nil) (xg_name 3))
      (xss_cons (xs_for (xi_rev (xe_var 1)) (xg_name 4)
      (xss_one (xs_if (xt_or (xt_test (xe_op xo_inI (xe_var 4) (xe_var 2))) (xt_gc (xt_b (xe_cb xc_any (xa_cons (xe_lc (xi_list (xe_var 3)) (xg_name 5) (wp_name (by decide)) xt_yes (xe_op xo_inT (xe_tup (xa_cons (xe_var 4) (xa_cons (xe_var 5) xa_nil))) (xe_op xo_ixT (xe_var 0) xe_int))) xa_nil))))) (xss_one (xs_expr (xe_bm xm_append (xe_var 3) (xa_cons (xe_var 4) xa_nil)))) xss_nil)))
      (xss_one (xs_ret (xe_cb xc_tup (xa_cons (xe_cb xc_sort (xa_cons (xe_var 3) xa_nil)) xa_nil))))))⟩
theorem ok_di (nb : Nb mg) (d : Dn K mg "district_of" st_di ["graph", "lot", "start"]) : Fd P w K mg base ts "district_of" st_di ["graph", "lot", "start"] 1 F_di := by
  obtain ⟨f, fd, Fn, g, b⟩ := d
  refine ⟨f, fd, fl_def (k := 0) Fn sc_di do_di (fun cdv A outer s H E hr => ?_), g, Fn.kp, b, Fn⟩
  have hu : (A.deeper (envOfC (Str.ofString "district_of") (defScope st_di) s.heap.objs.size f cdv)).units + 65 < cLine := by
    have := hr.un
    omega
  exact ⟨_, (pss_cons (ps_set (i := 3) sc_di.nd rfl (.inl rfl) (pe_lst (pa_cons (pv 2) pa_nil)))
      (pss_cons (ps_set (i := 4) sc_di.nd rfl (.inl rfl) (pe_lst (pa_cons (pv 2) pa_nil)))
      (pss_cons (ps_while PassesOwn.never (pt_truth (pv 4) (fun _ => rfl))
      (pss_cons (ps_set (i := 5) sc_di.nd rfl (.inr rfl) (pe_bm0 PySem.F.plainAttrs_list PySem.F.slot_list_pop PySem.F.type_list_pop mt_pop (pv 4)))
      (pss_one (ps_for PassesOwn.never rfl (pi_tup (pv 1)) (pg_name (i := 6) sc_di.nd rfl (.inr rfl))
      (pss_one (ps_if (PW.pt (pw_and (pt_cmpR (show OpR _ _ (rIn K true) from op_notIn_seq) (pv 6) (pv 3) (by with_unfolding_all rfl)) (pw_and1 (pt_val (pe_callB (show CallR _ _ (rAny K) from cr_any rfl) (by rfl) nb.any (by decide +kernel) (pa_cons (pe_lc (own := [("both", 7)]) (g := gName 7) (tt := tYes) rfl sc_di.nd (pi_tup (pe_ix (show IxR _ (rIxT K) from ix_tup) (pv 0) pe_int (fun _ _ => rfl))) (blkOk_by (N := ["graph", "lot", "start", "found", "waiting", "one", "other", "both"]) (sc := defScope st_di) (by decide +kernel)) (fun _ _ _ _ _ => (pg_name (i := 7) sc_di.nd rfl (.inl rfl))) (fun _ _ _ _ _ => pts_nil) (fun _ _ _ _ _ => (pe_and (pe_cmpR (show OpR _ _ (rIn K false) from op_in_seq) (pv 5) (pv 7) (by with_unfolding_all rfl)) (pe_one (pe_cmpR (show OpR _ _ (rIn K false) from op_in_seq) (pv 6) (pv 7) (by with_unfolding_all rfl)))))) pa_nil)))))) (pss_cons (ps_expr (pe_bm PySem.F.plainAttrs_list PySem.F.slot_list_append PySem.F.type_list_append mt_append (pv 3) (pa_cons (pv 6) pa_nil)))
      (pss_one (ps_expr (pe_bm PySem.F.plainAttrs_list PySem.F.slot_list_append PySem.F.type_list_append mt_append (pv 4) (pa_cons (pv 6) pa_nil))))) pss_nil))))))
      (pss_one (ps_ret (pe_callTy (show CallR _ _ (rTupO K) from call_tuple_of) (by rfl) nb.tup (by decide +kernel) (pa_cons (pe_callB (show CallR _ _ (rSorted K) from cr_sorted) (by rfl) nb.sorted (by decide +kernel) (pa_cons (pv 3) pa_nil)) pa_nil))))))), (xss_cons (xs_asg (xe_lst (xa_cons (xe_var 2) xa_nil)) (xg_name 3))
      (xss_cons (xs_asg (xe_lst (xa_cons (xe_var 2) xa_nil)) (xg_name 4))
      (xss_cons (xs_while (xt_tru (xe_var 4))
      (xss_cons (xs_asg (xe_bm0 xm_pop (xe_var 4)) (xg_name 5))
      (xss_one (xs_for (xi_tup (xe_var 1)) (xg_name 6)
      (xss_one (xs_if (xt_and (xt_test (xe_op xo_inI (xe_var 6) (xe_var 3))) (xt_gc (xt_b (xe_cb xc_any (xa_cons (xe_lc (xi_tup (xe_op xo_ixT (xe_var 0) xe_int)) (xg_name 7) (wp_name (by decide)) xt_yes (xe_and (xe_op xo_inI (xe_var 5) (xe_var 7)) (xe_op xo_inI (xe_var 6) (xe_var 7)))) xa_nil))))) (xss_cons (xs_expr (xe_bm xm_append (xe_var 3) (xa_cons (xe_var 6) xa_nil)))
      (xss_one (xs_expr (xe_bm xm_append (xe_var 4) (xa_cons (xe_var 6) xa_nil))))) xss_nil))))))
      (xss_one (xs_ret (xe_cb xc_tup (xa_cons (xe_cb xc_sort (xa_cons (xe_var 3) xa_nil)) xa_nil)))))))⟩
theorem ok_ij (nb : Nb mg) (hdi : Fd P w K mg base ts "district_of" st_di ["graph", "lot", "start"] 1 F_di) (d : Dn K mg "is_joined" st_ij ["graph", "lot"]) : Fd P w K mg base ts "is_joined" st_ij ["graph", "lot"] 2 F_ij := by
  obtain ⟨fdi, fddi, Gdi, gdi, kdi, bdi, udi⟩ := hdi
  obtain ⟨f, fd, Fn, g, b⟩ := d
  refine ⟨f, fd, fl_def (k := 1) Fn sc_ij do_ij (fun cdv A outer s H E hr => ?_), g, Fn.kp, b, Fn⟩
  have hu : (A.deeper (envOfC (Str.ofString "is_joined") (defScope st_ij) s.heap.objs.size f cdv)).units + 65 < cLine := by
    have := hr.un
    omega
  exact ⟨_, (pss_one (ps_ret (pe_and (pe_cmpR (show OpR _ _ (rNeD K) from op_neD (Nat.lt_of_succ_lt hu)) (pv 1) (pe_tup pa_nil) (nomark _)) (pe_one (pe_cmpR (show OpR _ _ (rEqD K) from op_eqD (Nat.lt_of_succ_lt hu)) (pe_call Gdi (hr.mono (by decide)) (by rfl) gdi kdi bdi .nil pass0 (pa_cons (pv 0) (pa_cons (pv 1) (pa_cons (pe_ix (show IxR _ (rIxT K) from ix_tup) (pv 1) pe_int (fun _ _ => rfl)) pa_nil)))) (pv 1) (nomark _)))))), (xss_one (xs_ret (xe_and (xe_op xo_neD (xe_var 1) (xe_tup xa_nil)) (xe_op xo_eqD (xe_call mo_di (xa_cons (xe_var 0) (xa_cons (xe_var 1) (xa_cons (xe_op xo_ixT (xe_var 1) xe_int) xa_nil)))) (xe_var 1)))))⟩
theorem ok_ro (nb : Nb mg) (hdi : Fd P w K mg base ts "district_of" st_di ["graph", "lot", "start"] 1 F_di) (han : Fd P w K mg base ts "ancestors_in" st_an ["graph", "lot", "starts"] 1 F_an) (d : Dn K mg "rounds_of" st_ro ["graph", "lot", "ends"]) : Fd P w K mg base ts "rounds_of" st_ro ["graph", "lot", "ends"] 2 F_ro := by
  obtain ⟨fdi, fddi, Gdi, gdi, kdi, bdi, udi⟩ := hdi
  obtain ⟨fan, fdan, Gan, gan, kan, ban, uan⟩ := han
  obtain ⟨f, fd, Fn, g, b⟩ := d
  refine ⟨f, fd, fl_def (k := 1) Fn sc_ro do_ro (fun cdv A outer s H E hr => ?_), g, Fn.kp, b, Fn⟩
  have hu : (A.deeper (envOfC (Str.ofString "rounds_of") (defScope st_ro) s.heap.objs.size f cdv)).units + 65 < cLine := by
    have := hr.un
    omega
  exact ⟨_, (pss_cons (ps_set (i := 3) sc_ro.nd rfl (.inl rfl) (pe_lst (pa_cons (pv 1) pa_nil)))
      (pss_cons (ps_set (i := 4) sc_ro.nd rfl (.inl rfl) pe_non)
      (pss_cons (ps_while PassesOwn.never (pt_cmpR (show OpR _ _ (rNeD K) from op_neD (Nat.lt_of_succ_lt hu)) (pv 4) (pe_ix (show IxR _ (rIxL K) from ix_list) (pv 3) (pe_un un_neg pe_int) (fun _ _ => rfl)) (nomark _))
      (pss_cons (ps_set (i := 4) sc_ro.nd rfl (.inl rfl) (pe_ix (show IxR _ (rIxL K) from ix_list) (pv 3) (pe_un un_neg pe_int) (fun _ _ => rfl)))
      (pss_cons (ps_set (i := 5) sc_ro.nd rfl (.inl rfl) (pe_call Gdi (hr.mono (by decide)) (by rfl) gdi kdi bdi .nil pass0 (pa_cons (pv 0) (pa_cons (pv 4) (pa_cons (pe_ix (show IxR _ (rIxT K) from ix_tup) (pv 2) pe_int (fun _ _ => rfl)) pa_nil)))))
      (pss_cons (ps_if (pt_cmpR (show OpR _ _ (rNeD K) from op_neD (Nat.lt_of_succ_lt hu)) (pv 5) (pv 4) (nomark _)) (pss_one (ps_expr (pe_bm PySem.F.plainAttrs_list PySem.F.slot_list_append PySem.F.type_list_append mt_append (pv 3) (pa_cons (pv 5) pa_nil)))) pss_nil)
      (pss_cons (ps_set (i := 6) sc_ro.nd rfl (.inl rfl) (pe_call Gan (hr.mono (by decide)) (by rfl) gan kan ban .nil pass0 (pa_cons (pv 0) (pa_cons (pv 5) (pa_cons (pv 2) pa_nil)))))
      (pss_one (ps_if (pt_cmpR (show OpR _ _ (rNeD K) from op_neD (Nat.lt_of_succ_lt hu)) (pv 6) (pv 5) (nomark _)) (pss_one (ps_expr (pe_bm PySem.F.plainAttrs_list PySem.F.slot_list_append PySem.F.type_list_append mt_append (pv 3) (pa_cons (pv 6) pa_nil)))) pss_nil)))))))
      (pss_one (ps_ret (pe_callTy (show CallR _ _ (rTupO K) from call_tuple_of) (by rfl) nb.tup (by decide +kernel) (pa_cons (pv 3) pa_nil))))))), (xss_cons (xs_asg (xe_lst (xa_cons (xe_var 1) xa_nil)) (xg_name 3))
      (xss_cons (xs_asg xe_non (xg_name 4))
      (xss_cons (xs_while (xt_test (xe_op xo_neD (xe_var 4) (xe_op xo_ixL (xe_var 3) (xe_neg xe_int))))
      (xss_cons (xs_asg (xe_op xo_ixL (xe_var 3) (xe_neg xe_int)) (xg_name 4))
      (xss_cons (xs_asg (xe_call mo_di (xa_cons (xe_var 0) (xa_cons (xe_var 4) (xa_cons (xe_op xo_ixT (xe_var 2) xe_int) xa_nil)))) (xg_name 5))
      (xss_cons (xs_if (xt_test (xe_op xo_neD (xe_var 5) (xe_var 4))) (xss_one (xs_expr (xe_bm xm_append (xe_var 3) (xa_cons (xe_var 5) xa_nil)))) xss_nil)
      (xss_cons (xs_asg (xe_call mo_an (xa_cons (xe_var 0) (xa_cons (xe_var 5) (xa_cons (xe_var 2) xa_nil)))) (xg_name 6))
      (xss_one (xs_if (xt_test (xe_op xo_neD (xe_var 6) (xe_var 5))) (xss_one (xs_expr (xe_bm xm_append (xe_var 3) (xa_cons (xe_var 6) xa_nil)))) xss_nil)))))))
      (xss_one (xs_ret (xe_cb xc_tup (xa_cons (xe_var 3) xa_nil)))))))⟩
theorem ok_nj (nb : Nb mg) (hlo : Fd P w K mg base ts "need_lot" st_lo ["graph", "lot"] 5 F_lo) (hij : Fd P w K mg base ts "is_joined" st_ij ["graph", "lot"] 2 F_ij) (d : Dn K mg "need_joined" st_nj ["graph", "lot"]) : Fd P w K mg base ts "need_joined" st_nj ["graph", "lot"] 6 F_nj := by
  obtain ⟨flo, fdlo, Glo, glo, klo, blo, ulo⟩ := hlo
  obtain ⟨fij, fdij, Gij, gij, kij, bij, uij⟩ := hij
  obtain ⟨f, fd, Fn, g, b⟩ := d
  refine ⟨f, fd, fl_def (k := 5) Fn sc_nj do_nj (fun cdv A outer s H E hr => ?_), g, Fn.kp, b, Fn⟩
  have hu : (A.deeper (envOfC (Str.ofString "need_joined") (defScope st_nj) s.heap.objs.size f cdv)).units + 65 < cLine := by
    have := hr.un
    omega
  exact ⟨_, (pss_cons (ps_expr (pe_call Glo (hr.mono (by decide)) (by rfl) glo klo blo .nil pass0 (pa_cons (pv 0) (pa_cons (pv 1) pa_nil))))
      (pss_one (ps_if (pt_not (pt_val (pe_call Gij (hr.mono (by decide)) (by rfl) gij kij bij .nil pass0 (pa_cons (pv 0) (pa_cons (pv 1) pa_nil))))) pss_never pss_nil))), (xss_cons (xs_expr (xe_call mo_lo (xa_cons (xe_var 0) (xa_cons (xe_var 1) xa_nil))))
      (xss_one (xs_if (xt_not (xt_b (xe_call mo_ij (xa_cons (xe_var 0) (xa_cons (xe_var 1) xa_nil))))) xs_never xss_nil)))⟩
theorem ok_rr (nb : Nb mg) (hng : Fd P w K mg base ts "need_graph" st_ng ["graph"] 10 F_ng) (hlo : Fd P w K mg base ts "need_lot" st_lo ["graph", "lot"] 5 F_lo) (hnj : Fd P w K mg base ts "need_joined" st_nj ["graph", "lot"] 6 F_nj) (hnw : Fd P w K mg base ts "need_within" st_nw ["part", "lot"] 2 F_nw) (hro : Fd P w K mg base ts "rounds_of" st_ro ["graph", "lot", "ends"] 2 F_ro) (d : Dn K mg "rounds" st_rr ["graph", "lot", "ends"]) : Fd P w K mg base ts "rounds" st_rr ["graph", "lot", "ends"] 11 F_rr := by
  obtain ⟨fng, fdng, Gng, gng, kng, bng, ung⟩ := hng
  obtain ⟨flo, fdlo, Glo, glo, klo, blo, ulo⟩ := hlo
  obtain ⟨fnj, fdnj, Gnj, gnj, knj, bnj, unj⟩ := hnj
  obtain ⟨fnw, fdnw, Gnw, gnw, knw, bnw, unw⟩ := hnw
  obtain ⟨fro, fdro, Gro, gro, kro, bro, uro⟩ := hro
  obtain ⟨f, fd, Fn, g, b⟩ := d
  refine ⟨f, fd, fl_def (k := 10) Fn sc_rr do_rr (fun cdv A outer s H E hr => ?_), g, Fn.kp, b, Fn⟩
  have hu : (A.deeper (envOfC (Str.ofString "rounds") (defScope st_rr) s.heap.objs.size f cdv)).units + 65 < cLine := by
    have := hr.un
    omega
  exact ⟨_, (pss_cons (ps_expr (pe_call Gng (hr.mono (by decide)) (by rfl) gng kng bng .nil pass0 (pa_cons (pv 0) pa_nil)))
      (pss_cons (ps_expr (pe_call Glo (hr.mono (by decide)) (by rfl) glo klo blo .nil pass0 (pa_cons (pv 0) (pa_cons (pv 1) pa_nil))))
      (pss_cons (ps_expr (pe_call Gnj (hr.mono (by decide)) (by rfl) gnj knj bnj .nil pass0 (pa_cons (pv 0) (pa_cons (pv 2) pa_nil))))
      (pss_cons (ps_expr (pe_call Gnw (hr.mono (by decide)) (by rfl) gnw knw bnw .nil pass0 (pa_cons (pv 2) (pa_cons (pv 1) pa_nil))))
      (pss_one (ps_ret (pe_call Gro (hr.mono (by decide)) (by rfl) gro kro bro .nil pass0 (pa_cons (pv 0) (pa_cons (pv 1) (pa_cons (pv 2) pa_nil)))))))))), (xss_cons (xs_expr (xe_call mo_ng (xa_cons (xe_var 0) xa_nil)))
      (xss_cons (xs_expr (xe_call mo_lo (xa_cons (xe_var 0) (xa_cons (xe_var 1) xa_nil))))
      (xss_cons (xs_expr (xe_call mo_nj (xa_cons (xe_var 0) (xa_cons (xe_var 2) xa_nil))))
      (xss_cons (xs_expr (xe_call mo_nw (xa_cons (xe_var 2) (xa_cons (xe_var 1) xa_nil))))
      (xss_one (xs_ret (xe_call mo_ro (xa_cons (xe_var 0) (xa_cons (xe_var 1) (xa_cons (xe_var 2) xa_nil))))))))))⟩
theorem ok_gh (nb : Nb mg) (hrr : Fd P w K mg base ts "rounds" st_rr ["graph", "lot", "ends"] 11 F_rr) (d : Dn K mg "greatest_hedge" st_gh ["graph", "lot", "ends"]) : Fd P w K mg base ts "greatest_hedge" st_gh ["graph", "lot", "ends"] 12 F_gh := by
  obtain ⟨frr, fdrr, Grr, grr, krr, brr, urr⟩ := hrr
  obtain ⟨f, fd, Fn, g, b⟩ := d
  refine ⟨f, fd, fl_def (k := 11) Fn sc_gh do_gh (fun cdv A outer s H E hr => ?_), g, Fn.kp, b, Fn⟩
  have hu : (A.deeper (envOfC (Str.ofString "greatest_hedge") (defScope st_gh) s.heap.objs.size f cdv)).units + 65 < cLine := by
    have := hr.un
    omega
  exact ⟨_, (pss_cons (ps_set (i := 3) sc_gh.nd rfl (.inl rfl) (pe_ix (show IxR _ (rIxT K) from ix_tup) (pe_call Grr (hr.mono (by decide)) (by rfl) grr krr brr .nil pass0 (pa_cons (pv 0) (pa_cons (pv 1) (pa_cons (pv 2) pa_nil)))) (pe_un un_neg pe_int) (fun _ _ => rfl)))
      (pss_cons (ps_if (pt_cmpR (show OpR _ _ (rEqD K) from op_eqD (Nat.lt_of_succ_lt hu)) (pv 3) (pv 2) (nomark _)) (pss_one (ps_ret pe_non)) pss_nil)
      (pss_one (ps_ret (pv 3))))), (xss_cons (xs_asg (xe_op xo_ixT (xe_call mo_rr (xa_cons (xe_var 0) (xa_cons (xe_var 1) (xa_cons (xe_var 2) xa_nil)))) (xe_neg xe_int)) (xg_name 3))
      (xss_cons (xs_if (xt_test (xe_op xo_eqD (xe_var 3) (xe_var 2))) (xss_one (xs_ret xe_non)) xss_nil)
      (xss_one (xs_ret (xe_var 3)))))⟩
end
end FL

/-! The law's own walks: what they do to values. -/
namespace FL
open PySem PySem.Spec PyProof.Rows L2 KL KG GR KV KS KY RT
open Classical
def F_nr : List W → Sto → WQ → Prop := fun ws st Q => ∃ (n l : PyData) (ar : List (List Int)) (crew ss : List Int), ws = [.d (.tuple [n, dRows ar, l]), wR crew, wR ss] ∧ crew.length < 64 ∧ Asc crew ∧ Up ar ∧ ss.Nodup ∧ (∀ x ∈ ss, x ∈ crew) ∧ Q (wR (ancL ar crew ss)) st
theorem mo_nr : MonoF F_nr := ⟨fun ws st Q Q' f ⟨n, l, ar, c, s, e, a, b, d, g, i, q⟩ => ⟨n, l, ar, c, s, e, a, b, d, g, i, f _ _ q⟩⟩
def m_nr : MS :=
  (sSeq (sAsg (mCB cLst (aCons (mVar 2) aNil)) (gN 3))
      (sSeq (sFor (iR1 (aCons (mCB cLen (aCons (mVar 1) aNil)) aNil)) (gN 4)
      (sFor (iT (mOp oIxT (mVar 0) (mC (.int 1)))) (gT 2 (gsC (gN 5) (gsC (gN 6) gsN)))
      (sIf (mAnd (mB (mOp (oInI false) (mVar 6) (mVar 3))) (mAnd (mB (mOp (oInI false) (mVar 5) (mVar 1))) (mB (mOp (oInI true) (mVar 5) (mVar 3))))) (sDrop (mBM cApp (mVar 3) (aCons (mVar 5) aNil))) sNext)))
      (sRet (mCB cTup (aCons (mCB cSort (aCons (mVar 3) aNil)) aNil)))))
theorem nr_pos {crew f : List Int} {i j : Int} (c : (decide (j ∈ f) && (decide (i ∈ crew) && !decide (i ∈ f))) = true) : nrStep crew f [i, j] = f ++ [i] := by
  simp only [Bool.and_eq_true, decide_eq_true_iff, Bool.not_eq_true', decide_eq_false_iff_not] at c
  unfold nrStep
  exact if_pos c
theorem nr_neg {crew f : List Int} {i j : Int} (c : (decide (j ∈ f) && (decide (i ∈ crew) && !decide (i ∈ f))) = false) : nrStep crew f [i, j] = f := by
  unfold nrStep
  refine if_neg fun h => ?_
  rw [decide_eq_true h.1, decide_eq_true h.2.1, decide_eq_false h.2.2] at c
  cases c
theorem do_nr : Does m_nr 3 4 F_nr := by
  rintro ws st Q ⟨n, l, ar, crew, ss, rfl, hl, asc, up, nd, sub, q⟩
  let R : Option W → Option W → Option W → Ev := fun y z u => [some (.d (.tuple [n, dRows ar, l])), some (wR crew), some (wR ss), some (.l st.length), y, z, u]
  let S : List Int → Sto := fun f => st ++ [.ls (f.map wI)]
  have few : ∀ k, (passes (nrStep crew) ar k ss).length ≤ crew.length := fun k => by
    obtain ⟨h1, h2, _⟩ := nr_inv (ar := ar) nd sub k
    exact nodup_le h1 fun y hy => (h2 y hy).mem
  refine ⟨rfl, sq_listR (ns := ss) (ev_var rfl) ?_⟩
  refine sq_forI (α := Nat) (st1 := S ss) (fun i => wI (0 + (i : Nat))) (List.range crew.length) (fun i ρ s => ∃ y z u, ρ = R y z u ∧ s = S (passes (nrStep crew) ar i ss)) (gd := fun _ => True) ?_ ⟨none, none, none, rfl, rfl⟩ (fun _ _ _ _ => trivial) ?_ ?_
  · exact wk_rng1 (j := (crew.length : Nat)) (ev_lenR (ns := crew) (ev_var rfl)) ⟨by omega, by omega⟩
  · rintro i x ρ s hx ⟨y, z, u, rfl, rfl⟩
    generalize hf : passes (nrStep crew) ar i ss = f0
    have f0f := few (i + 1)
    refine s_forI (α := List Int) (st1 := S f0) wR ar (fun j ρ s => ∃ z u, ρ = R (some (wI (0 + (x : Nat)))) z u ∧ s = S ((ar.take j).foldl (nrStep crew) f0)) (gd := fun _ => True) ?_ ⟨z, u, rfl, rfl⟩ (fun _ _ _ _ => trivial) ?_ ?_
    · exact wk_rows (ev_ixT (x := dRows ar) (ev_var rfl) ev_c rfl)
    · rintro j r ρ s hr ⟨z, u, rfl, rfl⟩
      obtain ⟨a, b, rfl, _⟩ := up r (List.mem_of_getElem? hr)
      have nxt : (ar.take (j + 1)).foldl (nrStep crew) f0 = nrStep crew ((ar.take j).foldl (nrStep crew) f0) [a, b] := by
        rw [List.take_add_one, hr, List.foldl_append]
        rfl
      have lf : ((ar.take j).foldl (nrStep crew) f0).length ≤ 1000 := by
        have h1 : (ar.foldl (nrStep crew) f0) = (ar.drop j).foldl (nrStep crew) ((ar.take j).foldl (nrStep crew) f0) := by rw [← List.foldl_append, List.take_append_drop]
        have h2 := fold_len (nr_grows crew) (ar.drop j) ((ar.take j).foldl (nrStep crew) f0)
        rw [← h1] at h2
        have h3 : (passes (nrStep crew) ar (i + 1) ss) = ar.foldl (nrStep crew) f0 := by rw [← hf]; rfl
        rw [h3] at f0f
        omega
      generalize (ar.take j).foldl (nrStep crew) f0 = f at nxt lf
      refine gt2 (x := .int a) (y := .int b) ?_
      dsimp only
      refine s_if1 (et_and (et_b (ev_inL (i := b) (n := st.length) (ns := f) (ev_var rfl) (ev_var rfl) app_at)) fun _ => et_and (et_b (ev_in (i := a) (ns := crew) (ev_var rfl) (ev_var rfl))) fun _ => et_b (ev_notinL (i := a) (n := st.length) (ns := f) (ev_var rfl) (ev_var rfl) app_at)) (fun c => ?_) (fun c => ?_)
      · refine s_app (n := st.length) (xs := f.map wI) (w := wI a) (ev_var rfl) app_at (ev_var rfl) (by rw [List.length_map]; omega) ?_
        refine ⟨_, _, rfl, ?_⟩
        show (st ++ [_]).set _ _ = st ++ [_]
        rw [app_set, nxt, nr_pos c, snocI]
      · refine ⟨_, _, rfl, ?_⟩
        rw [nxt, nr_neg c]
    · rintro ρ s ⟨z, u, rfl, rfl⟩
      refine ⟨_, z, u, rfl, ?_⟩
      rw [List.take_length, ← hf]
      rfl
  · rintro ρ s ⟨y, z, u, rfl, rfl⟩
    rw [List.length_range]
    have lf := few crew.length
    exact s_retSort (ns := passes (nrStep crew) ar crew.length ss) (ev_var rfl) app_at (by omega) (fun o => ⟨st, [_, o], app11, Gcd.rfl', trivial, by rw [nr_is up asc nd sub]; exact q⟩)
/-! ### districts -/
def F_jo : List W → Sto → WQ → Prop := fun ws st Q => ∃ (n a : PyData) (hs : List (List Int)) (crew : List Int), ws = [.d (.tuple [n, a, dRows hs]), wR crew] ∧ crew.length < 64 ∧ Asc crew ∧ (∀ b ∈ hs, b.Nodup ∧ b.length ≤ 1000) ∧ Q (.d (dRows (rowsL hs crew))) st
theorem mo_jo : MonoF F_jo := ⟨fun ws st Q Q' f ⟨n, l, hs, c, e, a, b, d, q⟩ => ⟨n, l, hs, c, e, a, b, d, f _ _ q⟩⟩
def m_jo : MS :=
  (sSeq (sPar 2 3 (aCons (mLst aNil) (aCons (mLst aNil) aNil)))
      (sSeq (sFor (iT (mVar 1)) (gN 4)
      (sSeq (sAsg (mLst (aCons (mVar 4) aNil)) (gN 5))
      (sSeq (sFor (iR1 (aCons (mIf (mB (mOp (oInI true) (mVar 4) (mVar 2))) (mCB cLen (aCons (mVar 1) aNil)) (mC (.int 0))) aNil)) (gN 6)
      (sFor (iT (mOp oIxT (mVar 0) (mC (.int 2)))) (gN 7)
      (sIf (mGcT (mB (mOp (oEqD true) (mLc (iT (mVar 7)) (gN 8) (mB (mOp (oInI false) (mVar 8) (mVar 5))) (mVar 8) [8]) (mLst aNil)))) (sAsg (mOp oCatL (mVar 5) (mLc (iT (mVar 7)) (gN 8) (mAnd (mB (mOp (oInI false) (mVar 8) (mVar 1))) (mB (mOp (oInI true) (mVar 8) (mVar 5)))) (mVar 8) [8])) (gN 5)) sNext)))
      (sIf (mB (mOp (oInI true) (mVar 4) (mVar 2))) (sSeq (sAsg (mOp oCatL (mVar 2) (mVar 5)) (gN 2))
      (sDrop (mBM cApp (mVar 3) (aCons (mGc (mCB cTup (aCons (mCB cSort (aCons (mVar 5) aNil)) aNil))) aNil)))) sNext))))
      (sRet (mCB cTup (aCons (mVar 3) aNil)))))
/-- an item of a store that is read stays where the store grows -/
theorem pre_at {st s : Sto} {n : Nat} {o : Ob} (p : st <+: s) (e : st[n]? = some o) : s[n]? = some o := pre_get p e
theorem pre_set {st s : Sto} {n : Nat} {o : Ob} (p : st <+: s) (h : st.length ≤ n) : st <+: s.set n o := by
  obtain ⟨g, rfl⟩ := p
  rw [List.set_append_right _ _ h]
  exact List.prefix_append _ _
theorem pre_app {st s g : Sto} (p : st <+: s) : st <+: s ++ g := p.trans (List.prefix_append _ _)
/-- [x for x in t if ..] over a row: a list at the store's end -/
theorem lc_row {ρ : Ev} {s : Sto} {Q : WQ} {ma : ME} {mt : MT} {n : Nat} {r : List Int} (keep : Int → Bool) (h : Ev' ma ρ s (wR r)) (l : r.length ≤ 1000000) (hn : n < ρ.length) (ht : ∀ x ∈ r, ∀ acc, EvT mt ((wipeE ρ [n]).set n (some (wI x))) (s ++ [.ls acc]) (keep x))
    (q : Q (.l s.length) (s ++ [.ls ((r.filter keep).map wI)])) : mLc (iT ma) (gN n) mt (mVar n) [n] ρ s Q := by
  refine lc_map (α := Int) wI r keep wI (wk_row h) (fun _ => trivial) l (fun x hx acc Pk Pn h1 h2 => ht x hx acc _ ?_) q
  cases k : keep x with
  | true =>
    refine ev_var ?_ _ (h1 k)
    rw [List.getElem?_set_self]
    unfold wipeE
    rw [List.length_set]
    exact hn
  | false => exact h2 k
theorem eqv_nil (F : List Int) : PyData.eqv (.list (F.map .int)) (.list []) = decide (F = []) := by cases F <;> rfl
theorem shp_intsL (F : List Int) : shp (.list (F.map .int)) := by
  have z := shaped_ints F
  unfold SeqAt.shaped at z
  show SeqAt.shaped _ = true
  unfold SeqAt.shaped
  rw [Bool.and_eq_true] at z ⊢
  refine ⟨z.1, ?_⟩
  have d := of_decide_eq_true z.2
  simp only [dInts, PyData.depth] at d
  refine decide_eq_true ?_
  simp only [PyData.depth]
  exact d
/-- [..] != [] -/
theorem et_some {ρ : Ev} {s : Sto} {ma : ME} {mt : MT} {n : Nat} {r : List Int} (keep : Int → Bool) (h : Ev' ma ρ s (wR r)) (l : r.length ≤ 1000000) (hn : n < ρ.length) (ht : ∀ x ∈ r, ∀ acc, EvT mt ((wipeE ρ [n]).set n (some (wI x))) (s ++ [.ls acc]) (keep x)) : EvT (mGcT (mB (mOp (oEqD true) (mLc (iT ma) (gN n) mt (mVar n) [n]) (mLst aNil)))) ρ s (!decide (r.filter keep = [])) := fun R q => by
  unfold mGcT mB mOp
  refine lc_row keep h l hn ht ?_
  refine ⟨by decide, ⟨_, app_lt app_at, allD_at (bs := (r.filter keep).map .int) (by rw [List.map_map]; rfl) ⟨[], app_at, shp_intsL _, shp_intsL [], ?_⟩⟩⟩
  refine ⟨s, [_, _], app11, Gcd.rfl', ?_⟩
  show R (if true = true then !PyData.eqv (.list ((r.filter keep).map .int)) (.list []) else _) s
  rw [if_pos rfl, eqv_nil]
  exact q
theorem sq_par0 {ρ : Ev} {st : Sto} {E : WE} {r : MS} {i j : Nat} (q : r ((ρ.set i (some (.l st.length))).set j (some (.l (st.length + 1)))) (st ++ [Ob.ls [], Ob.ls []]) E) : sSeq (sPar i j (aCons (mLst aNil) (aCons (mLst aNil) aNil))) r ρ st E :=
  ⟨by decide, ⟨by decide, by
    show r ((ρ.set i (some (.l st.length))).set j (some (.l (st ++ [Ob.ls []]).length))) (st ++ [Ob.ls []] ++ [Ob.ls []]) E
    rw [len1, app11]
    exact q⟩⟩
theorem jo_pos {crew f b : List Int} (c : (!decide (b.filter (fun y => decide (y ∈ f)) = [])) = true) : joStep crew f b = f ++ b.filter (fun y => decide (y ∈ crew) && !decide (y ∈ f)) := by
  unfold joStep
  rw [Bool.not_eq_true', decide_eq_false_iff_not] at c
  exact if_pos c
theorem jo_neg {crew f b : List Int} (c : (!decide (b.filter (fun y => decide (y ∈ f)) = [])) = false) : joStep crew f b = f := by
  unfold joStep
  rw [Bool.not_eq_false', decide_eq_true_iff] at c
  exact if_neg (fun h => h c)
theorem s_catM {ρ : Ev} {s : Sto} {E : WE} {ma mb : ME} {n j : Nat} (ha : Ev' ma ρ s (.l n)) (h : mb ρ s fun w s2 => ∃ k xs ys, w = .l k ∧ s2[n]? = some (.ls xs) ∧ s2[k]? = some (.ls ys) ∧ xs.length + ys.length ≤ 1000000 ∧ E.nx (ρ.set j (some (.l s2.length))) (s2 ++ [.ls (xs ++ ys)]))
    (mo : ∀ ρ s (Q Q' : WQ), (∀ w s, Q w s → Q' w s) → mb ρ s Q → mb ρ s Q') : sAsg (mOp oCatL ma mb) (gN j) ρ s E := by
  refine ha _ ?_
  refine mo _ _ _ _ (fun w s2 ⟨k, xs, ys, e, e1, e2, l, q⟩ => ?_) h
  subst e
  exact ⟨_, e1, _, e2, l, q⟩
theorem s_catL {ρ : Ev} {s : Sto} {E : WE} {ma mb : ME} {n k j : Nat} {xs ys : List W} (ha : Ev' ma ρ s (.l n)) (hb : Ev' mb ρ s (.l k)) (e1 : s[n]? = some (.ls xs)) (e2 : s[k]? = some (.ls ys)) (l : xs.length + ys.length ≤ 1000000) (q : E.nx (ρ.set j (some (.l s.length))) (s ++ [.ls (xs ++ ys)])) : sAsg (mOp oCatL ma mb) (gN j) ρ s E :=
  ha _ (hb _ ⟨_, e1, _, e2, l, q⟩)
theorem s_catC {ρ : Ev} {s : Sto} {E : WE} {ma mc : ME} {mt : MT} {n i j : Nat} {xs : List W} {r : List Int} (keep : Int → Bool) (ha : Ev' ma ρ s (.l n)) (e : s[n]? = some (.ls xs)) (h : Ev' mc ρ s (wR r)) (lr : r.length ≤ 1000) (hn : i < ρ.length) (ht : ∀ x ∈ r, ∀ acc, EvT mt ((wipeE ρ [i]).set i (some (wI x))) (s ++ [.ls acc]) (keep x)) (l : xs.length ≤ 1000)
    (q : E.nx (ρ.set j (some (.l (s.length + 1)))) (s ++ [.ls ((r.filter keep).map wI)] ++ [.ls (xs ++ (r.filter keep).map wI)])) : sAsg (mOp oCatL ma (mLc (iT mc) (gN i) mt (mVar i) [i])) (gN j) ρ s E := by
  unfold sAsg mOp
  refine ha _ ?_
  refine lc_row keep h (by omega) hn ht ?_
  have l2 := len_filter_le keep r
  refine ⟨_, app_lt e, _, app_at, by rw [List.length_map]; omega, ?_⟩
  rw [len1]
  exact q
theorem ev_gcSort' {ρ : Ev} {st : Sto} {ma : ME} {n : Nat} {ns r : List Int} (h : Ev' ma ρ st (.l n)) (e : st[n]? = some (.ls (ns.map wI))) (l : ns.length < 64) (is : isort ns = r) : Ev' (mGc (mCB cTup (aCons (mCB cSort (aCons ma aNil)) aNil))) ρ st (wR r) := is ▸ ev_gcSort h e l
theorem sq_catL {r : MS} {ρ : Ev} {s : Sto} {E : WE} {ma mb : ME} {n k j : Nat} {xs ys : List W} (ha : Ev' ma ρ s (.l n)) (hb : Ev' mb ρ s (.l k)) (e1 : s[n]? = some (.ls xs)) (e2 : s[k]? = some (.ls ys)) (l : xs.length + ys.length ≤ 1000000) (q : r (ρ.set j (some (.l s.length))) (s ++ [.ls (xs ++ ys)]) E) : sSeq (sAsg (mOp oCatL ma mb) (gN j)) r ρ s E := sq (s_catL ha hb e1 e2 l q)
theorem do_jo : Does m_jo 2 7 F_jo := by
  rintro ws st Q ⟨n, a, hs, crew, rfl, hl, asc, hnd, q⟩
  have nds : ∀ b ∈ hs, b.Nodup := fun b hb => (hnd b hb).1
  refine ⟨rfl, sq_par0 ?_⟩
  refine sq_forI (α := Int) (st1 := st ++ [.ls [], .ls []]) wI crew (fun i ρ s => ∃ (kt : Nat) (y4 y5 y6 y7 y8 : Option W) (tk : List Int) (acc : List (List Int)), ρ = [some (.d (.tuple [n, a, dRows hs])), some (wR crew), some (.l kt), some (.l (st.length + 1)), y4, y5, y6, y7, y8] ∧ st <+: s ∧ s[kt]? = some (.ls (tk.map wI)) ∧ kt ≠ st.length + 1 ∧ s[st.length + 1]? = some (.ls (acc.map wR)) ∧ acc = (crew.take i).foldl (rowStep hs crew) [] ∧ (∀ y, y ∈ tk ↔ y ∈ acc.flatten) ∧ tk.length ≤ 64 * i ∧ acc.length ≤ i) (gd := fun _ => True) ?_ ?_ (fun _ _ _ _ => trivial) ?_ ?_
  · exact wk_row (ev_var rfl)
  · exact ⟨st.length, none, none, none, none, none, [], [], rfl, List.prefix_append _ _, app2_at, by omega, app2_at1, rfl, fun y => by simp, by simp, by simp⟩
  · rintro i x ρ s hx ⟨kt, y4, y5, y6, y7, y8, tk, acc, rfl, pre, ekt, nkt, eacc, hacc, htk, ltk, lacc⟩
    have xc : x ∈ crew := List.mem_of_getElem? hx
    have hi : i < crew.length := (List.getElem?_eq_some_iff.mp hx).1
    have lf : st.length + 1 < s.length := (List.getElem?_eq_some_iff.mp eacc).1
    have lkt : kt < s.length := (List.getElem?_eq_some_iff.mp ekt).1
    have ps : s <+: s ++ [.ls [wI x]] := List.prefix_append _ _
    have nxt : (crew.take (i + 1)).foldl (rowStep hs crew) [] = rowStep hs crew acc x := by
      rw [List.take_add_one, hx, List.foldl_append, ← hacc]
      rfl
    refine sq_lst1 (w := wI x) (ev_var rfl) ?_
    let m : Nat := if x ∈ tk then 0 else crew.length
    refine sq_forI (α := Nat) (st1 := s ++ [.ls [wI x]]) (fun k => wI (0 + (k : Nat))) (List.range m) (fun j ρ s' => ∃ (ko : Nat) (y6 y7 y8 : Option W), ρ = [some (.d (.tuple [n, a, dRows hs])), some (wR crew), some (.l kt), some (.l (st.length + 1)), some (wI x), some (.l ko), y6, y7, y8] ∧ s <+: s' ∧ s.length ≤ ko ∧ s'[ko]? = some (.ls ((passes (joStep crew) hs j [x]).map wI))) (gd := fun _ => True) ?_ ?_ (fun _ _ _ _ => trivial) ?_ ?_
    · have e : Ev' (mIf (mB (mOp (oInI true) (mVar 4) (mVar 2))) (mCB cLen (aCons (mVar 1) aNil)) (mC (.int 0))) [some (.d (.tuple [n, a, dRows hs])), some (wR crew), some (.l kt), some (.l (st.length + 1)), some (wI x), some (.l s.length), y6, y7, y8] (s ++ [.ls [wI x]]) (wI (m : Nat)) := by
        refine ev_if (et_b (ev_notinL (i := x) (n := kt) (ns := tk) (ev_var rfl) (ev_var rfl) (pre_at ps ekt))) (fun c => ?_) (fun c => ?_)
        · have : x ∉ tk := by rw [Bool.not_eq_true', decide_eq_false_iff_not] at c; exact c
          have e : m = crew.length := if_neg this
          rw [e]
          exact ev_lenR (ns := crew) (ev_var rfl)
        · have : x ∈ tk := by rw [Bool.not_eq_false', decide_eq_true_iff] at c; exact c
          have e : m = 0 := if_pos this
          rw [e]
          exact ev_c
      have ml : m ≤ crew.length := by
        show (if x ∈ tk then 0 else crew.length) ≤ crew.length
        split <;> omega
      clear_value m
      exact wk_rng1 (j := (m : Nat)) e ⟨by omega, by omega⟩
    · exact ⟨s.length, y6, y7, y8, rfl, ps, Nat.le_refl _, app_at⟩
    · rintro j x0 ρ s' hx0 ⟨ko, y6, y7, y8, rfl, ps', lko, eko⟩
      generalize hf0 : passes (joStep crew) hs j [x] = f0 at eko
      refine s_forI (α := List Int) (st1 := s') wR hs (fun t ρ s' => ∃ (ko : Nat) (y7 y8 : Option W), ρ = [some (.d (.tuple [n, a, dRows hs])), some (wR crew), some (.l kt), some (.l (st.length + 1)), some (wI x), some (.l ko), some (wI (0 + (x0 : Nat))), y7, y8] ∧ s <+: s' ∧ s.length ≤ ko ∧ s'[ko]? = some (.ls (((hs.take t).foldl (joStep crew) f0).map wI))) (gd := fun _ => True) ?_ ?_ (fun _ _ _ _ => trivial) ?_ ?_
      · exact wk_rows (ev_ixT (x := dRows hs) (ev_var rfl) ev_c rfl)
      · exact ⟨ko, y7, y8, rfl, ps', lko, eko⟩
      · rintro t b ρ s2 hb ⟨ko, y7, y8, rfl, ps2, lko, eko⟩
        have bm := List.mem_of_getElem? hb
        have bl := (hnd b bm).2
        have nxt : (hs.take (t + 1)).foldl (joStep crew) f0 = joStep crew ((hs.take t).foldl (joStep crew) f0) b := by
          rw [List.take_add_one, hb, List.foldl_append]
          rfl
        have lfo : ((hs.take t).foldl (joStep crew) f0).length ≤ 1000 := by
          have h1 : (hs.foldl (joStep crew) f0) = (hs.drop t).foldl (joStep crew) ((hs.take t).foldl (joStep crew) f0) := by rw [← List.foldl_append, List.take_append_drop]
          have h2 := fold_len (jo_grows crew) (hs.drop t) ((hs.take t).foldl (joStep crew) f0)
          rw [← h1] at h2
          obtain ⟨g1, g2, _⟩ := jo_inv (crew := crew) (x := x) nds (j + 1)
          have g3 := nodup_le g1 fun y hy => (g2 y hy).mem xc
          have e3 : passes (joStep crew) hs (j + 1) [x] = hs.foldl (joStep crew) f0 := by rw [← hf0]; rfl
          rw [e3] at g3
          omega
        generalize (hs.take t).foldl (joStep crew) f0 = f at nxt lfo eko
        refine s_if1 (et_some (fun y => decide (y ∈ f)) (ev_var (w := wR b) rfl) (by omega) (show 8 < 9 by decide) (fun y hy acc => et_b (ev_inL (i := y) (n := ko) (ns := f) (ev_var rfl) (ev_var rfl) (app_lt eko)))) (fun c => ?_) (fun c => ?_)
        · refine s_catC (n := ko) (xs := f.map wI) (fun y => decide (y ∈ crew) && !decide (y ∈ f)) (ev_var rfl) eko (ev_var (w := wR b) rfl) bl (show 8 < 9 by decide) (fun y hy acc => et_and (et_b (ev_in (i := y) (ns := crew) (ev_var rfl) (ev_var rfl))) fun _ => et_b (ev_notinL (i := y) (n := ko) (ns := f) (ev_var rfl) (ev_var rfl) (app_lt eko))) (by rw [List.length_map]; exact lfo) ?_
          refine ⟨s2.length + 1, _, _, rfl, pre_app (pre_app ps2), ?_, ?_⟩
          · have := ps2.length_le
            omega
          · rw [← len1 (a := .ls ((b.filter fun y => decide (y ∈ crew) && !decide (y ∈ f)).map wI)), app_at, nxt, jo_pos c, List.map_append]
        · refine ⟨ko, _, _, rfl, ps2, lko, ?_⟩
          rw [nxt, jo_neg c]
          exact eko
      · rintro ρ s2 ⟨ko, y7, y8, rfl, ps2, lko, eko⟩
        refine ⟨ko, _, y7, y8, rfl, ps2, lko, ?_⟩
        rw [List.take_length] at eko
        rw [eko, ← hf0]
        rfl
    · rintro ρ s' ⟨ko, y6, y7, y8, rfl, ps', lko, eko⟩
      rw [List.length_range] at eko
      have pre' := pre.trans ps'
      have ekt' := pre_at ps' ekt
      have eacc' := pre_at ps' eacc
      refine s_if1 (et_b (ev_notinL (i := x) (n := kt) (ns := tk) (ev_var rfl) (ev_var rfl) ekt')) (fun c => ?_) (fun c => ?_)
      · have ntk : x ∉ tk := by rw [Bool.not_eq_true', decide_eq_false_iff_not] at c; exact c
        have em : m = crew.length := if_neg ntk
        rw [em] at eko
        have es := jo_is nds asc xc
        obtain ⟨g1, g2, _⟩ := jo_inv (crew := crew) (x := x) nds crew.length
        have g3 := nodup_le g1 fun y hy => (g2 y hy).mem xc
        have own_mem : ∀ y, y ∈ passes (joStep crew) hs crew.length [x] ↔ y ∈ comL hs crew x := fun y => by rw [← es]; exact (isort_perm _).mem_iff.symm
        generalize passes (joStep crew) hs crew.length [x] = own at eko es g1 g2 g3 own_mem
        have step : rowStep hs crew acc x = acc ++ [comL hs crew x] := rowStep_out fun h => ntk ((htk x).mpr h)
        refine sq_catL (n := kt) (k := ko) (ev_var rfl) (ev_var rfl) ekt' eko (by rw [List.length_map, List.length_map]; omega) ?_
        have ekf : (s' ++ [.ls (tk.map wI ++ own.map wI)])[st.length + 1]? = some (.ls (acc.map wR)) := app_lt eacc'
        refine s_app (n := st.length + 1) (xs := acc.map wR) (w := wR (comL hs crew x)) (ev_var rfl) ekf ?_ (by rw [List.length_map]; omega) ?_
        · exact ev_gcSort' (n := ko) (ns := own) (ev_var rfl) (app_lt eko) (by omega) es
        have ls' : st.length + 1 < s'.length := (List.getElem?_eq_some_iff.mp eacc').1
        refine ⟨s'.length, _, _, _, _, _, tk ++ own, acc ++ [comL hs crew x], rfl, pre_set (pre_app pre') (by omega), ?_, by omega, ?_, by rw [nxt, step], fun y => ?_, ?_, ?_⟩
        · rw [List.getElem?_set_ne (by omega), app_at, List.map_append]
        · rw [List.getElem?_set_self (by rw [len1]; omega), snocR]
        · rw [List.mem_append, List.flatten_append, List.mem_append, htk, own_mem]
          simp
        · rw [List.length_append]
          omega
        · rw [List.length_append, List.length_singleton]
          omega
      · have tkx : x ∈ tk := by rw [Bool.not_eq_false', decide_eq_true_iff] at c; exact c
        have step : rowStep hs crew acc x = acc := rowStep_in ((htk x).mp tkx)
        exact ⟨kt, _, _, _, _, _, tk, acc, rfl, pre', ekt', nkt, eacc', by rw [nxt, step], htk, by omega, by omega⟩
  · rintro ρ s ⟨kt, y4, y5, y6, y7, y8, tk, acc, rfl, ⟨g, rfl⟩, ekt, nkt, eacc, hacc, htk, ltk, lacc⟩
    rw [List.take_length] at hacc
    refine s_ret (ev_tupL (n := st.length + 1) (ds := acc.map dInts) (ev_var rfl) (by rw [eacc, List.map_map]; rfl)) ⟨st, g, rfl, Gcd.rfl', trivial, ?_⟩
    rw [hacc]
    exact q
end FL

/-! Values' layer: dicts of ints to ints. -/
namespace FL
open PySem PySem.Spec PyProof.Rows L2 KL KG GR
def lookI (kvs : List (Int × Int)) (k : Int) : Option Int := (kvs.find? fun p => decide (p.1 = k)).map (·.2)
def putI (kvs : List (Int × Int)) (k v : Int) : List (Int × Int) := if (kvs.any fun p => decide (p.1 = k)) = true then kvs.map (fun p => if p.1 = k then (p.1, v) else p) else kvs ++ [(k, v)]
theorem key_dec (p : Int × Int) (k : Int) : decide ((eKV p).1 = (.inl k : Key)) = decide (p.1 = k) := by
  unfold eKV
  rw [Bool.eq_iff_iff, decide_eq_true_iff, decide_eq_true_iff]
  exact ⟨fun h => Sum.inl.inj h, fun h => congrArg Sum.inl h⟩
theorem look_e (k : Int) : ∀ kvs : List (Int × Int), valV (kvs.map eKV) (.inl k) = (lookI kvs k).map V.int
  | [] => rfl
  | p :: r => by
    by_cases h : p.1 = k
    · rw [List.map_cons, valV_pos (show (eKV p).1 = .inl k from congrArg Sum.inl h)]
      unfold lookI
      rw [List.find?_cons, decide_eq_true h]
      rfl
    · rw [List.map_cons, valV_neg (show ¬ (eKV p).1 = .inl k from fun z => h (Sum.inl.inj z)), look_e k r]
      unfold lookI
      rw [List.find?_cons, decide_eq_false h]
theorem put_e (k v : Int) (kvs : List (Int × Int)) : putK (kvs.map eKV) (.inl k) (.int v) = (putI kvs k v).map eKV := by
  unfold putK putI
  have e : ((kvs.map eKV).any fun kv => decide (kv.1 = (.inl k : Key))) = kvs.any fun p => decide (p.1 = k) := by
    rw [List.any_map]
    congr 1
    funext p
    exact key_dec p k
  rw [e]
  split
  · rw [List.map_map, List.map_map]
    refine List.map_congr_left fun p _ => ?_
    show (if (eKV p).1 = (.inl k : Key) then _ else _) = eKV (if p.1 = k then _ else _)
    by_cases h : p.1 = k
    · rw [if_pos h, if_pos (show (eKV p).1 = .inl k from congrArg Sum.inl h)]
      rfl
    · rw [if_neg h, if_neg (show ¬ (eKV p).1 = .inl k from fun z => h (Sum.inl.inj z))]
  · rw [List.map_append]
    rfl
def dk1 (w : W) (st : Sto) (k : Nat → List (Int × Int) → Prop) : Prop := match w with
  | .l n => ∃ kvs, st[n]? = some (.dk kvs) ∧ k n kvs
  | _ => False
theorem dk1.imp {w : W} {st : Sto} {k k' : Nat → List (Int × Int) → Prop} (f : ∀ n x, k n x → k' n x) (h : dk1 w st k) : dk1 w st k' := by
  cases w with
  | l n => exact let ⟨x, e, q⟩ := h; ⟨x, e, f _ _ q⟩
  | d x => exact h
theorem dk1.ex {w : W} {st : Sto} {k : Nat → List (Int × Int) → Prop} (h : dk1 w st k) : ∃ n kvs, w = .l n ∧ st[n]? = some (.dk kvs) ∧ k n kvs := by
  cases w with
  | l n => exact let ⟨x, e, q⟩ := h; ⟨n, x, rfl, e, q⟩
  | d x => exact h.elim
section
variable {K : PySem.W.Frag} {ts μ μ' : List Addr} {H G : Hp} {st : Sto} {t ta tb tc : TE} {m ma mb mc : ME} {σ : L2.St} {ρ : Ev}
theorem SR.dict (S : SR K ts μ st H) {v : V} {n : Nat} {kvs : List (Int × Int)} (r : RW K μ H v (.l n)) (e : st[n]? = some (.dk kvs)) : ∃ a, μ[n]? = some a ∧ v = .ref a ∧ H a = some (.dK (kvs.map eKV)) := by
  obtain ⟨a, ea, rfl⟩ := r
  exact ⟨a, ea, rfl, S.ob n a _ ea e⟩
/-- {} -/
def mDNew : ME := fun _ st Q => Q (.l st.length) (st ++ [.dk []])
theorem xe_dnew : XE K ts tDNewK mDNew := ⟨fun _ _ _ _ f => f _ _, fun μ st H σ ρ Q S E h p np => h (μ ++ [p]) _ (.ref p) ⟨List.prefix_append _ _, Kt.new np⟩ (S.allocD np) ⟨p, by rw [← S.len]; simp, rfl⟩⟩
/-- d[k] -/
def mDGet (ma mb : ME) : ME := fun ρ st Q => ma ρ st fun w s1 => mb ρ s1 fun u s2 => dk1 w s2 fun _ kvs => int1 u fun k => ∃ v, lookI kvs k = some v ∧ Q (wI v) s2
theorem xe_dget (ha : XE K ts ta ma) (hb : XE K ts tb mb) : XE K ts (tDGet ta tb) (mDGet ma mb) := by
  refine ⟨fun ρ st Q Q' f h => ha.mono _ _ _ _ (fun w s h => hb.mono _ _ _ _ (fun u s => dk1.imp fun n x => int1.imp fun k ⟨v, e, q⟩ => ⟨v, e, f _ _ q⟩) h) h, fun μ st H σ ρ Q S E h => ?_⟩
  refine ha.thn S E h fun w s1 μ1 G1 x h g1 S1 E1 rx => hb.thn S1 E1 h fun u s2 μ2 G2 y h g2 S2 E2 ry => ?_
  obtain ⟨n, kvs, rfl, e, h1⟩ := dk1.ex h
  obtain ⟨k, rfl, v, ev, q⟩ := int1.ex h1
  cases ry
  obtain ⟨a, ea, rfl, ed⟩ := S2.dict (RW.mv rx g2) e
  have g := DGet.k (k := (.inl k : Key)) ed
  rw [look_e, ev] at g
  exact ⟨a, .int v, rfl, g, q μ2 G2 (.int v) (g1.tr g2) S2 (.int v)⟩
/-- k in d, k not in d -/
def mDIn (neg : Bool) (mb ma : ME) : ME := fun ρ st Q => mb ρ st fun u s1 => ma ρ s1 fun w s2 => int1 u fun k => dk1 w s2 fun _ kvs => Q (wB (if neg = true then !(lookI kvs k).isSome else (lookI kvs k).isSome)) s2
theorem xe_din (hb : XE K ts tb mb) (ha : XE K ts ta ma) : XE K ts (tDIn tb ta) (mDIn false mb ma) := by
  refine ⟨fun ρ st Q Q' f h => hb.mono _ _ _ _ (fun w s h => ha.mono _ _ _ _ (fun u s => int1.imp fun k => dk1.imp fun n x => f _ _) h) h, fun μ st H σ ρ Q S E h => ?_⟩
  refine hb.thn S E h fun w s1 μ1 G1 x h g1 S1 E1 rx => ha.thn S1 E1 h fun u s2 μ2 G2 y h g2 S2 E2 ry => ?_
  obtain ⟨k, rfl, h1⟩ := int1.ex h
  obtain ⟨n, kvs, rfl, e, q⟩ := dk1.ex h1
  cases rx
  obtain ⟨a, ea, rfl, ed⟩ := S2.dict ry e
  have g := DGet.k (k := (.inl k : Key)) ed
  rw [look_e] at g
  refine ⟨a, _, rfl, g, q μ2 G2 _ (g1.tr g2) S2 ?_⟩
  rw [Option.isSome_map]
  exact .bl _
/-- d[k] = v -/
def sDPutM (md mk mv : ME) : MS := fun ρ st E => mv ρ st fun v s1 => md ρ s1 fun w s2 => mk ρ s2 fun u s3 => dk1 w s3 fun n kvs => int1 u fun k => int1 v fun i => kvs.length < 1000000 ∧ E.nx ρ (s3.set n (.dk (putI kvs k i)))
theorem xs_dput (hd : XE K ts ta ma) (hk : XE K ts tb mb) (hv : XE K ts tc mc) : XS K ts (sDPut ta tb tc) (sDPutM ma mb mc) := by
  refine ⟨fun ρ st E E' f h => hv.mono _ _ _ _ (fun v s h => hd.mono _ _ _ _ (fun w s h => hk.mono _ _ _ _ (fun u s => dk1.imp fun n x => int1.imp fun k => int1.imp fun i q => ⟨q.1, f.1 _ _ q.2⟩) h) h) h, fun μ st H σ ρ E D S R e h => ?_⟩
  refine hv.thn S R h fun v s1 μ1 G1 z h g1 S1 R1 rz => hd.thn S1 R1 h fun w s2 μ2 G2 x h g2 S2 R2 rx => hk.thn S2 R2 h fun u s3 μ3 G3 y h g3 S3 R3 ry => ?_
  obtain ⟨n, kvs, rfl, en, h1⟩ := dk1.ex h
  obtain ⟨k, rfl, h2⟩ := int1.ex h1
  obtain ⟨i, rfl, l, q⟩ := int1.ex h2
  cases ry
  cases rz
  obtain ⟨a, ea, rfl, ed⟩ := S3.dict (RW.mv rx g3) en
  have g := DPut.k (k := (.inl k : Key)) (v := .int i) ed (by rw [List.length_map, sizeLine_eq]; exact Nat.lt_trans l (by decide))
  rw [put_e] at g
  obtain ⟨S4, kt⟩ := S3.writeD (kvs := putI kvs k i) ea en
  have g4 : Gr μ3 G3 μ3 (upd G3 a (.dK ((putI kvs k i).map eKV))) := ⟨List.prefix_refl _, kt⟩
  exact ⟨a, _, rfl, g, e.nx _ _ μ3 _ σ q (((g1.tr g2).tr g3).tr g4) S4 (RE.mv g4 R3)⟩
/-- min(xs), max(xs) of a list of ints -/
def cMinL : List W → Sto → WQ → Prop := fun ws st Q => one1 ws fun w => ls1 w st fun _ xs => intsD xs fun ns => 0 < ns.length ∧ ∀ m, m ∈ ns → (∀ y, y ∈ ns → m ≤ y) → Q (wI m) st
theorem xc_minL : XC K ts (rMin K) cMinL := by
  refine ⟨fun ws st Q Q' f => one1.imp fun w => ls1.imp fun n xs => intsD.imp fun ns q => ⟨q.1, fun m h1 h2 => f _ _ (q.2 m h1 h2)⟩, fun μ st H vs ws Q S r h => ?_⟩
  obtain ⟨w, rfl, h1⟩ := one1.ex h
  obtain ⟨v, rfl, r1⟩ := RWL.one r
  obtain ⟨n, xs, rfl, e, q1⟩ := ls1.ex h1
  obtain ⟨ns, rfl, l, q2⟩ := intsD.ex q1
  obtain ⟨a, us, ea, rfl, e1, h2⟩ := S.list r1 e
  rw [RWL.ints h2] at e1
  exact ⟨a, ns, rfl, .inl (.inl e1), l, fun m m1 m2 => q2 m m1 m2 μ H _ Gr.rfl' S (.int _)⟩
def cMaxL : List W → Sto → WQ → Prop := fun ws st Q => one1 ws fun w => ls1 w st fun _ xs => intsD xs fun ns => 0 < ns.length ∧ ∀ m, m ∈ ns → (∀ y, y ∈ ns → y ≤ m) → Q (wI m) st
theorem xc_maxL : XC K ts (rMax K) cMaxL := by
  refine ⟨fun ws st Q Q' f => one1.imp fun w => ls1.imp fun n xs => intsD.imp fun ns q => ⟨q.1, fun m h1 h2 => f _ _ (q.2 m h1 h2)⟩, fun μ st H vs ws Q S r h => ?_⟩
  obtain ⟨w, rfl, h1⟩ := one1.ex h
  obtain ⟨v, rfl, r1⟩ := RWL.one r
  obtain ⟨n, xs, rfl, e, q1⟩ := ls1.ex h1
  obtain ⟨ns, rfl, l, q2⟩ := intsD.ex q1
  obtain ⟨a, us, ea, rfl, e1, h2⟩ := S.list r1 e
  rw [RWL.ints h2] at e1
  exact ⟨a, ns, rfl, .inl (.inl e1), l, fun m m1 m2 => q2 m m1 m2 μ H _ Gr.rfl' S (.int _)⟩
end
section
variable {ρ : Ev} {st : Sto} {ma mb mc : ME} {n : Nat} {kvs : List (Int × Int)} {k v : Int}
theorem ev_dget (ha : Ev' ma ρ st (.l n)) (e : st[n]? = some (.dk kvs)) (hb : Ev' mb ρ st (wI k)) (l : lookI kvs k = some v) : Ev' (mDGet ma mb) ρ st (wI v) := fun Q q => ha _ (hb _ ⟨kvs, e, v, l, q⟩)
theorem ev_din (hb : Ev' mb ρ st (wI k)) (ha : Ev' ma ρ st (.l n)) (e : st[n]? = some (.dk kvs)) : Ev' (mDIn false mb ma) ρ st (wB (lookI kvs k).isSome) := fun Q q => hb _ (ha _ ⟨kvs, e, q⟩)
theorem s_dput {E : WE} (hd : Ev' ma ρ st (.l n)) (e : st[n]? = some (.dk kvs)) (hk : Ev' mb ρ st (wI k)) (hv : Ev' mc ρ st (wI v)) (l : kvs.length < 1000000) (q : E.nx ρ (st.set n (.dk (putI kvs k v)))) : sDPutM ma mb mc ρ st E := hv _ (hd _ (hk _ ⟨kvs, e, l, q⟩))
theorem sq_dnew {E : WE} {r : MS} {i : Nat} (q : r (ρ.set i (some (.l st.length))) (st ++ [.dk []]) E) : sSeq (sAsg mDNew (gN i)) r ρ st E := q
end
end FL

/-! Values' layer: walks over what is a tuple or a list. -/
namespace FL
open PySem PySem.Spec PyProof.Rows L2 KL KG GR KV KS KY RT
theorem hu1 {n : Nat} (h : n + 65 < cLine) : n + 1 < cLine := by omega
/-- one iterator or another -/
def iOr (w1 w2 : TI) : TI := fun σ H R => w1 σ H R ∨ w2 σ H R
theorem pi_or {X : Cx} {tg iter : Expr} {w1 w2 : TI} (h1 : PI X tg iter w1) (h2 : PI X tg iter w2) : PI X tg iter (iOr w1 w2) := ⟨fun pins s σ H R I h => h.elim (h1.run pins s σ H R I) (h2.run pins s σ H R I)⟩
def iOrM (m1 m2 : MI) : MI := fun ρ st Q => m1 ρ st Q ∨ m2 ρ st Q
section
variable {K : PySem.W.Frag} {ts μ μ' : List Addr} {H G : Hp} {st : Sto} {t ta tb tc : TE} {m ma mb mc : ME} {σ : L2.St} {ρ : Ev}
theorem xi_or {w1 w2 : TI} {m1 m2 : MI} (h1 : XI K ts w1 m1) (h2 : XI K ts w2 m2) : XI K ts (iOr w1 w2) (iOrM m1 m2) :=
  ⟨fun ρ st Q Q' f h => h.imp (h1.mono ρ st Q Q' f) (h2.mono ρ st Q Q' f), fun μ st H σ ρ R S E h => h.imp (h1.run μ st H σ ρ R S E) (h2.run μ st H σ ρ R S E)⟩
/-- x, a tuple or a list -/
def iSq (ma : ME) : MI := iOrM (iT ma) (iL ma)
theorem pi_sq {X : Cx} {tg l : Expr} {tl : TE} (h : PE X l tl) : PI X tg l (iOr (iTup X.K tl) (iList X.K tl)) := pi_or (pi_tup h) (pi_list h)
theorem xi_sq (ha : XE K ts ta ma) : XI K ts (iOr (iTup K ta) (iList K ta)) (iSq ma) := xi_or (xi_tup ha) (xi_list ha)
/-- reversed(x), x a list -/
def iRvL (ma : ME) : MI := fun ρ st Q => ma ρ st fun w s => ls1 w s fun n xs => Q xs.reverse (fun s' => s'[n]? = some (.ls xs)) s
theorem xi_revL (ha : XE K ts ta ma) : XI K ts (iRevA K ta) (iRvL ma) := by
  refine ⟨fun ρ st Q Q' f h => ha.mono _ _ _ _ (fun w s => ls1.imp fun n xs q => f _ _ _ q) h, fun μ st H σ ρ R S E h => ha.thn S E h fun w s μ1 G v h1 g S1 E1 rv => ?_⟩
  obtain ⟨n, xs, rfl, e, q⟩ := ls1.ex h1
  obtain ⟨a, us, ea, rfl, e3, r3⟩ := S1.list rv e
  have key : ∀ μ' G' s', Gr μ1 G μ' G' → SR K ts μ' s' G' → s'[n]? = some (.ls xs) → ∃ vs, SqL K G' a vs ∧ RWL K μ' G' vs xs := fun μ' G' s' g2 S2 e2 => by
    obtain ⟨vs, h1, h2⟩ := S2.ob n a _ (pre_get g2.1 ea) e2
    exact ⟨vs, .inl (.inl h1), h2⟩
  have lu : us.length = xs.length := RWL.len r3
  refine ⟨a, us, rfl, .inl ⟨.inl (.inl e3), q μ1 G _ g S1 ⟨fun μ' G' s' i g2 S2 e2 hi => ?_, fun μ' G' s' i x H' g2 S2 e2 hi y => ?_, fun μ' G' s' g2 S2 e2 => ?_⟩⟩⟩
  · obtain ⟨vs, h1, h2⟩ := key μ' G' s' g2 S2 e2
    rw [List.length_reverse] at hi
    have := RWL.len h2
    exact ⟨by rw [lu]; exact hi, vs, vs[us.length - 1 - i], h1, List.getElem?_eq_getElem (by omega)⟩
  · obtain ⟨vs, h1, h2⟩ := key μ' G' s' g2 S2 e2
    obtain ⟨rfl, y⟩ := y
    have hx := y vs h1
    rw [List.length_reverse] at hi
    obtain ⟨w', hw⟩ : ∃ w', xs[us.length - 1 - i]? = some w' := ⟨xs[us.length - 1 - i], List.getElem?_eq_getElem (by omega)⟩
    obtain ⟨x', hx', rx⟩ := get_ex h2 hw
    rw [hx] at hx'
    cases hx'
    refine ⟨w', ?_, Gr.rfl', S2, rx⟩
    rw [List.getElem?_reverse hi, ← lu]
    exact hw
  · show us.length ≤ _
    rw [List.length_reverse, lu]
    exact Nat.le_refl _
theorem xi_or2 {w : TI} {m1 m2 : MI} (h1 : XI K ts w m1) (h2 : XI K ts w m2) : XI K ts w (iOrM m1 m2) :=
  ⟨fun ρ st Q Q' f h => h.imp (h1.mono ρ st Q Q' f) (h2.mono ρ st Q Q' f), fun μ st H σ ρ R S E h => h.elim (h1.run μ st H σ ρ R S E) (h2.run μ st H σ ρ R S E)⟩
def iRvS (ma : ME) : MI := iOrM (iRv ma) (iRvL ma)
theorem xi_revS (ha : XE K ts ta ma) : XI K ts (iRevA K ta) (iRvS ma) := xi_or2 (xi_rev ha) (xi_revL ha)
end
/-- a row of numbers, as a tuple or as a list -/
def isRow (w : W) (st : Sto) (ns : List Int) : Prop := w = wR ns ∨ ∃ n, w = .l n ∧ st[n]? = some (.ls (ns.map wI))
/-- what holds while a row stands -/
def rowGd (w : W) (ns : List Int) (s : Sto) : Prop := ∀ n, w = .l n → s[n]? = some (.ls (ns.map wI))
theorem isRow.gd {w : W} {st : Sto} {ns : List Int} (h : isRow w st ns) : rowGd w ns st := fun n e => by
  rcases h with rfl | ⟨k, rfl, h⟩
  · cases e
  · cases e
    exact h
theorem isRow.mv {w : W} {st s : Sto} {ns : List Int} (h : isRow w st ns) (g : rowGd w ns s) : isRow w s ns := h.imp id fun ⟨n, e, _⟩ => ⟨n, e, g n e⟩
section
variable {ρ : Ev} {st : Sto} {ma mb : ME} {w : W} {ns : List Int}
theorem wk_sq (h : Ev' ma ρ st w) (r : isRow w st ns) : Walks (iSq ma) ρ st (ns.map wI) (rowGd w ns) := fun R k => by
  rcases r with rfl | ⟨n, rfl, e⟩
  · refine .inl (h _ ?_)
    show R ((ns.map PyData.int).map W.d) _ st
    rw [show (fun _ : Sto => True) = rowGd (wR ns) ns from funext fun s => (eq_true fun n e => by cases e).symm]
    rw [List.map_map]
    exact k
  · refine .inr (h _ ⟨_, e, ?_⟩)
    show R (ns.map wI) (fun s' : Sto => s'[n]? = some (Ob.ls (ns.map wI))) st
    rw [show (fun s' : Sto => s'[n]? = some (Ob.ls (ns.map wI))) = rowGd (.l n) ns from funext fun s => propext ⟨fun z k e => by cases e; exact z, fun z => z n rfl⟩]
    exact k
theorem wk_rvS (h : Ev' ma ρ st w) (r : isRow w st ns) : Walks (iRvS ma) ρ st (ns.reverse.map wI) (rowGd w ns) := fun R k => by
  rcases r with rfl | ⟨n, rfl, e⟩
  · refine .inl (h _ ?_)
    show R ((ns.map PyData.int).reverse.map W.d) _ st
    rw [show (fun _ : Sto => True) = rowGd (wR ns) ns from funext fun s => (eq_true fun n e => by cases e).symm]
    rw [← List.map_reverse, List.map_map]
    exact k
  · refine .inr (h _ ⟨_, e, ?_⟩)
    show R (ns.map wI).reverse (fun s' : Sto => s'[n]? = some (Ob.ls (ns.map wI))) st
    rw [show (fun s' : Sto => s'[n]? = some (Ob.ls (ns.map wI))) = rowGd (.l n) ns from funext fun s => propext ⟨fun z k e => by cases e; exact z, fun z => z n rfl⟩]
    rw [← List.map_reverse]
    exact k
end
end FL

/-! The law's own walk up. -/
namespace FL
open PySem PySem.Spec PyProof.Rows L2 KL KG GR KV KS KY RT
open Classical
noncomputable def upStep (ar : List (List Int)) (f : List Int) (m : Int) : List Int := if m ∉ f ∧ ∃ two ∈ f, [m, two] ∈ ar then f ++ [m] else f
theorem up_keeps {ar : List (List Int)} {f : List Int} {m y : Int} (h : y ∈ f) : y ∈ upStep ar f m := by
  unfold upStep
  split
  · exact List.mem_append.mpr (.inl h)
  · exact h
theorem desc_before {l : List Int} (h : l.Pairwise (fun a b => b < a)) {i : Nat} {x z : Int} (e : l[i]? = some x) (hz : z ∈ l) (lt : x < z) : z ∈ l.take i := by
  obtain ⟨j, hj⟩ := List.getElem?_of_mem hz
  have hi := (List.getElem?_eq_some_iff.mp e)
  have hj' := (List.getElem?_eq_some_iff.mp hj)
  obtain ⟨i1, i2⟩ := hi
  obtain ⟨j1, j2⟩ := hj'
  have : j < i := by
    rcases Nat.lt_trichotomy j i with h' | h' | h'
    · exact h'
    · subst h'
      rw [i2] at j2
      omega
    · have := (List.pairwise_iff_getElem.mp h) i j i1 j1 h'
      rw [i2, j2] at this
      omega
  exact List.mem_of_getElem? (i := j) (by rw [List.getElem?_take, if_pos this]; exact hj)
structure UpI (ar : List (List Int)) (crew ss : List Int) (i : Nat) (f : List Int) : Prop where
  nd : f.Nodup
  ok : ∀ y ∈ f, AncR ar crew ss y
  own : ∀ y ∈ crew, y ∈ ss → y ∈ f
  all : ∀ y ∈ crew.reverse.take i, AncR ar crew ss y → y ∈ f
theorem up_zero {ar : List (List Int)} {crew ss : List Int} (asc : Asc crew) : UpI ar crew ss 0 (crew.filter fun y => decide (y ∈ ss)) :=
  ⟨(asc_nodup asc).filter _, fun y hy => by
    rw [List.mem_filter, decide_eq_true_iff] at hy
    exact .base hy.1 hy.2, fun y h1 h2 => List.mem_filter.mpr ⟨h1, decide_eq_true h2⟩, fun y hy => by cases hy⟩
theorem up_next {ar : List (List Int)} {crew ss f : List Int} {i : Nat} {x : Int} (up : Up ar) (asc : Asc crew) (h : UpI ar crew ss i f) (e : crew.reverse[i]? = some x) : UpI ar crew ss (i + 1) (upStep ar f x) := by
  have xc : x ∈ crew := List.mem_reverse.mp (List.mem_of_getElem? e)
  have desc : crew.reverse.Pairwise (fun a b => b < a) := List.pairwise_reverse.mpr asc
  have nxt : ∀ y ∈ crew.reverse.take (i + 1), y ∈ crew.reverse.take i ∨ y = x := fun y hy => by
    rw [List.take_add_one, List.mem_append, e] at hy
    exact hy.imp id fun z => List.mem_singleton.mp z
  refine ⟨?_, fun y hy => ?_, fun y h1 h2 => up_keeps (h.own y h1 h2), fun y hy a => ?_⟩
  · unfold upStep
    split
    · rename_i c
      rw [List.nodup_append]
      exact ⟨h.nd, by simp, fun a ha b hb z => by
        rw [List.mem_singleton.mp hb] at z
        exact c.1 (z ▸ ha)⟩
    · exact h.nd
  · unfold upStep at hy
    split at hy
    · rename_i c
      rcases List.mem_append.mp hy with hy | hy
      · exact h.ok y hy
      · rw [List.mem_singleton.mp hy]
        obtain ⟨_, two, ht, ha⟩ := c
        exact .step xc (h.ok two ht) ha
    · exact h.ok y hy
  · rcases nxt y hy with hy | rfl
    · exact up_keeps (h.all y hy a)
    · by_cases hf : y ∈ f
      · exact up_keeps hf
      · cases a with
        | base h1 h2 => exact absurd (h.own y h1 h2) hf
        | @step _ z h1 az ha =>
          obtain ⟨p, q, e1, lt⟩ := up _ ha
          obtain ⟨rfl, rfl⟩ : y = p ∧ z = q := by
            injection e1 with e1 e2
            injection e2 with e2
            exact ⟨e1, e2⟩
          have zf := h.all z (desc_before desc e (List.mem_reverse.mpr az.mem) lt) az
          unfold upStep
          rw [if_pos ⟨hf, z, zf, ha⟩]
          exact List.mem_append.mpr (.inr List.mem_cons_self)
theorem up_end {ar : List (List Int)} {crew ss f : List Int} (asc : Asc crew) (h : UpI ar crew ss crew.length f) : isort f = ancL ar crew ss :=
  isort_asc h.nd (ancL_asc asc) fun y => by
    rw [mem_ancL]
    refine ⟨h.ok y, fun a => h.all y ?_ a⟩
    rw [← List.length_reverse, List.take_length]
    exact List.mem_reverse.mpr a.mem
/-- [b for a, b in rows if ..] != [] -/
theorem et_someP {ρ : Ev} {s : Sto} {ma : ME} {mt : MT} {n k : Nat} {rs : List (List Int)} (keep : Int → Int → Bool) (h : Ev' ma ρ s (.d (dRows rs))) (two : ∀ r ∈ rs, ∃ a b : Int, r = [a, b]) (l : rs.length ≤ 1000000) (hk : k < ρ.length)
    (ht : ∀ a b, ∀ acc, EvT mt (((wipeE ρ [n, k]).set n (some (wI a))).set k (some (wI b))) (s ++ [.ls acc]) (keep a b)) : EvT (mGcT (mB (mOp (oEqD true) (mLc (iT ma) (gT 2 (gsC (gN n) (gsC (gN k) gsN))) mt (mVar k) [n, k]) (mLst aNil)))) ρ s (!decide (rs.filter (fun r => keep (r.getD 0 0) (r.getD 1 0)) = [])) := fun R q => by
  unfold mGcT mB mOp
  refine lc_map (α := List Int) wR rs (fun r => keep (r.getD 0 0) (r.getD 1 0)) (fun r => wI (r.getD 1 0)) (wk_rows h) (fun _ => trivial) l (fun r hr acc Pk Pn h1 h2 => ?_) ?_
  · obtain ⟨a, b, rfl⟩ := two r hr
    refine gt2 (x := .int a) (y := .int b) (ht a b acc _ ?_)
    cases c : keep a b with
    | true =>
      refine ev_var ?_ _ (h1 c)
      rw [List.getElem?_set_self]
      · rfl
      · unfold wipeE wipeE wipeE
        rw [List.length_set, List.length_set, List.length_set]
        exact hk
    | false => exact h2 c
  · refine ⟨by decide, ⟨_, app_lt app_at, allD_at (bs := (rs.filter fun r => keep (r.getD 0 0) (r.getD 1 0)).map fun r => .int (r.getD 1 0)) (by rw [List.map_map]; rfl) ⟨[], app_at, ?_, shp_intsL [], ?_⟩⟩⟩
    · have z := shp_intsL ((rs.filter fun r => keep (r.getD 0 0) (r.getD 1 0)).map fun r => r.getD 1 0)
      rw [List.map_map] at z
      exact z
    refine ⟨s, [_, _], app11, Gcd.rfl', ?_⟩
    have z := eqv_nil ((rs.filter fun r => keep (r.getD 0 0) (r.getD 1 0)).map fun r => r.getD 1 0)
    rw [List.map_map] at z
    show R (if true = true then !PyData.eqv (.list ((rs.filter fun r => keep (r.getD 0 0) (r.getD 1 0)).map fun r => .int (r.getD 1 0))) (.list []) else _) s
    rw [if_pos rfl]
    have z2 : PyData.eqv (.list ((rs.filter fun r => keep (r.getD 0 0) (r.getD 1 0)).map fun r => .int (r.getD 1 0))) (.list []) = decide ((rs.filter fun r => keep (r.getD 0 0) (r.getD 1 0)).map (fun r => r.getD 1 0) = []) := z
    rw [z2]
    have z3 : decide ((rs.filter fun r => keep (r.getD 0 0) (r.getD 1 0)).map (fun r => r.getD 1 0) = []) = decide (rs.filter (fun r => keep (r.getD 0 0) (r.getD 1 0)) = []) := by
      rw [Bool.eq_iff_iff, decide_eq_true_iff, decide_eq_true_iff, List.map_eq_nil_iff]
    rw [z3]
    exact q
theorem row_app {w : W} {ns : List Int} {st g : Sto} (h : rowGd w ns st) : rowGd w ns (st ++ g) := fun n e => app_lt (h n e)
/-- [x for x in t if ..], t a tuple or a list -/
theorem lc_sq {ρ : Ev} {s : Sto} {Q : WQ} {ma : ME} {mt : MT} {n : Nat} {w : W} {r : List Int} (keep : Int → Bool) (h : Ev' ma ρ s w) (row : isRow w s r) (l : r.length ≤ 1000000) (hn : n < ρ.length) (ht : ∀ x ∈ r, ∀ acc, EvT mt ((wipeE ρ [n]).set n (some (wI x))) (s ++ [.ls acc]) (keep x))
    (q : Q (.l s.length) (s ++ [.ls ((r.filter keep).map wI)])) : mLc (iSq ma) (gN n) mt (mVar n) [n] ρ s Q := by
  refine lc_map (α := Int) wI r keep wI (wk_sq h row) (fun acc => row_app row.gd) l (fun x hx acc Pk Pn h1 h2 => ht x hx acc _ ?_) q
  cases k : keep x with
  | true =>
    refine ev_var ?_ _ (h1 k)
    rw [List.getElem?_set_self]
    unfold wipeE
    rw [List.length_set]
    exact hn
  | false => exact h2 k
theorem sq_lcSq {ρ : Ev} {s : Sto} {E : WE} {r' : MS} {ma : ME} {mt : MT} {n i : Nat} {w : W} {r : List Int} (keep : Int → Bool) (h : Ev' ma ρ s w) (row : isRow w s r) (l : r.length ≤ 1000000) (hn : n < ρ.length) (ht : ∀ x ∈ r, ∀ acc, EvT mt ((wipeE ρ [n]).set n (some (wI x))) (s ++ [.ls acc]) (keep x))
    (q : r' (ρ.set i (some (.l s.length))) (s ++ [.ls ((r.filter keep).map wI)]) E) : sSeq (sAsg (mLc (iSq ma) (gN n) mt (mVar n) [n]) (gN i)) r' ρ s E := lc_sq (Q := fun w s => gN i w ρ s (E.thn r').nx) keep h row l hn ht q
def F_up : List W → Sto → WQ → Prop := fun ws st Q => ∃ (n l : PyData) (ar : List (List Int)) (w : W) (crew ss : List Int), ws = [.d (.tuple [n, dRows ar, l]), w, wR ss] ∧ isRow w st crew ∧ crew.length < 64 ∧ Asc crew ∧ Up ar ∧ ar.length ≤ 1000 ∧ Q (wR (ancL ar crew ss)) st
theorem mo_up : MonoF F_up := ⟨fun ws st Q Q' f ⟨n, l, ar, w, crew, ss, e, a, b, c, d, i, q⟩ => ⟨n, l, ar, w, crew, ss, e, a, b, c, d, i, f _ _ q⟩⟩
def m_up : MS :=
  (sSeq (sAsg (mLc (iSq (mVar 1)) (gN 4) (mB (mOp (oInI false) (mVar 4) (mVar 2))) (mVar 4) [4]) (gN 3))
      (sSeq (sFor (iRvS (mVar 1)) (gN 4)
      (sIf (mAnd (mB (mOp (oInI true) (mVar 4) (mVar 3))) (mGcT (mB (mOp (oEqD true) (mLc (iT (mOp oIxT (mVar 0) (mC (.int 1)))) (gT 2 (gsC (gN 5) (gsC (gN 6) gsN))) (mAnd (mB (mOp oEqI (mVar 5) (mVar 4))) (mB (mOp (oInI false) (mVar 6) (mVar 3)))) (mVar 6) [5, 6]) (mLst aNil))))) (sDrop (mBM cApp (mVar 3) (aCons (mVar 4) aNil))) sNext))
      (sRet (mCB cTup (aCons (mCB cSort (aCons (mVar 3) aNil)) aNil)))))
theorem do_up : Does m_up 3 4 F_up := by
  rintro ws st Q ⟨n, l, ar, w, crew, ss, rfl, row, hl, asc, up, al, q⟩
  have gd0 := row.gd
  have e2 : ∀ r ∈ ar, ∃ a b : Int, r = [a, b] := fun r hr => let ⟨a, b, e, _⟩ := up r hr; ⟨a, b, e⟩
  refine ⟨rfl, sq_lcSq (fun y => decide (y ∈ ss)) (ev_var rfl) row (by omega) (show 4 < 7 by decide) (fun x hx acc => et_b (ev_in (i := x) (ns := ss) (ev_var rfl) (ev_var rfl))) ?_⟩
  refine sq_forI (α := Int) (st1 := st ++ [.ls ((crew.filter fun y => decide (y ∈ ss)).map wI)]) wI crew.reverse (fun i ρ s => ∃ (f : List Int) (y4 : Option W), ρ = [some (.d (.tuple [n, dRows ar, l])), some w, some (wR ss), some (.l st.length), y4, none, none] ∧ s = st ++ [.ls (f.map wI)] ∧ UpI ar crew ss i f) ?_ ⟨_, none, rfl, rfl, up_zero asc⟩ (gd := rowGd w crew) (fun i ρ s h => ?_) ?_ ?_
  · exact wk_rvS (ev_var rfl) (row.mv (row_app gd0))
  · obtain ⟨f, y4, _, rfl, _⟩ := h
    exact row_app gd0
  · rintro i x ρ s hx ⟨f, y4, rfl, rfl, h⟩
    have nxt := up_next up asc h hx
    have fl : f.length ≤ crew.length := nodup_le h.nd fun y hy => (h.ok y hy).mem
    have tst : EvT (mAnd (mB (mOp (oInI true) (mVar 4) (mVar 3))) (mGcT (mB (mOp (oEqD true) (mLc (iT (mOp oIxT (mVar 0) (mC (.int 1)))) (gT 2 (gsC (gN 5) (gsC (gN 6) gsN))) (mAnd (mB (mOp oEqI (mVar 5) (mVar 4))) (mB (mOp (oInI false) (mVar 6) (mVar 3)))) (mVar 6) [5, 6]) (mLst aNil)))))
        [some (.d (.tuple [n, dRows ar, l])), some w, some (wR ss), some (.l st.length), some (wI x), none, none] (st ++ [.ls (f.map wI)]) (!decide (x ∈ f) && !decide (ar.filter (fun r => decide (r.getD 0 0 = x) && decide (r.getD 1 0 ∈ f)) = [])) := by
      refine et_and (et_b (ev_notinL (i := x) (n := st.length) (ns := f) (ev_var rfl) (ev_var rfl) app_at)) fun _ => ?_
      refine et_someP (fun a b => decide (a = x) && decide (b ∈ f)) (ev_ixT (x := dRows ar) (ev_var rfl) ev_c rfl) e2 (by omega) (show 6 < 7 by decide) fun a b acc => ?_
      exact et_and (et_b (ev_eqI (i := a) (j := x) (ev_var rfl) (ev_var rfl))) fun _ => et_b (ev_inL (i := b) (n := st.length) (ns := f) (ev_var rfl) (ev_var rfl) (app_lt app_at))
    have eq : (!decide (x ∈ f) && !decide (ar.filter (fun r => decide (r.getD 0 0 = x) && decide (r.getD 1 0 ∈ f)) = [])) = decide (x ∉ f ∧ ∃ two ∈ f, [x, two] ∈ ar) := by
      rw [Bool.eq_iff_iff, Bool.and_eq_true, Bool.not_eq_true', Bool.not_eq_true', decide_eq_false_iff_not, decide_eq_false_iff_not, decide_eq_true_iff]
      refine and_congr Iff.rfl ⟨fun h => ?_, fun ⟨two, h1, h2⟩ z => ?_⟩
      · obtain ⟨r, hr⟩ := List.exists_mem_of_ne_nil _ h
        rw [List.mem_filter, Bool.and_eq_true, decide_eq_true_iff, decide_eq_true_iff] at hr
        obtain ⟨a, b, rfl⟩ := e2 r hr.1
        obtain ⟨h1, h2, h3⟩ := hr
        have h2 : a = x := h2
        subst h2
        exact ⟨b, h3, h1⟩
      · have : [x, two] ∈ ar.filter (fun r => decide (r.getD 0 0 = x) && decide (r.getD 1 0 ∈ f)) := List.mem_filter.mpr ⟨h2, by
          rw [Bool.and_eq_true, decide_eq_true_iff, decide_eq_true_iff]
          exact ⟨rfl, h1⟩⟩
        rw [z] at this
        cases this
    rw [eq] at tst
    refine s_if1 tst (fun c => ?_) (fun c => ?_)
    · refine s_app (n := st.length) (xs := f.map wI) (w := wI x) (ev_var rfl) app_at (ev_var rfl) (by rw [List.length_map]; omega) ?_
      rw [upStep, if_pos (of_decide_eq_true c)] at nxt
      refine ⟨f ++ [x], _, rfl, ?_, nxt⟩
      rw [app_set, snocI]
    · rw [upStep, if_neg (of_decide_eq_false c)] at nxt
      exact ⟨f, _, rfl, rfl, nxt⟩
  · rintro ρ s ⟨f, y4, rfl, rfl, h⟩
    rw [List.length_reverse] at h
    have fl : f.length ≤ crew.length := nodup_le h.nd fun y hy => (h.ok y hy).mem
    exact s_retSort (ns := f) (ev_var rfl) app_at (by omega) (fun o => ⟨st, [_, o], app11, Gcd.rfl', trivial, by rw [up_end asc h]; exact q⟩)
end FL

/-! The law's own districts: marks that run together. -/
namespace FL
open PySem PySem.Spec PyProof.Rows L2 KL KG GR KV KS KY RT
open Classical
/-- marks: the least of each district -/
structure Mk (hs : List (List Int)) (crew : List Int) (f : Int → Int) : Prop where
  c : ∀ x ∈ crew, ∀ y ∈ crew, f x = f y ↔ ConR hs crew x y
  i : ∀ x ∈ crew, f x ∈ crew ∧ ConR hs crew x (f x)
  l : ∀ x ∈ crew, f x ≤ x
theorem con_nil {crew : List Int} {x y : Int} (h : ConR [] crew x y) : x = y := by
  cases h with
  | base => rfl
  | step _ h => cases h
theorem mk_zero {crew : List Int} : Mk [] crew id := ⟨fun x _ y _ => ⟨fun h => by
    have h : x = y := h
    subst h
    exact .base, fun h => con_nil h⟩, fun x hx => ⟨hx, .base⟩, fun x _ => Int.le_refl _⟩
theorem con_more {hs hs' : List (List Int)} {ms : List Int} {x y : Int} (s : ∀ b ∈ hs, b ∈ hs') (h : ConR hs ms x y) : ConR hs' ms x y := by
  induction h with
  | base => exact .base
  | step _ hb hz hy hm ih => exact .step ih (s _ hb) hz hy hm
/-- what a row's marks are -/
def innerL (crew b : List Int) (f : Int → Int) : List Int := (b.filter fun a => decide (a ∈ crew)).map f
def mkStep (crew b : List Int) (f : Int → Int) (m : Int) : Int → Int := fun x => if f x ∈ innerL crew b f then m else f x
theorem mem_inner {crew b : List Int} {f : Int → Int} {v : Int} : v ∈ innerL crew b f ↔ ∃ t, t ∈ b ∧ t ∈ crew ∧ f t = v := by
  unfold innerL
  rw [List.mem_map]
  constructor
  · rintro ⟨t, ht, e⟩
    rw [List.mem_filter, decide_eq_true_iff] at ht
    exact ⟨t, ht.1, ht.2, e⟩
  · rintro ⟨t, h1, h2, e⟩
    exact ⟨t, List.mem_filter.mpr ⟨h1, decide_eq_true h2⟩, e⟩
theorem mk_step {hs : List (List Int)} {crew b : List Int} {f : Int → Int} {m : Int} (h : Mk hs crew f) (hm : innerL crew b f ≠ [] → m ∈ innerL crew b f ∧ ∀ v ∈ innerL crew b f, m ≤ v) : Mk (hs ++ [b]) crew (mkStep crew b f m) := by
  have up : ∀ {x y : Int}, ConR hs crew x y → ConR (hs ++ [b]) crew x y := fun h => con_more (fun b hb => List.mem_append.mpr (.inl hb)) h
  have hb : b ∈ hs ++ [b] := List.mem_append.mpr (.inr List.mem_cons_self)
  have yes : ∀ {x : Int}, f x ∈ innerL crew b f → mkStep crew b f m x = m := fun h => if_pos h
  have no : ∀ {x : Int}, f x ∉ innerL crew b f → mkStep crew b f m x = f x := fun h => if_neg h
  have mi : ∀ {x : Int}, f x ∈ innerL crew b f → m ∈ innerL crew b f ∧ ∀ v ∈ innerL crew b f, m ≤ v := fun h => hm fun z => by rw [z] at h; cases h
  -- touched ones are joined
  have join : ∀ x ∈ crew, ∀ t, t ∈ b → t ∈ crew → f x = f t → ∀ t', t' ∈ b → t' ∈ crew → ConR (hs ++ [b]) crew x t' := fun x hx t h1 h2 e t' h3 h4 => .step (up ((h.c x hx t h2).mp e)) hb h1 h3 h4
  refine ⟨fun x hx y hy => ⟨fun e => ?_, fun r => ?_⟩, fun x hx => ?_, fun x hx => ?_⟩
  · by_cases cx : f x ∈ innerL crew b f <;> by_cases cy : f y ∈ innerL crew b f
    · obtain ⟨t, h1, h2, e1⟩ := mem_inner.mp cx
      obtain ⟨t', h3, h4, e2⟩ := mem_inner.mp cy
      exact con_trans (join x hx t h1 h2 e1.symm t' h3 h4) (up ((h.c t' h4 y hy).mp e2))
    · rw [yes cx, no cy] at e
      exact absurd (e ▸ (mi cx).1) cy
    · rw [no cx, yes cy] at e
      exact absurd (e ▸ (mi cy).1) cx
    · rw [no cx, no cy] at e
      exact up ((h.c x hx y hy).mp e)
  · induction r with
    | base => rfl
    | @step y z c a hc hz hy' hm' ih =>
      have zc : z ∈ crew := a.mem hx
      rw [ih zc]
      rcases List.mem_append.mp hc with hc | hc
      · have e : f z = f y := (h.c z zc y hm').mpr (.step .base hc hz hy' hm')
        unfold mkStep
        rw [e]
      · rw [List.mem_singleton] at hc
        subst hc
        rw [yes (mem_inner.mpr ⟨z, hz, zc, rfl⟩), yes (mem_inner.mpr ⟨y, hy', hm', rfl⟩)]
  · by_cases cx : f x ∈ innerL crew b f
    · rw [yes cx]
      obtain ⟨t, h1, h2, e1⟩ := mem_inner.mp cx
      obtain ⟨t', h3, h4, e2⟩ := mem_inner.mp (mi cx).1
      obtain ⟨i1, i2⟩ := h.i t' h4
      rw [e2] at i1 i2
      exact ⟨i1, con_trans (join x hx t h1 h2 e1.symm t' h3 h4) (up i2)⟩
    · rw [no cx]
      exact ⟨(h.i x hx).1, up (h.i x hx).2⟩
  · by_cases cx : f x ∈ innerL crew b f
    · rw [yes cx]
      exact Int.le_trans ((mi cx).2 _ cx) (h.l x hx)
    · rw [no cx]
      exact h.l x hx
/-- the rows that marks tell -/
theorem mk_rows {hs : List (List Int)} {crew : List Int} {f : Int → Int} (h : Mk hs crew f) (asc : Asc crew) : (crew.filter fun x => decide (f x = x)).map (fun x => crew.filter fun a => decide (f a = x)) = rowsL hs crew := by
  have row : ∀ x ∈ crew, f x = x → (crew.filter fun a => decide (f a = x)) = comL hs crew x := fun x hx e => by
    unfold comL
    refine List.filter_congr fun a ha => ?_
    rw [Bool.eq_iff_iff, decide_eq_true_iff, decide_eq_true_iff]
    constructor
    · intro e2
      exact (h.c x hx a ha).mp (by rw [e, e2])
    · intro r
      rw [← (h.c x hx a ha).mpr r, e]
  have key : ∀ i, i ≤ crew.length → (crew.take i).foldl (rowStep hs crew) [] = ((crew.take i).filter fun x => decide (f x = x)).map (comL hs crew) := fun i => by
    induction i with
    | zero => intro _; rfl
    | succ i ih =>
      intro hi
      have lt : i < crew.length := hi
      have ex : crew[i]? = some crew[i] := List.getElem?_eq_getElem lt
      have xc : crew[i] ∈ crew := List.getElem_mem lt
      rw [List.take_add_one, ex, List.foldl_append, ih (Nat.le_of_lt lt), List.filter_append, List.map_append]
      show rowStep hs crew _ crew[i] = _
      generalize hx : crew[i] = x at ex xc
      have pre : ∀ r ∈ crew.take i, r < x := fun r hr => by
        obtain ⟨j, hj⟩ := List.getElem?_of_mem hr
        rw [List.getElem?_take] at hj
        split at hj
        · rename_i ji
          obtain ⟨j1, j2⟩ := List.getElem?_eq_some_iff.mp hj
          have := (List.pairwise_iff_getElem.mp asc) j i j1 lt ji
          rw [j2, hx] at this
          exact this
        · cases hj
      have bef : ∀ r ∈ crew, r < x → r ∈ crew.take i := fun r hr l => by
        obtain ⟨j, hj⟩ := List.getElem?_of_mem hr
        obtain ⟨j1, j2⟩ := List.getElem?_eq_some_iff.mp hj
        have : j < i := by
          rcases Nat.lt_trichotomy j i with z | z | z
          · exact z
          · subst z
            rw [hx] at j2
            omega
          · have := (List.pairwise_iff_getElem.mp asc) i j lt j1 z
            rw [hx, j2] at this
            omega
        exact List.mem_of_getElem? (i := j) (by rw [List.getElem?_take, if_pos this]; exact hj)
      by_cases e : f x = x
      · have out : x ∉ (((crew.take i).filter fun x => decide (f x = x)).map (comL hs crew)).flatten := fun hm => by
          rw [List.mem_flatten] at hm
          obtain ⟨row, hr, hxr⟩ := hm
          obtain ⟨r, hr2, rfl⟩ := List.mem_map.mp hr
          rw [List.mem_filter, decide_eq_true_iff] at hr2
          have rc := List.mem_of_mem_take hr2.1
          have cr := (mem_comL rc).mp hxr
          have := (h.c r rc x xc).mpr cr
          have := pre r hr2.1
          omega
        unfold rowStep
        rw [if_neg out]
        show _ = _ ++ List.map (comL hs crew) (List.filter _ [x])
        rw [List.filter_cons, decide_eq_true e]
        rfl
      · have hin : x ∈ (((crew.take i).filter fun x => decide (f x = x)).map (comL hs crew)).flatten := by
          obtain ⟨i1, i2⟩ := h.i x xc
          have lt2 : f x < x := by
            have := h.l x xc
            omega
          have ff : f (f x) = f x := ((h.c x xc (f x) i1).mpr i2).symm
          rw [List.mem_flatten]
          refine ⟨comL hs crew (f x), List.mem_map.mpr ⟨f x, List.mem_filter.mpr ⟨bef _ i1 lt2, decide_eq_true ff⟩, rfl⟩, ?_⟩
          exact (mem_comL i1).mpr (con_symm xc i2)
        unfold rowStep
        rw [if_pos hin]
        show _ = _ ++ List.map (comL hs crew) (List.filter _ [x])
        rw [List.filter_cons, decide_eq_false e]
        simp
  have k := key crew.length (Nat.le_refl _)
  rw [List.take_length] at k
  unfold rowsL
  rw [k]
  refine List.map_congr_left fun x hx => ?_
  rw [List.mem_filter, decide_eq_true_iff] at hx
  exact row x hx.1 hx.2
/-! ### the dict of marks -/
def mkD (crew : List Int) (f : Int → Int) : List (Int × Int) := crew.map fun a => (a, f a)
theorem look_mk (f : Int → Int) (k : Int) : ∀ crew : List Int, lookI (mkD crew f) k = if k ∈ crew then some (f k) else none
  | [] => rfl
  | a :: crew => by
    have ih := look_mk f k crew
    unfold lookI mkD at ih ⊢
    rw [List.map_cons, List.find?_cons]
    by_cases h : a = k
    · subst h
      rw [decide_eq_true rfl, if_pos List.mem_cons_self]
      rfl
    · rw [decide_eq_false h]
      show Option.map _ (List.find? _ (crew.map fun a => (a, f a))) = _
      rw [ih]
      by_cases h2 : k ∈ crew
      · rw [if_pos h2, if_pos (List.mem_cons_of_mem _ h2)]
      · rw [if_neg h2, if_neg fun z => (List.mem_cons.mp z).elim (fun e => h e.symm) h2]
theorem put_mk {f : Int → Int} {k v : Int} {crew : List Int} (hk : k ∈ crew) : putI (mkD crew f) k v = mkD crew fun a => if a = k then v else f a := by
  have any : ((mkD crew f).any fun p => decide (p.1 = k)) = true := by
    rw [List.any_eq_true]
    exact ⟨(k, f k), List.mem_map.mpr ⟨k, hk, rfl⟩, decide_eq_true rfl⟩
  unfold putI
  rw [if_pos any]
  unfold mkD
  rw [List.map_map]
  refine List.map_congr_left fun a _ => ?_
  show (if a = k then (a, v) else (a, f a)) = (a, if a = k then v else f a)
  split <;> rfl
theorem put_new {f : Int → Int} {k v : Int} {crew : List Int} (hk : k ∉ crew) : putI (mkD crew f) k v = mkD crew f ++ [(k, v)] := by
  have any : ¬ ((mkD crew f).any fun p => decide (p.1 = k)) = true := fun z => by
    rw [List.any_eq_true] at z
    obtain ⟨p, hp, e⟩ := z
    obtain ⟨a, ha, rfl⟩ := List.mem_map.mp hp
    have e : a = k := of_decide_eq_true e
    exact hk (e ▸ ha)
  unfold putI
  rw [if_neg any]
theorem mk_ext {crew : List Int} {f g : Int → Int} (h : ∀ a ∈ crew, f a = g a) : mkD crew f = mkD crew g := List.map_congr_left fun a ha => by rw [h a ha]
end FL

/-! The law's own districts: what the def does. -/
namespace FL
open PySem PySem.Spec PyProof.Rows L2 KL KG GR KV KS KY RT
open Classical
section
variable {st g h : Sto} {a b o : Ob}
theorem mid_at : (st ++ (a :: g))[st.length]? = some a := by simp
theorem mid_set : (st ++ (a :: g)).set st.length b = st ++ (b :: g) := by simp
theorem mid_app : (st ++ (a :: g)) ++ h = st ++ (a :: (g ++ h)) := by simp
theorem mid_end : (st ++ (a :: (g ++ [o])))[st.length + 1 + g.length]? = some o := by
  rw [List.getElem?_append_right (by omega), show st.length + 1 + g.length - st.length = g.length + 1 by omega, List.getElem?_cons_succ]
  simp
theorem mid_len : (st ++ (a :: g)).length = st.length + 1 + g.length := by simp; omega
end
theorem least_of : ∀ ns : List Int, ns ≠ [] → ∃ m, m ∈ ns ∧ ∀ v ∈ ns, m ≤ v
  | [n], _ => ⟨n, List.mem_cons_self, fun v hv => by rw [List.mem_singleton.mp hv]; exact Int.le_refl _⟩
  | n :: k :: ns, _ => by
    obtain ⟨m, h1, h2⟩ := least_of (k :: ns) (List.cons_ne_nil _ _)
    by_cases c : n ≤ m
    · exact ⟨n, List.mem_cons_self, fun v hv => by
        rcases List.mem_cons.mp hv with rfl | hv
        · exact Int.le_refl _
        · exact Int.le_trans c (h2 v hv)⟩
    · exact ⟨m, List.mem_cons_of_mem _ h1, fun v hv => by
        rcases List.mem_cons.mp hv with rfl | hv
        · omega
        · exact h2 v hv⟩
theorem ev_minL {ρ : Ev} {s : Sto} {ma : ME} {n : Nat} {ns : List Int} {m : Int} (h : Ev' ma ρ s (.l n)) (e : s[n]? = some (.ls (ns.map wI))) (hm : m ∈ ns ∧ ∀ v ∈ ns, m ≤ v) : Ev' (mCB cMinL (aCons ma aNil)) ρ s (wI m) := fun Q q =>
  h _ ⟨_, e, intsD_at rfl ⟨List.length_pos_of_mem hm.1, fun k h1 h2 => by
    have : k = m := Int.le_antisymm (h2 m hm.1) (hm.2 k h1)
    subst this
    exact q⟩⟩
theorem ev_gcLcS {ρ : Ev} {s : Sto} {ma : ME} {mt : MT} {n : Nat} {w : W} {r : List Int} (keep : Int → Bool) (h : Ev' ma ρ s w) (row : isRow w s r) (l : r.length ≤ 1000000) (hn : n < ρ.length) (ht : ∀ x ∈ r, ∀ acc, EvT mt ((wipeE ρ [n]).set n (some (wI x))) (s ++ [.ls acc]) (keep x)) : Ev' (mGc (mCB cTup (aCons (mLc (iSq ma) (gN n) mt (mVar n) [n]) aNil))) ρ s (wR (r.filter keep)) := fun Q q => by
  unfold mGc mCB aCons
  refine lc_sq keep h row l hn ht ?_
  refine ⟨_, app_at, allD_at (bs := (r.filter keep).map .int) (by rw [List.map_map]; rfl) ?_⟩
  exact ⟨s, [_], rfl, Gcd.rfl', trivial, q⟩
def F_lu : List W → Sto → WQ → Prop := fun ws st Q => ∃ (n a : PyData) (hs : List (List Int)) (w : W) (crew : List Int), ws = [.d (.tuple [n, a, dRows hs]), w] ∧ isRow w st crew ∧ crew.length < 64 ∧ Asc crew ∧ (∀ b ∈ hs, b.length ≤ 1000) ∧ Q (.d (dRows (rowsL hs crew))) st
theorem mo_lu : MonoF F_lu := ⟨fun ws st Q Q' f ⟨n, a, hs, w, crew, e, b, c, d, i, q⟩ => ⟨n, a, hs, w, crew, e, b, c, d, i, f _ _ q⟩⟩
def m_lu : MS :=
  (sSeq (sAsg mDNew (gN 2))
      (sSeq (sFor (iSq (mVar 1)) (gN 3)
      (sDPutM (mVar 2) (mVar 3) (mVar 3)))
      (sSeq (sFor (iT (mOp oIxT (mVar 0) (mC (.int 2)))) (gN 4)
      (sSeq (sAsg (mLc (iT (mVar 4)) (gN 3) (mB (mDIn false (mVar 3) (mVar 2))) (mDGet (mVar 2) (mVar 3)) [3]) (gN 5))
      (sFor (iSq (mVar 1)) (gN 3)
      (sIf (mB (mOp (oInI false) (mDGet (mVar 2) (mVar 3)) (mVar 5))) (sDPutM (mVar 2) (mVar 3) (mCB cMinL (aCons (mVar 5) aNil))) sNext))))
      (sRet (mCB cTup (aCons (mLc (iSq (mVar 1)) (gN 6) (mB (mOp oEqI (mDGet (mVar 2) (mVar 6)) (mVar 6))) (mGc (mCB cTup (aCons (mLc (iSq (mVar 1)) (gN 3) (mB (mOp oEqI (mDGet (mVar 2) (mVar 3)) (mVar 6))) (mVar 3) [3]) aNil))) [6]) aNil))))))
theorem do_lu : Does m_lu 2 5 F_lu := by
  rintro ws st Q ⟨n, a, hs, w, crew, rfl, row, hl, asc, hb, q⟩
  have gd0 := row.gd
  refine ⟨rfl, sq_dnew ?_⟩
  refine sq_forI (α := Int) (st1 := st ++ [.dk []]) wI crew (fun i ρ s => ∃ y3, ρ = [some (.d (.tuple [n, a, dRows hs])), some w, some (.l st.length), y3, none, none, none] ∧ s = st ++ [.dk (mkD (crew.take i) id)]) ?_ ⟨none, rfl, rfl⟩ (gd := rowGd w crew) (fun i ρ s h => ?_) ?_ ?_
  · exact wk_sq (ev_var rfl) (row.mv (row_app gd0))
  · obtain ⟨y3, _, rfl⟩ := h
    exact row_app gd0
  · rintro i x ρ s hx ⟨y3, rfl, rfl⟩
    have nx : x ∉ crew.take i := fun hm => by
      obtain ⟨j, hj⟩ := List.getElem?_of_mem hm
      rw [List.getElem?_take] at hj
      split at hj
      · have := nodup_at (asc_nodup asc) hj hx
        omega
      · cases hj
    refine s_dput (k := x) (v := x) (ev_var rfl) app_at (ev_var rfl) (ev_var rfl) ?_ ⟨_, rfl, ?_⟩
    · unfold mkD
      rw [List.length_map, List.length_take]
      omega
    · rw [app_set, put_new nx]
      unfold mkD
      rw [List.take_add_one, hx, List.map_append]
      rfl
  rintro ρ s ⟨y3, rfl, rfl⟩
  rw [List.take_length]
  refine sq_forI (α := List Int) (st1 := st ++ [.dk (mkD crew id)]) wR hs (fun j ρ s => ∃ (f : Int → Int) (y3 y4 y5 : Option W) (g : Sto), ρ = [some (.d (.tuple [n, a, dRows hs])), some w, some (.l st.length), y3, y4, y5, none] ∧ s = st ++ (.dk (mkD crew f) :: g) ∧ Mk (hs.take j) crew f) ?_ ⟨id, y3, none, none, [], rfl, rfl, mk_zero⟩ (gd := fun _ => True) (fun _ _ _ _ => trivial) ?_ ?_
  · exact wk_rows (ev_ixT (x := dRows hs) (ev_var rfl) ev_c rfl)
  · rintro j b ρ s hbj ⟨f, y3, y4, y5, g, rfl, rfl, mk⟩
    have bl := hb b (List.mem_of_getElem? hbj)
    have nxt : hs.take (j + 1) = hs.take j ++ [b] := by rw [List.take_add_one, hbj]; rfl
    obtain ⟨m, hm⟩ : ∃ m : Int, innerL crew b f ≠ [] → m ∈ innerL crew b f ∧ ∀ v ∈ innerL crew b f, m ≤ v := by
      by_cases c : innerL crew b f = []
      · exact ⟨0, fun z => absurd c z⟩
      · obtain ⟨m, h⟩ := least_of _ c
        exact ⟨m, fun _ => h⟩
    have mk2 := mk_step mk hm
    rw [← nxt] at mk2
    have inner : ∀ (r : MS) (E : WE), r [some (.d (.tuple [n, a, dRows hs])), some w, some (.l st.length), y3, some (wR b), some (.l (st.length + 1 + g.length)), none] (st ++ (.dk (mkD crew f) :: (g ++ [.ls ((innerL crew b f).map wI)]))) E → sSeq (sAsg (mLc (iT (mVar 4)) (gN 3) (mB (mDIn false (mVar 3) (mVar 2))) (mDGet (mVar 2) (mVar 3)) [3]) (gN 5)) r [some (.d (.tuple [n, a, dRows hs])), some w, some (.l st.length), y3, some (wR b), y5, none] (st ++ (.dk (mkD crew f) :: g)) E := by
      intro r E hr
      refine lc_map (Q := fun w s => gN 5 w _ s (E.thn r).nx) (α := Int) wI b (fun x => decide (x ∈ crew)) (fun x => wI (f x)) (wk_row (ev_var rfl)) (fun _ => trivial) (by omega) (fun x hx acc Pk Pn h1 h2 => ?_) ?_
      · refine et_b (ev_din (k := x) (n := st.length) (ev_var rfl) (ev_var rfl) (app_lt mid_at)) _ ?_
        by_cases c : x ∈ crew
        · rw [look_mk, if_pos c]
          rw [decide_eq_true c] at h1
          exact ev_dget (n := st.length) (k := x) (v := f x) (ev_var rfl) (app_lt mid_at) (ev_var rfl) (by rw [look_mk, if_pos c]) _ (h1 rfl)
        · rw [look_mk, if_neg c]
          rw [decide_eq_false c] at h2
          exact h2 rfl
      · show r _ _ E
        rw [mid_len, mid_app]
        have e : (b.filter fun x => decide (x ∈ crew)).map (fun x => wI (f x)) = (innerL crew b f).map wI := by
          unfold innerL
          rw [List.map_map]
          rfl
        rw [e]
        exact hr
    refine inner _ _ ?_
    refine s_forI (α := Int) (st1 := st ++ (.dk (mkD crew f) :: (g ++ [.ls ((innerL crew b f).map wI)]))) wI crew (fun k ρ s => ∃ (y3 : Option W), ρ = [some (.d (.tuple [n, a, dRows hs])), some w, some (.l st.length), y3, some (wR b), some (.l (st.length + 1 + g.length)), none] ∧ s = st ++ (.dk (mkD crew fun x => if x ∈ crew.take k then mkStep crew b f m x else f x) :: (g ++ [.ls ((innerL crew b f).map wI)]))) ?_ ⟨y3, rfl, ?_⟩ (gd := rowGd w crew) (fun i ρ s h => ?_) ?_ ?_
    · exact wk_sq (ev_var rfl) (row.mv (row_app gd0))
    · rw [mk_ext (g := fun x => if x ∈ crew.take 0 then mkStep crew b f m x else f x) fun x _ => (if_neg (by rw [List.take_zero]; exact List.not_mem_nil)).symm]
    · obtain ⟨y3, _, rfl⟩ := h
      exact row_app gd0
    · rintro k x ρ s hx ⟨y3, rfl, rfl⟩
      have xc := List.mem_of_getElem? hx
      have nx : x ∉ crew.take k := fun hm => by
        obtain ⟨j, hj⟩ := List.getElem?_of_mem hm
        rw [List.getElem?_take] at hj
        split at hj
        · have := nodup_at (asc_nodup asc) hj hx
          omega
        · cases hj
      have get : lookI (mkD crew fun x => if x ∈ crew.take k then mkStep crew b f m x else f x) x = some (f x) := by rw [look_mk, if_pos xc, if_neg nx]
      have tk : ∀ y, y ∈ crew.take (k + 1) ↔ y ∈ crew.take k ∨ y = x := fun y => by
        rw [List.take_add_one, hx, List.mem_append]
        simp
      refine s_if1 (et_b (ev_inL (i := f x) (n := st.length + 1 + g.length) (ns := innerL crew b f) (ev_dget (n := st.length) (k := x) (ev_var rfl) mid_at (ev_var rfl) get) (ev_var rfl) mid_end)) (fun c => ?_) (fun c => ?_)
      · have c := of_decide_eq_true c
        refine s_dput (n := st.length) (k := x) (v := m) (ev_var rfl) mid_at (ev_var rfl) (ev_minL (n := st.length + 1 + g.length) (ns := innerL crew b f) (ev_var rfl) mid_end (hm fun z => by rw [z] at c; cases c)) ?_ ⟨_, rfl, ?_⟩
        · unfold mkD
          rw [List.length_map]
          omega
        · rw [mid_set, put_mk xc]
          rw [mk_ext (g := fun y => if y ∈ crew.take (k + 1) then mkStep crew b f m y else f y) fun y _ => ?_]
          by_cases e : y = x
          · subst e
            rw [if_pos rfl, if_pos ((tk y).mpr (.inr rfl))]
            exact (if_pos c).symm
          · rw [if_neg e]
            by_cases e2 : y ∈ crew.take k
            · rw [if_pos e2, if_pos ((tk y).mpr (.inl e2))]
            · rw [if_neg e2, if_neg fun z => ((tk y).mp z).elim e2 e]
      · have c := of_decide_eq_false c
        refine ⟨_, rfl, ?_⟩
        rw [mk_ext (g := fun y => if y ∈ crew.take (k + 1) then mkStep crew b f m y else f y) fun y _ => ?_]
        by_cases e : y = x
        · subst e
          rw [if_neg nx, if_pos ((tk y).mpr (.inr rfl))]
          exact (if_neg c).symm
        · by_cases e2 : y ∈ crew.take k
          · rw [if_pos e2, if_pos ((tk y).mpr (.inl e2))]
          · rw [if_neg e2, if_neg fun z => ((tk y).mp z).elim e2 e]
    · rintro ρ s ⟨y3, rfl, rfl⟩
      refine ⟨mkStep crew b f m, _, _, _, g ++ [.ls ((innerL crew b f).map wI)], rfl, ?_, mk2⟩
      rw [mk_ext (g := mkStep crew b f m) fun y hy => ?_]
      rw [List.take_length, if_pos hy]
  rintro ρ s ⟨f, y3, y4, y5, g, rfl, rfl, mk⟩
  rw [List.take_length] at mk
  unfold sRet mCB aCons
  refine lc_map (α := Int) wI crew (fun x => decide (f x = x)) (fun x => wR (crew.filter fun a => decide (f a = x))) (wk_sq (ev_var rfl) (row.mv (row_app gd0))) (fun acc => row_app (row_app gd0)) (by omega) (fun x hx acc Pk Pn h1 h2 => ?_) ?_
  · refine et_b (ev_eqI (i := f x) (j := x) (ev_dget (n := st.length) (k := x) (ev_var rfl) (app_lt mid_at) (ev_var rfl) (by rw [look_mk, if_pos hx])) (ev_var rfl)) _ ?_
    by_cases c : f x = x
    · rw [decide_eq_true c] at h1
      rw [decide_eq_true c, if_pos rfl]
      refine ev_gcLcS (fun a => decide (f a = x)) (ev_var (w := w) rfl) (row.mv (row_app (row_app gd0))) (by omega) (show 3 < 7 by decide) (fun y hy acc2 => ?_) _ (h1 rfl)
      exact et_b (ev_eqI (i := f y) (j := x) (ev_dget (n := st.length) (k := y) (ev_var rfl) (app_lt (app_lt mid_at)) (ev_var rfl) (by rw [look_mk, if_pos hy])) (ev_var rfl))
    · rw [decide_eq_false c] at h2
      rw [decide_eq_false c, if_neg Bool.false_ne_true]
      exact h2 rfl
  · refine ⟨_, app_at, allD_at (bs := (rowsL hs crew).map dInts) ?_ ⟨st, _, by rw [mid_app], Gcd.rfl', trivial, q⟩⟩
    rw [← mk_rows mk asc, List.map_map, List.map_map]
    rfl
end FL

/-! The law's labels. -/
namespace FL
open PySem PySem.Spec PyProof.Rows L2 KL KG GR KV KS KY RT
open Classical
def tailsS : Str := "abcdefghijklmnopqrstuvwxyz0123456789"
theorem str_ext {x y : Str} (h : x.cps.toList = y.cps.toList) : x = y := by
  cases x
  cases y
  exact congrArg Str.mk (Array.toList_inj.mp h)
theorem str_len (x : Str) : x.length = x.cps.toList.length := by
  show x.cps.size = _
  rw [Array.length_toList]
theorem cat_list (x y : Str) : (x ++ y).cps.toList = x.cps.toList ++ y.cps.toList := Array.toList_append
theorem cut1_list {x : Str} {h : Nat} {t : List Nat} (e : x.cps.toList = h :: t) : (cutS x (some 1) none).cps.toList = t := by
  have l : x.length = t.length + 1 := by rw [str_len, e]; rfl
  unfold cutS
  rw [e, l, show HT.sIx (t.length + 1) 0 (some 1) = 1 from (HT.sIx_nat (t.length + 1) 0 1).trans (by omega), HT.sIx_none]
  show (List.take (t.length + 1 - 1) t) = t
  exact List.take_length
/-- a word: a letter, then letters or figures -/
structure Wd (m : Nat) (x : Str) (c : Nat) (t : List Nat) : Prop where
  ex : x.cps.toList = c :: t
  h : c ∈ lettersS.cps.toList
  tl : ∀ d ∈ t, d ∈ tailsS.cps.toList
  l : t.length + 1 ≤ m
theorem wd_one {c : Nat} (h : c ∈ lettersS.cps.toList) : Wd 1 ⟨#[c]⟩ c [] := ⟨rfl, h, (fun d hd => by cases hd), Nat.le_refl _⟩
theorem Wd.more {m : Nat} {x : Str} {c d : Nat} {t : List Nat} (w : Wd m x c t) (h : d ∈ tailsS.cps.toList) : Wd (m + 1) (x ++ ⟨#[d]⟩) c (t ++ [d]) :=
  ⟨by rw [cat_list, w.ex]; rfl, w.h, fun e he => by
    rcases List.mem_append.mp he with he | he
    · exact w.tl e he
    · rw [List.mem_singleton] at he
      subst he
      exact h, by rw [List.length_append]; have := w.l; simp; omega⟩
theorem Wd.up {m n : Nat} {x : Str} {c : Nat} {t : List Nat} (w : Wd m x c t) (h : m ≤ n) : Wd n x c t := ⟨w.ex, w.h, w.tl, Nat.le_trans w.l h⟩
theorem Wd.head {m : Nat} {x : Str} {c d : Nat} {t : List Nat} (w : Wd m x c t) (h : d ∈ lettersS.cps.toList) : Wd m (⟨#[d]⟩ ++ cutS x (some 1) none) d t := ⟨by rw [cat_list, cut1_list w.ex]; rfl, h, w.tl, w.l⟩
theorem Wd.len {m : Nat} {x : Str} {c : Nat} {t : List Nat} (w : Wd m x c t) : x.length ≤ m := by
  rw [str_len, w.ex]
  exact w.l
theorem let_nd : lettersS.cps.toList.Nodup := by decide +kernel
theorem let_len : lettersS.cps.toList.length = 26 := by decide +kernel
theorem tail_len : tailsS.length = 36 := by decide +kernel
theorem tail_kind : ∀ c ∈ tailsS.cps.toList, (letterC c || figureC c) = true := by decide +kernel
theorem let_kind : ∀ c ∈ lettersS.cps.toList, (letterC c || figureC c) = true := by decide +kernel
/-- a word that is taken -/
def badW (tk : List Str) (x : Str) : Prop := x ∈ tk ∨ x ∈ wordsL
/-- what the walk keeps: the word is free, or so many others of the same tail are taken -/
def LbI (tk : List Str) (i : Nat) (x : Str) : Prop := ∃ c t, Wd 8 x c t ∧ (¬ badW tk x ∨ ∀ d ∈ lettersS.cps.toList.take i, ∃ y : Str, y.cps.toList = d :: t ∧ badW tk y)
theorem lb_zero {tk : List Str} {x : Str} {c : Nat} {t : List Nat} (w : Wd 8 x c t) : LbI tk 0 x := ⟨c, t, w, .inr fun d hd => nomatch hd⟩
/-- the walk's step -/
noncomputable def lbStep (tk : List Str) (x : Str) (d : Nat) : Str := if badW tk x then ⟨#[d]⟩ ++ cutS x (some 1) none else x
structure LbJ (tk : List Str) (i : Nat) (x : Str) : Prop where
  ex : ∃ c t, Wd 8 x c t ∧ (¬ badW tk x ∨ i = 0 ∨ (lettersS.cps.toList[i - 1]? = some c ∧ ∀ d ∈ lettersS.cps.toList.take (i - 1), ∃ y : Str, y.cps.toList = d :: t ∧ badW tk y))
theorem lbj_step {tk : List Str} {i d : Nat} {x : Str} (h : LbJ tk i x) (e : lettersS.cps.toList[i]? = some d) : LbJ tk (i + 1) (lbStep tk x d) := by
  obtain ⟨c, t, w, z⟩ := h.ex
  unfold lbStep
  by_cases b : badW tk x
  · rw [if_pos b]
    refine ⟨d, t, w.head (List.mem_of_getElem? e), .inr (.inr ⟨e, ?_⟩)⟩
    show ∀ d ∈ lettersS.cps.toList.take i, _
    rcases z with z | rfl | ⟨z1, z2⟩
    · exact absurd b z
    · exact fun d hd => nomatch hd
    · intro d hd
      cases i with
      | zero => exact nomatch hd
      | succ i =>
        rw [List.take_add_one, List.mem_append] at hd
        rcases hd with hd | hd
        · exact z2 d hd
        · have z1 : lettersS.cps.toList[i]? = some c := z1
          rw [z1] at hd
          have hd : d ∈ [c] := hd
          rw [List.mem_singleton] at hd
          subst hd
          exact ⟨x, w.ex, b⟩
  · rw [if_neg b]
    exact ⟨c, t, w, .inl b⟩
theorem lbj_end {tk : List Str} {x : Str} (h : LbJ tk 26 x) (l : tk.length < 16) : ∃ c t, Wd 8 x c t ∧ ¬ badW tk x := by
  obtain ⟨c, t, w, z⟩ := h.ex
  refine ⟨c, t, w, fun b => ?_⟩
  rcases z with z | z | ⟨z1, z2⟩
  · exact z b
  · cases z
  have all : ∀ d ∈ lettersS.cps.toList, (⟨(d :: t).toArray⟩ : Str) ∈ tk ++ wordsL := fun d hd => by
    have : ∃ y : Str, y.cps.toList = d :: t ∧ badW tk y := by
      have e : lettersS.cps.toList = lettersS.cps.toList.take 25 ++ lettersS.cps.toList.drop 25 := (List.take_append_drop _ _).symm
      rw [e, List.mem_append] at hd
      rcases hd with hd | hd
      · exact z2 d hd
      · have q : lettersS.cps.toList.drop 25 = [c] := by
          have z1 : lettersS.cps.toList[25]? = some c := z1
          have k : lettersS.cps.toList[25]? = some 122 := by decide +kernel
          rw [k] at z1
          obtain rfl := Option.some.inj z1
          decide +kernel
        rw [q, List.mem_singleton] at hd
        subst hd
        exact ⟨x, w.ex, b⟩
    obtain ⟨y, e, hy⟩ := this
    have : y = ⟨(d :: t).toArray⟩ := str_ext e
    subst this
    exact List.mem_append.mpr hy
  have n := GR.nodup_le (lettersS.cps.toList.map fun d => (⟨(d :: t).toArray⟩ : Str)) (tk ++ wordsL) (List.pairwise_map.mpr (let_nd.imp fun {a b} ne z => ne (by
    have := congrArg (fun s : Str => s.cps.toList) z
    have z : a :: t = b :: t := this
    exact (List.cons.inj z).1))) (fun x hx => by
      obtain ⟨d, hd, rfl⟩ := List.mem_map.mp hx
      exact all d hd)
  rw [List.length_map, let_len, List.length_append, show wordsL.length = 9 from rfl] at n
  omega
theorem wd_name {tk : List Str} {x : Str} {c : Nat} {t : List Nat} (w : Wd 8 x c t) (b : ¬ badW tk x) : isNameD (.str x) = true := by
  show (!inV (.str x) (wordsL.map V.str) && ((decide (1 ≤ x.length) && decide (x.length ≤ 8)) && (firstOk x && x.cps.toList.all (fun c => letterC c || figureC c)))) = true
  have l : x.length = t.length + 1 := by rw [str_len, w.ex]; rfl
  have f : firstOk x = true := by
    unfold firstOk
    rw [w.ex]
    exact decide_eq_true w.h
  have a : x.cps.toList.all (fun c => letterC c || figureC c) = true := by
    rw [w.ex, List.all_eq_true]
    intro d hd
    rcases List.mem_cons.mp hd with rfl | hd
    · exact let_kind _ w.h
    · exact tail_kind _ (w.tl d hd)
  have := w.l
  rw [in_strs, decide_eq_false (fun z => b (.inr z)), f, a, decide_eq_true (by omega : 1 ≤ x.length), decide_eq_true (by omega : x.length ≤ 8)]
  rfl
def isStrs (st : Sto) (n : Nat) (ss : List Str) : Prop := st[n]? = some (.ls (ss.map wS))
/-- a new label -/
def F_lb : List W → Sto → WQ → Prop := fun ws st Q => ∃ (s n : Nat) (tk : List Str), ws = [.l s, .l n] ∧ WellAt st s ∧ n ≠ s ∧ st[n]? = some (.ls (tk.map wS)) ∧ tk.length < 16 ∧ ∀ x o, isNameD (.str x) = true → x ∉ tk → isWell o → Q (wS x) (st.set s o)
theorem mo_lb : MonoF F_lb := ⟨fun ws st Q Q' f ⟨s, n, t, e, a, b, c, d, q⟩ => ⟨s, n, t, e, a, b, c, d, fun x o h1 h2 h3 => f _ _ (q x o h1 h2 h3)⟩⟩
def m_lb : MS :=
  (sSeq (sParN 2 (aCons (mC (.str "abcdefghijklmnopqrstuvwxyz")) (aCons (mC (.str "abcdefghijklmnopqrstuvwxyz0123456789")) aNil)) (gsC (gN 2) (gsC (gN 3) gsN)))
      (sSeq (sPar 4 5 (aCons (mOp oIxS (mVar 2) (mCB F_dr (aCons (mVar 0) (aCons (mC (.int 26)) aNil)))) (aCons (mCB F_dr (aCons (mVar 0) (aCons (mC (.int 3)) aNil))) aNil)))
      (sSeq (sIf (mB (mOp oEqI (mVar 5) (mC (.int 2)))) (sAsg (mCB F_dr (aCons (mVar 0) (aCons (mC (.int 8)) aNil))) (gN 5)) sNext)
      (sSeq (sFor (iR1 (aCons (mVar 5) aNil)) (gN 6)
      (sAsg (mOp oCatS (mVar 4) (mOp oIxS (mVar 3) (mCB F_dr (aCons (mVar 0) (aCons (mC (.int 36)) aNil))))) (gN 4)))
      (sSeq (sFor (iS (mVar 2)) (gN 7)
      (sIf (mOr (mB (mOp (oInS false) (mVar 4) (mVar 1))) (mB (mOp (oInS false) (mVar 4) (mTup (aCons (mC (.str "names")) (aCons (mC (.str "arrows")) (aCons (mC (.str "hidden")) (aCons (mC (.str "sizes")) (aCons (mC (.str "lot")) (aCons (mC (.str "table")) (aCons (mC (.str "told")) (aCons (mC (.str "sum")) (aCons (mC (.str "on")) aNil))))))))))))) (sAsg (mOp oCatS (mVar 7) (mSlS (mVar 4) (mPart (mC (.int 1))) mNone)) (gN 4)) sNext))
      (sRet (mVar 4)))))))
theorem sq_parD {ρ : Ev} {st : Sto} {E : WE} {r : MS} {i j s : Nat} {ma mb : ME} {P P' : W → Prop} (ha : Dr ma ρ st s P) (hb : ∀ o, isWell o → Dr mb ρ (st.set s o) s P') (q : ∀ w u o, P w → P' u → isWell o → r ((ρ.set i (some w)).set j (some u)) (st.set s o) E) : sSeq (sPar i j (aCons ma (aCons mb aNil))) r ρ st E :=
  ha _ fun w o ho p => hb o ho _ fun u o' ho' p' => by
    rw [List.set_set]
    exact q w u o' p p' ho'
theorem dr_catS {ρ : Ev} {st : Sto} {s : Nat} {x : Str} {ma mb : ME} {P : W → Prop} (W : WellAt st s) (ha : Ev' ma ρ st (wS x)) (hb : Dr mb ρ st s P) (hp : ∀ w, P w → ∃ y : Str, w = wS y ∧ x.length + y.length ≤ 1000000) : Dr (mOp oCatS ma mb) ρ st s fun w => ∃ y : Str, P (wS y) ∧ w = wS (x ++ y) := fun Q q => ha _ (hb _ fun w o ho p => by
  obtain ⟨y, rfl, l⟩ := hp w p
  exact ⟨l, q _ _ ho ⟨y, p, rfl⟩⟩)
theorem sq_ifSetD {ρ : Ev} {st : Sto} {E : WE} {r : MS} {n s : Nat} {b : Bool} {w0 : W} {mt : MT} {m : ME} {P : W → Prop} (h : EvT mt ρ st b) (W : WellAt st s) (e : ρ[n]? = some (some w0)) (p0 : b = false → P w0) (hm : b = true → Dr m ρ st s P) (q : ∀ w o, P w → isWell o → r (ρ.set n (some w)) (st.set s o) E) : sSeq (sIf mt (sAsg m (gN n)) sNext) r ρ st E :=
  sq_if1 h (fun c => s_setD (hm c) fun w o ho p => q w o p ho) fun c => by
    obtain ⟨o, ho, e1⟩ := W.same
    have z := q w0 o (p0 c) ho
    rw [e1, set_same e] at z
    exact z
theorem sq_parN2 {ρ : Ev} {st : Sto} {E : WE} {r : MS} {i j : Nat} {a : MA} {w u : W} (h : EvA a ρ st [w, u]) (q : r ((ρ.set i (some w)).set j (some u)) st E) : sSeq (sParN 2 a (gsC (gN i) (gsC (gN j) gsN))) r ρ st E := h _ ⟨rfl, by decide, q⟩
theorem do_lb : Does m_lb 2 6 F_lb := by
  rintro ws st Q ⟨s, n, tk, rfl, W0, ns, en, lt, q⟩
  have sl := W0.lt
  refine ⟨rfl, sq_parN2 (ea_cons ev_c (ea_cons ev_c ea_nil)) ?_⟩
  refine sq_parD (s := s) (P := fun w => ∃ c ∈ lettersS.cps.toList, w = wC c) (P' := fun w => ∃ i, w = wI i ∧ 0 ≤ i ∧ i < 3) ?_ (fun o ho => ?_) ?_
  · exact dr_ixS (x := lettersS) W0 (by decide +kernel) (ev_var rfl) (dr_draw (ea_cons (ev_var rfl) (ea_cons ev_c ea_nil)) (by decide) (by decide) W0)
  · exact dr_drawI (ea_cons (ev_var rfl) (ea_cons ev_c ea_nil)) (by decide) (by decide) (W0.next ho) fun r a b => ⟨a, b⟩
  rintro w u o ⟨c, hc, rfl⟩ ⟨i, rfl, i0, i3⟩ ho
  have W1 := W0.next ho
  refine sq_ifSetD (s := s) (w0 := wI i) (P := fun w => ∃ i, w = wI i ∧ 0 ≤ i ∧ i < 8) (et_b (ev_eqI (i := i) (j := 2) (ev_var rfl) ev_c)) W1 rfl (fun _ => ⟨i, rfl, i0, by omega⟩) (fun _ => dr_drawI (ea_cons (ev_var rfl) (ea_cons ev_c ea_nil)) (by decide) (by decide) W1 fun r a b => ⟨a, b⟩) ?_
  rintro w o1 ⟨m, rfl, m0, m8⟩ ho1
  rw [show (st.set s o).set s o1 = st.set s o1 from List.set_set ..]
  refine sq_forI (α := Nat) (st1 := st.set s o1) (fun i => wI (0 + (i : Nat))) (List.range m.toNat) (fun i ρ s' => ∃ (x : Str) (t : List Nat) (o : Ob) (y6 y7 : Option W), ρ = [some (.l s), some (.l n), some (wS lettersS), some (wS tailsS), some (wS x), some (wI m), y6, y7] ∧ isWell o ∧ s' = st.set s o ∧ Wd (i + 1) x c t) (gd := fun _ => True) ?_ ⟨⟨#[c]⟩, [], o1, none, none, rfl, ho1, rfl, wd_one hc⟩ (fun _ _ _ _ => trivial) ?_ ?_
  · refine wk_rng1 (j := m) ?_ ⟨by omega, by omega⟩
    exact ev_var rfl
  · rintro i k ρ s' hx ⟨x, t, o, y6, y7, rfl, ho, rfl, w⟩
    have hi : i < m.toNat := by
      have := (List.getElem?_eq_some_iff.mp hx).1
      rwa [List.length_range] at this
    have W2 := W0.next ho
    have xl := w.len
    refine s_setD (dr_catS (x := x) W2 (ev_var rfl) (dr_ixS (x := tailsS) W2 (by decide +kernel) (ev_var rfl) (dr_draw (s := s) (top := 36) (ea_cons (ev_var rfl) (ea_cons ev_c ea_nil)) (by decide) (by decide) W2)) (fun w ⟨d, _, e⟩ => ⟨_, e, ?_⟩)) ?_
    · show x.length + 1 ≤ _
      omega
    · rintro w' o' ho' ⟨y, ⟨d, hd, e⟩, rfl⟩
      obtain rfl : y = ⟨#[d]⟩ := by
        injection e with e
        injection e
      exact ⟨_, _, o', _, _, rfl, ho', List.set_set .., w.more hd⟩
  · rintro ρ s' ⟨x, t, o, y6, y7, rfl, ho, rfl, w⟩
    rw [List.length_range] at w
    have en' : ∀ o, (st.set s o)[n]? = some (.ls (tk.map wS)) := fun o => by rw [List.getElem?_set_ne ns.symm]; exact en
    refine sq_forI (α := Nat) (st1 := st.set s o) wC lettersS.cps.toList (fun i ρ s' => ∃ (x : Str) (y7 : Option W), ρ = [some (.l s), some (.l n), some (wS lettersS), some (wS tailsS), some (wS x), some (wI m), y6, y7] ∧ s' = st.set s o ∧ LbJ tk i x) (gd := fun _ => True) ?_ ⟨x, y7, rfl, rfl, c, t, w.up (by omega), .inr (.inl rfl)⟩ (fun _ _ _ _ => trivial) ?_ ?_
    · exact wk_str (ev_var rfl)
    · rintro i d ρ s' hx ⟨x, y7, rfl, rfl, J⟩
      obtain ⟨c', t', w', _⟩ := J.ex
      have xl := w'.len
      have nxt := lbj_step J hx
      have tst : EvT (mOr (mB (mOp (oInS false) (mVar 4) (mVar 1))) (mB (mOp (oInS false) (mVar 4) (mTup (aCons (mC (.str "names")) (aCons (mC (.str "arrows")) (aCons (mC (.str "hidden")) (aCons (mC (.str "sizes")) (aCons (mC (.str "lot")) (aCons (mC (.str "table")) (aCons (mC (.str "told")) (aCons (mC (.str "sum")) (aCons (mC (.str "on")) aNil)))))))))))))
          [some (.l s), some (.l n), some (wS lettersS), some (wS tailsS), some (wS x), some (wI m), y6, some (wC d)] (st.set s o) (decide (x ∈ tk) || decide (x ∈ wordsL)) :=
        et_or (et_b (ev_inSL (s := x) (n := n) (ev_var rfl) (ev_var rfl) (en' o))) fun _ => et_b (ev_inST (s := x) (ss := wordsL) (ev_var rfl) (ev_tup (ds := wordsL.map .str) (ea_cons ev_c (ea_cons ev_c (ea_cons ev_c (ea_cons ev_c (ea_cons ev_c (ea_cons ev_c (ea_cons ev_c (ea_cons ev_c (ea_cons ev_c ea_nil))))))))) (by decide)))
      refine s_if1 tst (fun b => ?_) (fun b => ?_)
      · have bad : badW tk x := by
          rw [Bool.or_eq_true, decide_eq_true_iff, decide_eq_true_iff] at b
          exact b
        refine s_set (ev_catS (s := ⟨#[d]⟩) (t := cutS x (some 1) none) (ev_var rfl) (ev_slS (ev_var rfl) (by omega)) ?_) ⟨_, _, rfl, rfl, ?_⟩
        · have := cutS_length x (some 1) none
          show 1 + _ ≤ _
          omega
        · rw [lbStep, if_pos bad] at nxt
          exact nxt
      · have bad : ¬ badW tk x := by
          rw [Bool.or_eq_false_iff, decide_eq_false_iff_not, decide_eq_false_iff_not] at b
          rintro (z | z)
          · exact b.1 z
          · exact b.2 z
        rw [lbStep, if_neg bad] at nxt
        exact ⟨_, _, rfl, rfl, nxt⟩
    · rintro ρ s' ⟨x, y7, rfl, rfl, J⟩
      rw [let_len] at J
      obtain ⟨c', t', w', nb⟩ := lbj_end J lt
      refine s_ret (w := wS x) (ev_var rfl) ⟨st.set s o, [], (List.append_nil _).symm, xs_gc ho, trivial, q x o (wd_name w' nb) (fun z => nb (.inl z)) ho⟩
end FL

/-! What is asked: drawn lots. -/
namespace FL
open PySem PySem.Spec PyProof.Rows L2 KL KG GR KV KS KY RT
open Classical
theorem mem_rgD {n : Int} {x : Int} : x ∈ rgD 0 n ↔ 0 ≤ x ∧ x < n := by
  unfold rgD
  rw [List.mem_map]
  constructor
  · rintro ⟨i, hi, rfl⟩
    rw [List.mem_range] at hi
    omega
  · rintro ⟨h0, h1⟩
    exact ⟨x.toNat, List.mem_range.mpr (by omega), by omega⟩
theorem nd_rgD (n : Int) : (rgD 0 n).Nodup := by
  unfold rgD
  rw [List.nodup_iff_pairwise_ne, List.pairwise_map]
  exact List.nodup_range.imp fun {a b} ne z => ne (by omega)
theorem len_rgD (n : Int) : (rgD 0 n).length = n.toNat := by
  unfold rgD
  rw [List.length_map, List.length_range, Int.sub_zero]
theorem asc_rgD (n : Int) : (rgD 0 n).Pairwise (· < ·) := by
  unfold rgD
  rw [List.pairwise_map]
  exact List.pairwise_lt_range.imp fun {a b} h => by omega
theorem lot_rgD (n : Nat) : LotN n (rgD 0 n) := ⟨asc_rgD n, fun x hx => mem_rgD.mp hx⟩
theorem erase_perm {α : Type} : ∀ {xs : List α} {k : Nat} (h : k < xs.length), (xs.eraseIdx k ++ [xs[k]]).Perm xs
  | x :: xs, 0, _ => List.perm_append_comm (l₁ := xs) (l₂ := [x])
  | x :: xs, k + 1, h => (erase_perm (xs := xs) (k := k) (Nat.lt_of_succ_lt_succ h)).cons x
/-- three parts of a lot -/
structure P3 (many : Int) (os ac im : List Int) : Prop where
  nd : (os ++ (ac ++ im)).Nodup
  mem : ∀ x ∈ os ++ (ac ++ im), 0 ≤ x ∧ x < many
theorem P3.of {m : Int} {os ac im os' ac' im' : List Int} (h : P3 m os ac im) (p : (os' ++ (ac' ++ im')).Perm (os ++ (ac ++ im))) : P3 m os' ac' im' := ⟨p.nodup_iff.mpr h.nd, fun x hx => h.mem x (p.mem_iff.mp hx)⟩
theorem P3.aim {m : Int} {os ac im : List Int} (h : P3 m os ac im) {k : Nat} (hk : k < os.length) : P3 m (os.eraseIdx k) ac (im ++ [os[k]]) := h.of (by
  have e := erase_perm hk
  rw [← List.append_assoc ac im, ← List.append_assoc]
  refine (List.perm_append_comm (l₁ := os.eraseIdx k ++ (ac ++ im)) (l₂ := [os[k]])).trans ?_
  rw [← List.append_assoc]
  exact (List.perm_append_comm.trans e).append_right _)
theorem P3.act {m : Int} {os ac im : List Int} (h : P3 m os ac im) {k : Nat} (hk : k < os.length) : P3 m (os.eraseIdx k) (ac ++ [os[k]]) im := h.of (by
  have e := erase_perm hk
  rw [List.append_assoc ac, ← List.append_assoc (os.eraseIdx k)]
  have e2 : (os.eraseIdx k ++ ac ++ ([os[k]] ++ im)).Perm (os.eraseIdx k ++ [os[k]] ++ (ac ++ im)) := by
    rw [List.append_assoc, List.append_assoc]
    refine List.Perm.append_left _ ?_
    rw [← List.append_assoc, ← List.append_assoc]
    exact List.perm_append_comm.append_right _
  exact e2.trans (e.append_right _))
theorem lt_of_sort {xs : List Int} (h : xs.Nodup) : (isort xs).Pairwise (· < ·) := by
  have nd : (isort xs).Nodup := (isort_perm xs).nodup_iff.mpr h
  have pw := isort_pw xs
  exact (pw.and nd).imp fun {a b} ⟨h1, h2⟩ => by
    have h2 : a ≠ b := h2
    omega
theorem P3.lots {m : Nat} {os ac im : List Int} (h : P3 m os ac im) : LotN m (isort ac) ∧ LotN m (isort im) ∧ ∀ x ∈ isort im, x ∉ isort ac := by
  have n1 := List.nodup_append.mp h.nd
  have n2 := List.nodup_append.mp n1.2.1
  refine ⟨⟨lt_of_sort n2.1, fun x hx => h.mem x ?_⟩, ⟨lt_of_sort n2.2.1, fun x hx => h.mem x ?_⟩, fun x hx hy => ?_⟩
  · rw [(isort_perm _).mem_iff] at hx
    simp [hx]
  · rw [(isort_perm _).mem_iff] at hx
    simp [hx]
  · rw [(isort_perm _).mem_iff] at hx hy
    exact n2.2.2 x hy x hx rfl
/-- an item goes from one list to another -/
theorem s_move {ρ : Ev} {st : Sto} {E : WE} {s : Nat} {o : Ob} {L : Sto} {j : Nat} {mo mp ma : ME} {ms : List Int} {xs : List W} (lt : s < st.length) (ho : isWell o) (hl : ms.length ≤ 1000) (e : L[0]? = some (.ls (ms.map wI))) (ej : L[j]? = some (.ls xs)) (j0 : j ≠ 0) (lx : xs.length ≤ 1000)
    (hp : Ev' mp ρ (Xs st s o L) (.l (st.length + j))) (hm : Ev' mo ρ (Xs st s o L) (.l (st.length + 0))) (ha : Dr ma ρ (Xs st s o L) s (inTop ms.length))
    (q : ∀ (r : Nat) (o' : Ob) (hr : r < ms.length), isWell o' → E.nx ρ (Xs st s o' ((L.set 0 (.ls ((ms.eraseIdx r).map wI))).set j (.ls (xs ++ [wI ms[r]]))))) : sDrop (mBM cApp mp (aCons (mBM cPopAt mo (aCons ma aNil)) aNil)) ρ (Xs st s o L) E := by
  refine hp _ ⟨xs, (xs_loc j).trans ej, ?_⟩
  refine dr_popAt lt ho hl e hm ha fun r o' hr h' => ?_
  refine ⟨xs, ?_, by omega, ?_⟩
  · rw [xs_loc, List.getElem?_set_ne j0.symm, ej]
  · rw [xs_setloc]
    exact q r o' hr h'
theorem s_forR {ρ : Ev} {st : Sto} {E : WE} {s : Nat} {ma : ME} {mg : MG} {mb : MS} {P : Int → Prop} (h : Dr ma ρ st s fun w => ∃ j, w = wI j ∧ P j) (q : ∀ j o, P j → isWell o → sFor (iR1 (aCons (mC (.int j)) aNil)) mg mb ρ (st.set s o) E) : sFor (iR1 (aCons ma aNil)) mg mb ρ st E := h _ fun w o ho ⟨j, e, p⟩ => by
  subst e
  exact q j o p ho
theorem sq_forR {ρ : Ev} {st : Sto} {E : WE} {r : MS} {s : Nat} {ma : ME} {mg : MG} {mb : MS} {P : Int → Prop} (h : Dr ma ρ st s fun w => ∃ j, w = wI j ∧ P j) (q : ∀ j o, P j → isWell o → sSeq (sFor (iR1 (aCons (mC (.int j)) aNil)) mg mb) r ρ (st.set s o) E) : sSeq (sFor (iR1 (aCons ma aNil)) mg mb) r ρ st E := s_forR (E := E.thn r) h q
theorem dr_min {ρ : Ev} {st : Sto} {s : Nat} {ma mb : ME} {i : Int} {P : W → Prop} (ha : Ev' ma ρ st (wI i)) (hb : Dr mb ρ st s P) (i0 : 0 ≤ i) (hp : ∀ w, P w → ∃ j, w = wI j ∧ 0 ≤ j) : Dr (mCB cMin2 (aCons ma (aCons mb aNil))) ρ st s fun w => ∃ j, w = wI j ∧ 0 ≤ j ∧ j ≤ i := fun Q q => ha _ (hb _ fun w o ho p => by
  obtain ⟨j, rfl, j0⟩ := hp w p
  refine q _ o ho ⟨_, rfl, ?_⟩
  show 0 ≤ (if j < i then j else i) ∧ (if j < i then j else i) ≤ i
  split <;> omega)
theorem dr_pick {ρ : Ev} {st : Sto} {s : Nat} {a : MA} {ds : List PyData} (h : EvA a ρ st [.l s, .d (.tuple ds)]) (ne : ds ≠ []) (l : ds.length ≤ 1000000) (w : WellAt st s) : Dr (mCB F_pk a) ρ st s fun w => ∃ x ∈ ds, w = .d x := fun Q q => h _ ⟨s, ds, rfl, ne, l, w, fun x o hx ho => q _ o ho ⟨x, hx, rfl⟩⟩
theorem et_neNil {ρ : Ev} {s : Sto} {ma : ME} {n : Nat} {F : List Int} (h : Ev' ma ρ s (.l n)) (e : s[n]? = some (.ls (F.map wI))) : EvT (mGcT (mB (mOp (oEqD true) ma (mLst aNil)))) ρ s (!decide (F = [])) := fun R q => by
  unfold mGcT mB mOp
  refine h _ ?_
  refine ⟨by decide, ⟨_, app_lt e, allD_at (bs := F.map .int) (by rw [List.map_map]; rfl) ⟨[], app_at, shp_intsL _, shp_intsL [], ?_⟩⟩⟩
  refine ⟨s, [_], rfl, Gcd.rfl', ?_⟩
  show R (if true = true then !PyData.eqv (.list (F.map .int)) (.list []) else _) s
  rw [if_pos rfl, eqv_nil]
  exact q
theorem sq_par3Rg {ρ : Ev} {st : Sto} {E : WE} {r : MS} {i j k : Nat} {ma : ME} {n : Int} (h : Ev' ma ρ st (wI n)) (hb : RgOk 0 n) (q : r (((ρ.set i (some (.l st.length))).set j (some (.l (st.length + 1)))).set k (some (.l (st.length + 2)))) (st ++ [.ls ((rgD 0 n).map wI), .ls [], .ls []]) E) : sSeq (sPar3 i j k (aCons (mLstRg (mRg1 ma)) (aCons (mLst aNil) (aCons (mLst aNil) aNil)))) r ρ st E :=
  h _ ⟨hb, by decide, by decide, by
    show r (((ρ.set i (some (.l st.length))).set j (some (.l (st ++ [Ob.ls ((rgD 0 n).map wI)]).length))).set k (some (.l (st ++ [Ob.ls ((rgD 0 n).map wI)] ++ [Ob.ls []]).length))) (st ++ [Ob.ls ((rgD 0 n).map wI)] ++ [Ob.ls []] ++ [Ob.ls []]) E
    rw [len1, app11, len2, app21]
    exact q⟩
def F_as : List W → Sto → WQ → Prop := fun ws st Q => ∃ (s many : Nat), ws = [.l s, wI many] ∧ 1 ≤ many ∧ many ≤ 8 ∧ WellAt st s ∧ ∀ a i o, LotN many a → LotN many i → i ≠ [] → (∀ x ∈ i, x ∉ a) → isWell o → Q (.d (.tuple [dInts a, dInts i])) (st.set s o)
theorem mo_as : MonoF F_as := ⟨fun ws st Q Q' f ⟨s, n, e, a, b, c, q⟩ => ⟨s, n, e, a, b, c, fun x y o h1 h2 h3 h4 h5 => f _ _ (q x y o h1 h2 h3 h4 h5)⟩⟩
def m_as : MS :=
  (sSeq (sPar3 2 3 4 (aCons (mLstRg (mRg1 (mVar 1))) (aCons (mLst aNil) (aCons (mLst aNil) aNil))))
      (sSeq (sDrop (mBM cApp (mVar 4) (aCons (mBM cPopAt (mVar 2) (aCons (mOp oSub (mOp oSub (mVar 1) (mC (.int 1))) (mCB F_dr (aCons (mVar 0) (aCons (mOp oFdiv (mOp oAdd (mVar 1) (mC (.int 1))) (mC (.int 2))) aNil)))) aNil)) aNil)))
      (sSeq (sFor (iR1 (aCons (mCB cMin2 (aCons (mCB cLen (aCons (mVar 2) aNil)) (aCons (mCB F_pk (aCons (mVar 0) (aCons (mTup (aCons (mC (.int 1)) (aCons (mC (.int 1)) (aCons (mC (.int 2)) (aCons (mC (.int 0)) (aCons (mC (.int 1)) (aCons (mC (.int 3)) aNil))))))) aNil))) aNil))) aNil)) (gN 5)
      (sDrop (mBM cApp (mVar 3) (aCons (mBM cPopAt (mVar 2) (aCons (mCB F_dr (aCons (mVar 0) (aCons (mCB cLen (aCons (mVar 2) aNil)) aNil))) aNil)) aNil))))
      (sSeq (sIf (mAnd (mGcT (mB (mOp (oEqD true) (mVar 2) (mLst aNil)))) (mB (mOp oEqI (mCB F_dr (aCons (mVar 0) (aCons (mC (.int 3)) aNil))) (mC (.int 0))))) (sDrop (mBM cApp (mVar 4) (aCons (mBM cPopAt (mVar 2) (aCons (mCB F_dr (aCons (mVar 0) (aCons (mCB cLen (aCons (mVar 2) aNil)) aNil))) aNil)) aNil))) sNext)
      (sRet (mTup (aCons (mGc (mCB cTup (aCons (mCB cSort (aCons (mVar 3) aNil)) aNil))) (aCons (mGc (mCB cTup (aCons (mCB cSort (aCons (mVar 4) aNil)) aNil))) aNil))))))))
abbrev L3 (os ac im : List Int) : Sto := [.ls (os.map wI), .ls (ac.map wI), .ls (im.map wI)]
theorem s_moveI {ρ : Ev} {st : Sto} {E : WE} {s : Nat} {o : Ob} {mo mp ma : ME} {os ac im : List Int} (lt : s < st.length) (ho : isWell o) (hl : os.length ≤ 1000) (lx : im.length ≤ 1000)
    (hp : Ev' mp ρ (Xs st s o (L3 os ac im)) (.l (st.length + 2))) (hm : Ev' mo ρ (Xs st s o (L3 os ac im)) (.l (st.length + 0))) (ha : Dr ma ρ (Xs st s o (L3 os ac im)) s (inTop os.length))
    (q : ∀ (r : Nat) (o' : Ob) (hr : r < os.length), isWell o' → E.nx ρ (Xs st s o' (L3 (os.eraseIdx r) ac (im ++ [os[r]])))) : sDrop (mBM cApp mp (aCons (mBM cPopAt mo (aCons ma aNil)) aNil)) ρ (Xs st s o (L3 os ac im)) E :=
  s_move (j := 2) (xs := im.map wI) lt ho hl rfl rfl (by decide) (by rw [List.length_map]; exact lx) hp hm ha fun r o' hr h' => by
    have z := q r o' hr h'
    rw [L3, List.map_append] at z
    exact z
theorem s_moveA {ρ : Ev} {st : Sto} {E : WE} {s : Nat} {o : Ob} {mo mp ma : ME} {os ac im : List Int} (lt : s < st.length) (ho : isWell o) (hl : os.length ≤ 1000) (lx : ac.length ≤ 1000)
    (hp : Ev' mp ρ (Xs st s o (L3 os ac im)) (.l (st.length + 1))) (hm : Ev' mo ρ (Xs st s o (L3 os ac im)) (.l (st.length + 0))) (ha : Dr ma ρ (Xs st s o (L3 os ac im)) s (inTop os.length))
    (q : ∀ (r : Nat) (o' : Ob) (hr : r < os.length), isWell o' → E.nx ρ (Xs st s o' (L3 (os.eraseIdx r) (ac ++ [os[r]]) im))) : sDrop (mBM cApp mp (aCons (mBM cPopAt mo (aCons ma aNil)) aNil)) ρ (Xs st s o (L3 os ac im)) E :=
  s_move (j := 1) (xs := ac.map wI) lt ho hl rfl rfl (by decide) (by rw [List.length_map]; exact lx) hp hm ha fun r o' hr h' => by
    have z := q r o' hr h'
    rw [L3, List.map_append] at z
    exact z
theorem sq_moveI {ρ : Ev} {st : Sto} {E : WE} {r : MS} {s : Nat} {o : Ob} {mo mp ma : ME} {os ac im : List Int} (lt : s < st.length) (ho : isWell o) (hl : os.length ≤ 1000) (lx : im.length ≤ 1000)
    (hp : Ev' mp ρ (Xs st s o (L3 os ac im)) (.l (st.length + 2))) (hm : Ev' mo ρ (Xs st s o (L3 os ac im)) (.l (st.length + 0))) (ha : Dr ma ρ (Xs st s o (L3 os ac im)) s (inTop os.length))
    (q : ∀ (k : Nat) (o' : Ob) (hr : k < os.length), isWell o' → r ρ (Xs st s o' (L3 (os.eraseIdx k) ac (im ++ [os[k]]))) E) : sSeq (sDrop (mBM cApp mp (aCons (mBM cPopAt mo (aCons ma aNil)) aNil))) r ρ (Xs st s o (L3 os ac im)) E := sq (s_moveI lt ho hl lx hp hm ha q)
theorem P3.few {m : Nat} {os ac im : List Int} (h : P3 m os ac im) : os.length ≤ m ∧ ac.length ≤ m ∧ im.length ≤ m := by
  have l := FL.nodup_le (ys := rgD 0 (m : Int)) h.nd fun x hx => mem_rgD.mpr (h.mem x hx)
  rw [len_rgD, List.length_append, List.length_append] at l
  omega
theorem do_as : Does m_as 2 4 F_as := by
  rintro ws st Q ⟨s, many, rfl, m1, m8, W0, q⟩
  have lt := W0.lt
  obtain ⟨o0, h0, e0⟩ := W0.same
  refine ⟨rfl, sq_par3Rg (n := many) (ev_var rfl) ⟨by decide, by decide, by omega, by omega⟩ ?_⟩
  have p0 : P3 many (rgD 0 many) [] [] := ⟨by rw [List.append_nil, List.append_nil]; exact nd_rgD _, fun x hx => by rw [List.append_nil, List.append_nil] at hx; exact mem_rgD.mp hx⟩
  have l0 : (rgD 0 (many : Int)).length = many := by rw [len_rgD]; omega
  generalize rgD 0 (many : Int) = os0 at p0 l0
  have e1 : st ++ [Ob.ls (os0.map wI), .ls [], .ls []] = Xs st s o0 (L3 os0 [] []) := by rw [Xs, e0]; rfl
  rw [e1]
  have W1 := xs_well (L := L3 os0 [] []) lt h0
  refine sq_moveI lt h0 (by omega) (by decide) (ev_var rfl) (ev_var rfl) ?_ ?_
  · rw [l0]
    refine dr_sub (Q1 := fun i => i = (many : Int) - 1) (Q2 := fun i => 0 ≤ i ∧ i < ((many : Int) + 1) / 2) (R := fun i => 0 ≤ i ∧ i < (many : Int)) W1 ?_ (fun o ho => ?_) (fun i j h1 h2 => by omega)
    · refine dr_int ?_ W1 rfl
      exact ev_sub (ev_var rfl) ev_c
    · refine dr_drawI (top := ((many : Int) + 1) / 2) ?_ (by omega) (by omega) (W1.next ho) fun r a b => ⟨a, b⟩
      exact ea_cons (ev_var rfl) (ea_cons (ev_fdiv (ev_add (ev_var rfl) ev_c) ev_c ⟨by decide, by decide⟩) ea_nil)
  rintro r0 o1 hr0 h1
  have p1 := p0.aim hr0
  have l1 : (os0.eraseIdx r0).length = many - 1 := by rw [List.length_eraseIdx, if_pos hr0, l0]
  have n1 : ([] : List Int) ++ [os0[r0]] ≠ [] := by simp
  generalize os0.eraseIdx r0 = os1 at p1 l1
  generalize ([] : List Int) ++ [os0[r0]] = im1 at p1 n1
  clear p0
  have W2 := xs_well (L := L3 os1 [] im1) lt h1
  refine sq_forR (s := s) (P := fun j => 0 ≤ j ∧ j ≤ (os1.length : Nat)) (dr_min (P := fun w => ∃ x ∈ [PyData.int 1, .int 1, .int 2, .int 0, .int 1, .int 3], w = .d x) ?_ (dr_pick ?_ (by decide) (by decide) W2) (by omega) ?_) ?_
  · exact ev_lenLI (n := st.length + 0) (ev_var rfl) ((xs_loc 0).trans rfl)
  · refine ea_cons (ev_var rfl) (ea_cons ?_ ea_nil)
    exact ev_tup (ds := [PyData.int 1, .int 1, .int 2, .int 0, .int 1, .int 3]) (ea_cons ev_c (ea_cons ev_c (ea_cons ev_c (ea_cons ev_c (ea_cons ev_c (ea_cons ev_c ea_nil)))))) (by decide)
  · rintro w ⟨x, hx, rfl⟩
    simp only [List.mem_cons, List.not_mem_nil, or_false] at hx
    rcases hx with rfl | rfl | rfl | rfl | rfl | rfl <;> exact ⟨_, rfl, by decide⟩
  rintro j o2 ⟨hj0, hj⟩ h2
  rw [xs_set lt]
  refine sq_forI (α := Nat) (st1 := Xs st s o2 (L3 os1 [] im1)) (fun i => wI (0 + (i : Nat))) (List.range j.toNat) (fun i ρ s' => ∃ (os ac : List Int) (o : Ob) (y : Option W), ρ = [some (.l s), some (wI many), some (.l (st.length + 0)), some (.l (st.length + 1)), some (.l (st.length + 2)), y] ∧ isWell o ∧ s' = Xs st s o (L3 os ac im1) ∧ P3 many os ac im1 ∧ os.length + i = os1.length) (gd := fun _ => True) ?_ ⟨os1, [], o2, none, rfl, h2, rfl, p1, rfl⟩ (fun _ _ _ _ => trivial) ?_ ?_
  · refine wk_rng1 (j := j) ?_ ⟨by omega, by omega⟩
    exact ev_c
  · rintro i k ρ s' hx ⟨os, ac, o, y, rfl, ho, rfl, p, l⟩
    have hi : i < j.toNat := by
      have := (List.getElem?_eq_some_iff.mp hx).1
      rwa [List.length_range] at this
    obtain ⟨f1, f2, f3⟩ := p.few
    have W3 := xs_well (L := L3 os ac im1) lt ho
    refine s_moveA lt ho (by omega) (by omega) (ev_var rfl) (ev_var rfl) ?_ ?_
    · refine dr_draw ?_ (by omega) (by omega) W3
      exact ea_cons (ev_var rfl) (ea_cons (ev_lenLI (n := st.length + 0) (ev_var rfl) ((xs_loc 0).trans rfl)) ea_nil)
    · rintro r o' hr h'
      refine ⟨_, _, o', _, rfl, h', rfl, p.act hr, ?_⟩
      rw [List.length_eraseIdx, if_pos hr]
      omega
  · rintro ρ s' ⟨os, ac, o, y, rfl, ho, rfl, p, l⟩
    clear l
    have fin : ∀ (os im : List Int) (o : Ob), isWell o → im ≠ [] → P3 many os ac im → sRet (mTup (aCons (mGc (mCB cTup (aCons (mCB cSort (aCons (mVar 3) aNil)) aNil))) (aCons (mGc (mCB cTup (aCons (mCB cSort (aCons (mVar 4) aNil)) aNil))) aNil))) [some (.l s), some (wI many), some (.l (st.length + 0)), some (.l (st.length + 1)), some (.l (st.length + 2)), y] (Xs st s o (L3 os ac im)) { nx := fun _ s => ∃ s0 g, s = s0 ++ g ∧ Gcd st s0 ∧ Q (.d .none) s0, rt := fun w s => ∃ s0 g, s = s0 ++ g ∧ Gcd st s0 ∧ okW s0.length w ∧ Q w s0 } := by
      intro os im o ho ni p
      obtain ⟨f1, f2, f3⟩ := p.few
      obtain ⟨q1, q2, q3⟩ := p.lots
      refine s_ret (ev_tup (ds := [dInts (isort ac), dInts (isort im)]) (ea_cons (ev_gcSort (n := st.length + 1) (ev_var rfl) ((xs_loc 1).trans rfl) (by omega)) (ea_cons (ev_gcSort (n := st.length + 2) (ev_var rfl) ((xs_loc 2).trans rfl) (by omega)) ea_nil)) (show 2 ≤ 1000000 by decide)) (xs_end ho (q _ _ o q1 q2 (fun z => ni ?_) q3 ho))
      have := isort_perm im
      rw [z] at this
      exact this.symm.eq_nil
    have W3 := xs_well (L := L3 os ac im1) lt ho
    obtain ⟨f1, f2, f3⟩ := p.few
    have t1 : EvT (mGcT (mB (mOp (oEqD true) (mVar 2) (mLst aNil)))) [some (.l s), some (wI many), some (.l (st.length + 0)), some (.l (st.length + 1)), some (.l (st.length + 2)), y] (Xs st s o (L3 os ac im1)) (!decide (os = [])) := et_neNil (n := st.length + 0) (ev_var rfl) ((xs_loc 0).trans rfl)
    by_cases c : os = []
    · rw [decide_eq_true c] at t1
      refine sq_if1 (b := false) (et_and t1 (c := true) (fun z => by cases z)) (fun z => by cases z) fun _ => fin os im1 o ho n1 p
    · rw [decide_eq_false c] at t1
      have pos : 0 < os.length := List.length_pos_iff.mpr c
      refine sq_ifD1 (s := s) (drT_and W3 (drT_ev t1 W3) fun o' ho' => ?_) (fun o' ho' => ?_) (fun o' ho' => ?_)
      · refine drT_cmp (f := fun i j => decide (i = j)) (top := 3) (j := 0) (W3.next ho') ?_ (fun _ _ => ev_c)
        refine dr_draw ?_ (by decide) (by decide) (W3.next ho')
        exact ea_cons (ev_var rfl) (ea_cons ev_c ea_nil)
      · rw [xs_set lt]
        have W4 := xs_well (L := L3 os ac im1) lt ho'
        refine s_moveI lt ho' (by omega) (by omega) (ev_var rfl) (ev_var rfl) ?_ ?_
        · refine dr_draw ?_ (by omega) (by omega) W4
          exact ea_cons (ev_var rfl) (ea_cons (ev_lenLI (n := st.length + 0) (ev_var rfl) ((xs_loc 0).trans rfl)) ea_nil)
        · rintro r o'' hr h''
          exact fin _ _ o'' h'' (by simp) (p.aim hr)
      · rw [xs_set lt]
        exact fin os im1 o' ho' n1 p
end FL

/-! A drawn graph. -/
namespace FL
open PySem PySem.Spec PyProof.Rows L2 KL KG GR KV KS KY RT
open Classical
abbrev LG (lb : List Str) (ed ho : List (List Int)) : Sto := [.ls (lb.map wS), .ls (ed.map wR), .ls (ho.map wR)]
/-- a drawn item goes to a list's end -/
theorem s_appD {ρ : Ev} {st : Sto} {E : WE} {s : Nat} {o : Ob} {L : Sto} {k : Nat} {mp ma : ME} {xs : List W} {P : W → Prop} (lt : s < st.length) (e : L[k]? = some (.ls xs)) (lx : xs.length < 1000000)
    (hp : Ev' mp ρ (Xs st s o L) (.l (st.length + k))) (ha : Dr ma ρ (Xs st s o L) s P)
    (q : ∀ w o', isWell o' → P w → E.nx ρ (Xs st s o' (L.set k (.ls (xs ++ [w]))))) : sDrop (mBM cApp mp (aCons ma aNil)) ρ (Xs st s o L) E :=
  hp _ ⟨xs, (xs_loc k).trans e, ha _ fun w o' h' p => by
    rw [xs_set lt]
    refine ⟨xs, (xs_loc k).trans e, lx, ?_⟩
    rw [xs_setloc]
    exact q w o' h' p⟩
theorem dr_label {ρ : Ev} {st : Sto} {s n : Nat} {a : MA} {tk : List Str} (h : EvA a ρ st [.l s, .l n]) (ns : n ≠ s) (e : st[n]? = some (.ls (tk.map wS))) (l : tk.length < 16) (w : WellAt st s) : Dr (mCB F_lb a) ρ st s fun w => ∃ x, w = wS x ∧ isNameD (.str x) = true ∧ x ∉ tk := fun Q q => h _ ⟨s, n, tk, rfl, w, ns, e, l, fun x o h1 h2 ho => q _ o ho ⟨x, rfl, h1, h2⟩⟩
theorem dr_ifE {ρ : Ev} {st : Sto} {s : Nat} {b : Bool} {mt : MT} {ma mb : ME} {P : W → Prop} (h : EvT mt ρ st b) (ha : b = true → Dr ma ρ st s P) (hb : b = false → Dr mb ρ st s P) : Dr (mIf mt ma mb) ρ st s P := fun Q q => h _ (by
  cases b with
  | true => exact ha rfl Q q
  | false => exact hb rfl Q q)
theorem sq_par5 {ρ : Ev} {st : Sto} {E : WE} {r : MS} {s i j a b c : Nat} {ma mb : ME} {P P' : W → Prop} (ha : Dr ma ρ st s P) (hb : ∀ o, isWell o → Dr mb ρ (st.set s o) s P') (q : ∀ w u o, P w → P' u → isWell o → r (((((ρ.set i (some w)).set j (some u)).set a (some (.l (st.length + 0)))).set b (some (.l (st.length + 1)))).set c (some (.l (st.length + 2)))) (Xs st s o (LG [] [] [])) E) :
    sSeq (sParN 5 (aCons ma (aCons mb (aCons (mLst aNil) (aCons (mLst aNil) (aCons (mLst aNil) aNil))))) (gsC (gN i) (gsC (gN j) (gsC (gN a) (gsC (gN b) (gsC (gN c) gsN)))))) r ρ st E :=
  ha _ fun w o ho p => hb o ho _ fun u o' ho' p' => ⟨by decide, by decide, by decide, rfl, by decide, by
    have z := q w u o' p p' ho'
    show r (((((ρ.set i (some w)).set j (some u)).set a (some (.l (List.length ((st.set s o).set s o'))))).set b (some (.l ((st.set s o).set s o' ++ [Ob.ls []]).length))).set c (some (.l ((st.set s o).set s o' ++ [Ob.ls []] ++ [Ob.ls []]).length))) ((st.set s o).set s o' ++ [Ob.ls []] ++ [Ob.ls []] ++ [Ob.ls []]) E
    rw [len1, app11, len2, app21, List.length_set, List.length_set, List.set_set]
    exact z⟩
/-- pairs in order, before a place -/
structure EdP (n : Nat) (b : List Int) (ed : List (List Int)) : Prop where
  pw : ed.Pairwise fun x y => ltI x y = true
  lt : ∀ r ∈ ed, ltI r b = true
  ok : ∀ r ∈ ed, LotN n r ∧ r.length = 2
theorem edp0 {n : Nat} {b : List Int} : EdP n b [] := ⟨List.Pairwise.nil, (fun r hr => by cases hr), (fun r hr => by cases hr)⟩
theorem lg0 {lb : List Str} {ed ho : List (List Int)} {x : Str} : (LG lb ed ho).set 0 (.ls (lb.map wS ++ [wS x])) = LG (lb ++ [x]) ed ho := by
  show [Ob.ls (lb.map wS ++ [wS x]), _, _] = [Ob.ls ((lb ++ [x]).map wS), _, _]
  rw [List.map_append]
  rfl
theorem lg1 {lb : List Str} {ed ho : List (List Int)} {x : List Int} : (LG lb ed ho).set 1 (.ls (ed.map wR ++ [wR x])) = LG lb (ed ++ [x]) ho := by
  show [_, Ob.ls (ed.map wR ++ [wR x]), _] = [_, Ob.ls ((ed ++ [x]).map wR), _]
  rw [List.map_append]
  rfl
theorem lg2 {lb : List Str} {ed ho : List (List Int)} {x : List Int} : (LG lb ed ho).set 2 (.ls (ho.map wR ++ [wR x])) = LG lb ed (ho ++ [x]) := by
  show [_, _, Ob.ls (ho.map wR ++ [wR x])] = [_, _, Ob.ls ((ho ++ [x]).map wR)]
  rw [List.map_append]
  rfl
theorem EdP.up {n : Nat} {b c : List Int} {ed : List (List Int)} (h : EdP n b ed) (l : ltI b c = true) : EdP n c ed := ⟨h.pw, fun r hr => ltI_trans (h.lt r hr) l, h.ok⟩
theorem EdP.snoc {n : Nat} {a b : Int} {ed : List (List Int)} (h : EdP n [a, b] ed) (h0 : 0 ≤ a) (h1 : a < b) (h2 : b < n) : EdP n [a, b + 1] (ed ++ [[a, b]]) :=
  ⟨List.pairwise_append.mpr ⟨h.pw, List.pairwise_singleton _ _, fun x hx y hy => by
    rw [List.mem_singleton] at hy
    subst hy
    exact h.lt x hx⟩, fun r hr => by
    rcases List.mem_append.mp hr with hr | hr
    · exact ltI_trans (h.lt r hr) (pair_lt (.inr ⟨rfl, by omega⟩))
    · rw [List.mem_singleton] at hr
      subst hr
      exact pair_lt (.inr ⟨rfl, by omega⟩), fun r hr => by
    rcases List.mem_append.mp hr with hr | hr
    · exact h.ok r hr
    · rw [List.mem_singleton] at hr
      subst hr
      refine ⟨⟨by simp [h1], fun x hx => ?_⟩, rfl⟩
      simp only [List.mem_cons, List.not_mem_nil, or_false] at hx
      rcases hx with rfl | rfl <;> omega⟩
theorem EdP.arr {n : Nat} {b : List Int} {ed : List (List Int)} (h : EdP n b ed) : ArrN n ed := ⟨h.pw, h.ok⟩
/-- lots drawn: each once -/
structure HoP (n k : Nat) (ho : List (List Int)) : Prop where
  nd : ho.Nodup
  ok : ∀ r ∈ ho, LotN n r ∧ 2 ≤ r.length
  l : ho.length ≤ k
theorem HoP.snoc {n k : Nat} {r : List Int} {ho : List (List Int)} (h : HoP n k ho) (lr : LotN n r) (l2 : 2 ≤ r.length) (nr : r ∉ ho) : HoP n (k + 1) (ho ++ [r]) :=
  ⟨List.nodup_append.mpr ⟨h.nd, by simp, fun x hx y hy e => by
    rw [List.mem_singleton] at hy
    subst hy
    subst e
    exact nr hx⟩, fun x hx => by
    rcases List.mem_append.mp hx with hx | hx
    · exact h.ok x hx
    · rw [List.mem_singleton] at hx
      subst hx
      exact ⟨lr, l2⟩, by rw [List.length_append]; have := h.l; simp; omega⟩
theorem HoP.up {n k j : Nat} {ho : List (List Int)} (h : HoP n k ho) (l : k ≤ j) : HoP n j ho := ⟨h.nd, h.ok, Nat.le_trans h.l l⟩
theorem HoP.hid {n k : Nat} {ho ms : List (List Int)} (h : HoP n k ho) (k28 : k ≤ 28) (p : ms.Perm ho) (pw : ms.Pairwise fun x y => ltI y x = false) : HidN n ms :=
  ⟨(pw.and (p.nodup_iff.mpr h.nd)).imp fun {a b} ⟨h1, h2⟩ => ltI_tri h1 h2, by rw [p.length_eq]; exact Nat.le_trans h.l k28, fun r hr => h.ok r (p.mem_iff.mp hr)⟩
theorem lot_subR {n : Nat} {ms : List Int} (h : ms.Sublist (rgD 0 (n : Int))) : LotN n ms := ⟨(asc_rgD n).sublist h, fun x hx => mem_rgD.mp (h.subset hx)⟩
theorem dr_few {ρ : Ev} {st : Sto} {s n : Nat} {mo mn ma : ME} {P : Int → Prop} (W : WellAt st s) (ho : Ev' mo ρ st (.l s)) (hn : Ev' mn ρ st (wI n)) (n8 : n ≤ 8) (ha : ∀ u, Dr ma ρ (st ++ [.ls u]) s fun w => ∃ k, w = wI k ∧ P k) (hP : ∀ k, P k → 0 ≤ k) :
    Dr (mGc (mCB F_fe (aCons mo (aCons (mLstRg (mRg1 mn)) (aCons ma aNil))))) ρ st s fun w => ∃ ms k, w = wR ms ∧ P k ∧ ms.Sublist (rgD 0 (n : Int)) ∧ ms.length = min n k.toNat := fun Q q => by
  have lt := W.lt
  unfold mGc mCB aCons
  refine ho _ (hn _ ⟨⟨by decide, by decide, by omega, by omega⟩, ha _ _ ?_⟩)
  rintro w o h ⟨k, rfl, p⟩
  have e1 : (st ++ [Ob.ls ((rgD 0 (n : Int)).map wI)]).set s o = st.set s o ++ [Ob.ls ((rgD 0 (n : Int)).map wI)] := List.set_append_left _ _ lt
  refine ⟨s, _, rgD 0 (n : Int), k, rfl, .inr ⟨st.length, rfl, by omega, ?_⟩, by rw [len_rgD]; omega, hP k p, ?_, ?_⟩
  · rw [e1, List.getElem?_append_right (by rw [List.length_set]; exact Nat.le_refl _), List.length_set, Nat.sub_self]
    rfl
  · rw [e1]
    exact ⟨o, by rw [List.getElem?_append_left (by rw [List.length_set]; exact lt), List.getElem?_set_self lt], h⟩
  · intro ms o' sub l h'
    rw [e1, List.set_append_left _ _ (by rw [List.length_set]; exact lt), List.set_set]
    refine ⟨st.set s o', _, rfl, xs_gc h', trivial, q _ _ h' ⟨ms, k, rfl, p, sub, ?_⟩⟩
    rw [l, len_rgD]
    omega
theorem sortR_of {ρ : Ev} {st : Sto} {n : Nat} {D : Nat} {B : Int} {ma : ME} {rs : List (List Int)} {Q : WQ} (h : Ev' ma ρ st (.l n)) (e : st[n]? = some (.ls (rs.map wR))) (l : rs.length < 64) (b : ∀ r ∈ rs, 1 ≤ r.length ∧ r.length ≤ D ∧ Dg B r) (q : ∀ ms : List (List Int), ms.Perm rs → ms.Pairwise (fun x y => ltI y x = false) → Q (.d (dRows ms)) st) :
    mGc (mCB cTup (aCons (mCB (cSortR D B) (aCons ma aNil)) aNil)) ρ st Q := by
  refine h _ ⟨_, e, ?_⟩
  show rowsW (rs.map wR) _
  rw [rowsW_map]
  refine ⟨l, b, fun ms p pw => ⟨_, app_at, allD_at (bs := ms.map dInts) (by rw [List.map_map]; rfl) ?_⟩⟩
  exact ⟨st, [_], rfl, Gcd.rfl', trivial, q ms p pw⟩
def F_nt : List W → Sto → WQ → Prop := fun ws st Q => ∃ (s least most homes : Nat), ws = [.l s, wI least, wI most, wI homes] ∧ 1 ≤ least ∧ least ≤ most ∧ most ≤ 8 ∧ homes ≤ 20 ∧ WellAt st s ∧ ∀ n nm ar hd o, GrN n nm ar hd → least ≤ n → n ≤ most → isWell o → Q (.d (dGraph nm ar hd)) (st.set s o)
theorem mo_nt : MonoF F_nt := ⟨fun ws st Q Q' f ⟨s, a, b, c, e, h1, h2, h3, h4, h5, q⟩ => ⟨s, a, b, c, e, h1, h2, h3, h4, h5, fun n nm ar hd o g1 g2 g3 g4 => f _ _ (q n nm ar hd o g1 g2 g3 g4)⟩⟩
def m_nt : MS :=
  (sSeq (sParN 5 (aCons (mOp oAdd (mVar 1) (mCB F_dr (aCons (mVar 0) (aCons (mOp oAdd (mOp oSub (mVar 2) (mVar 1)) (mC (.int 1))) aNil)))) (aCons (mOp oAdd (mC (.int 1)) (mCB F_dr (aCons (mVar 0) (aCons (mC (.int 3)) aNil)))) (aCons (mLst aNil) (aCons (mLst aNil) (aCons (mLst aNil) aNil))))) (gsC (gN 4) (gsC (gN 5) (gsC (gN 6) (gsC (gN 7) (gsC (gN 8) gsN))))))
      (sSeq (sFor (iR1 (aCons (mVar 4) aNil)) (gN 9)
      (sDrop (mBM cApp (mVar 6) (aCons (mCB F_lb (aCons (mVar 0) (aCons (mVar 6) aNil))) aNil))))
      (sSeq (sFor (iR1 (aCons (mVar 4) aNil)) (gN 10)
      (sFor (iR2 (aCons (mOp oAdd (mVar 10) (mC (.int 1))) (aCons (mVar 4) aNil))) (gN 11)
      (sIf (mOr (mB (mOp oLt (mCB F_dr (aCons (mVar 0) (aCons (mC (.int 4)) aNil))) (mVar 5))) (mAnd (mB (mOp oEqI (mVar 11) (mOp oAdd (mVar 10) (mC (.int 1))))) (mB (mOp oEqI (mCB F_dr (aCons (mVar 0) (aCons (mC (.int 2)) aNil))) (mC (.int 0)))))) (sDrop (mBM cApp (mVar 7) (aCons (mTup (aCons (mVar 10) (aCons (mVar 11) aNil))) aNil))) sNext)))
      (sSeq (sAsg (mCB F_dr (aCons (mVar 0) (aCons (mOp oAdd (mVar 3) (mC (.int 1))) aNil))) (gN 12))
      (sSeq (sFor (iR1 (aCons (mIf (mB (mOp oGt (mVar 4) (mC (.int 1)))) (mOp oAdd (mVar 12) (mIf (mB (mOp oLt (mVar 12) (mC (.int 2)))) (mCB F_dr (aCons (mVar 0) (aCons (mC (.int 2)) aNil))) (mC (.int 0)))) (mC (.int 0))) aNil)) (gN 9)
      (sSeq (sAsg (mGc (mCB F_fe (aCons (mVar 0) (aCons (mLstRg (mRg1 (mVar 4))) (aCons (mIf (mB (mOp oGt (mCB F_dr (aCons (mVar 0) (aCons (mC (.int 4)) aNil))) (mC (.int 0)))) (mC (.int 2)) (mOp oAdd (mC (.int 2)) (mCB F_dr (aCons (mVar 0) (aCons (mOp oSub (mVar 4) (mC (.int 1))) aNil))))) aNil))))) (gN 13))
      (sIf (mB (mOp (oInD true) (mVar 13) (mVar 8))) (sDrop (mBM cApp (mVar 8) (aCons (mVar 13) aNil))) sNext)))
      (sRet (mTup (aCons (mCB cTup (aCons (mVar 6) aNil)) (aCons (mCB cTup (aCons (mVar 7) aNil)) (aCons (mGc (mCB cTup (aCons (mCB (cSortR 16 64) (aCons (mVar 8) aNil)) aNil))) aNil))))))))))
abbrev Rnt (s least most homes n : Nat) (t : Int) (b : Nat) (y9 y10 y11 y12 y13 : Option W) : Ev := [some (.l s), some (wI least), some (wI most), some (wI homes), some (wI n), some (wI t), some (.l (b + 0)), some (.l (b + 1)), some (.l (b + 2)), y9, y10, y11, y12, y13]
theorem do_nt : Does m_nt 4 10 F_nt := by
  rintro ws st Q ⟨s, least, most, homes, rfl, h1, h2, h3, h4, W0, q⟩
  have lt := W0.lt
  refine ⟨rfl, sq_par5 (s := s) (P := fun w => ∃ i, w = wI i ∧ (least : Int) ≤ i ∧ i ≤ most) (P' := fun w => ∃ i, w = wI i ∧ 1 ≤ i ∧ i ≤ 3) ?_ (fun o ho => ?_) ?_⟩
  · refine dr_add (Q1 := fun i => i = (least : Int)) (Q2 := fun i => 0 ≤ i ∧ i < (most : Int) - least + 1) W0 (dr_int (ev_var rfl) W0 rfl) (fun o ho => ?_) (fun i j a b => by omega)
    refine dr_drawI (top := (most : Int) - least + 1) ?_ (by omega) (by omega) (W0.next ho) fun r a b => ⟨a, b⟩
    exact ea_cons (ev_var rfl) (ea_cons (ev_add (ev_sub (ev_var rfl) (ev_var rfl)) ev_c) ea_nil)
  · have W1 := W0.next ho
    refine dr_add (Q1 := fun i => i = (1 : Int)) (Q2 := fun i => 0 ≤ i ∧ i < (3 : Int)) W1 (dr_int ev_c W1 rfl) (fun o ho => ?_) (fun i j a b => by omega)
    refine dr_drawI (top := 3) ?_ (by decide) (by decide) (W1.next ho) fun r a b => ⟨a, b⟩
    exact ea_cons (ev_var rfl) (ea_cons ev_c ea_nil)
  rintro w u o1 ⟨i, rfl, i0, i1⟩ ⟨t, rfl, t0, t1⟩ ho1
  obtain ⟨n, rfl⟩ : ∃ n : Nat, (n : Int) = i := ⟨i.toNat, by omega⟩
  have n1 : least ≤ n := by omega
  have n8 : n ≤ most := by omega
  -- the names
  refine sq_forI (α := Nat) (st1 := Xs st s o1 (LG [] [] [])) (fun i => wI (0 + (i : Nat))) (List.range ((n : Nat) : Int).toNat) (fun i ρ s' => ∃ (lb : List Str) (o : Ob) (y : Option W), ρ = Rnt s least most homes n t st.length y none none none none ∧ isWell o ∧ s' = Xs st s o (LG lb [] []) ∧ lb.length = i ∧ lb.Nodup ∧ ∀ x ∈ lb, isNameD (.str x) = true) (gd := fun _ => True) ?_ ⟨[], o1, none, rfl, ho1, rfl, rfl, List.nodup_nil, fun x hx => by cases hx⟩ (fun _ _ _ _ => trivial) ?_ ?_
  · refine wk_rng1 (j := (n : Int)) ?_ ⟨by omega, by omega⟩
    exact ev_var rfl
  · rintro i k ρ s' hx ⟨lb, o, y, rfl, ho, rfl, l, nd, nm⟩
    have hi : i < n := by
      have := (List.getElem?_eq_some_iff.mp hx).1
      rw [List.length_range] at this
      omega
    have W2 := xs_well (L := LG lb [] []) lt ho
    refine s_appD (k := 0) (xs := lb.map wS) lt rfl (by rw [List.length_map]; omega) (ev_var rfl) (dr_label (s := s) (n := st.length + 0) (tk := lb) ?_ (by omega) ((xs_loc 0).trans rfl) (by omega) W2) ?_
    · exact ea_cons (ev_var rfl) (ea_cons (ev_var rfl) ea_nil)
    · rintro w o' h' ⟨x, rfl, hx1, hx2⟩
      refine ⟨lb ++ [x], o', _, rfl, h', ?_, by rw [List.length_append, l]; rfl, List.nodup_append.mpr ⟨nd, by simp, fun a ha b hb e => ?_⟩, fun z hz => ?_⟩
      · rw [lg0]
      · rw [List.mem_singleton] at hb
        subst hb
        subst e
        exact hx2 ha
      · rcases List.mem_append.mp hz with hz | hz
        · exact nm z hz
        · rw [List.mem_singleton] at hz
          subst hz
          exact hx1
  rintro ρ s' ⟨lb, o2, y9, rfl, ho2, rfl, ll, nd, nm⟩
  rw [List.length_range, Int.toNat_natCast] at ll
  -- the arrows
  refine sq_forI (α := Nat) (st1 := Xs st s o2 (LG lb [] [])) (fun i => wI (0 + (i : Nat))) (List.range ((n : Nat) : Int).toNat) (fun i ρ s' => ∃ (ed : List (List Int)) (o : Ob) (y10 y11 : Option W), ρ = Rnt s least most homes n t st.length y9 y10 y11 none none ∧ isWell o ∧ s' = Xs st s o (LG lb ed []) ∧ EdP n [(i : Int), (i : Int) + 1] ed ∧ ed.length ≤ 8 * i) (gd := fun _ => True) ?_ ⟨[], o2, none, none, rfl, ho2, rfl, edp0, Nat.zero_le _⟩ (fun _ _ _ _ => trivial) ?_ ?_
  · refine wk_rng1 (j := (n : Int)) ?_ ⟨by omega, by omega⟩
    exact ev_var rfl
  · rintro i k ρ s' hx ⟨ed, o, y10, y11, rfl, ho, rfl, ep, el⟩
    have hi : i < n := by
      have := (List.getElem?_eq_some_iff.mp hx).1
      rw [List.length_range] at this
      omega
    obtain rfl : i = k := by
      have z := (List.getElem?_eq_some_iff.mp hx).2
      rw [List.getElem_range] at z
      exact z
    refine s_forI (α := Nat) (st1 := Xs st s o (LG lb ed [])) (fun j => wI (0 + (i : Nat) + 1 + (j : Nat))) (List.range ((n : Int) - (0 + (i : Nat) + 1)).toNat) (fun j ρ s' => ∃ (ed' : List (List Int)) (o : Ob) (y11 : Option W), ρ = Rnt s least most homes n t st.length y9 (some (wI (0 + (i : Nat)))) y11 none none ∧ isWell o ∧ s' = Xs st s o (LG lb ed' []) ∧ EdP n [(i : Int), (i : Int) + 1 + j] ed' ∧ ed'.length ≤ ed.length + j) (gd := fun _ => True) ?_ ⟨ed, o, y11, rfl, ho, rfl, by simpa using ep, Nat.le_refl _⟩ (fun _ _ _ _ => trivial) ?_ ?_
    · refine wk_rng2 (i := 0 + (i : Nat) + 1) (j := (n : Int)) ?_ ?_ ⟨by omega, by omega, by omega, by omega⟩
      · exact ev_add (ev_var rfl) ev_c
      · exact ev_var rfl
    · rintro j k ρ s' hx ⟨ed', o, y11, rfl, ho, rfl, ep', el'⟩
      have hj : i + 1 + j < n := by
        have := (List.getElem?_eq_some_iff.mp hx).1
        rw [List.length_range] at this
        omega
      obtain rfl : j = k := by
        have z := (List.getElem?_eq_some_iff.mp hx).2
        rw [List.getElem_range] at z
        exact z
      have W3 := xs_well (L := LG lb ed' []) lt ho
      refine s_ifD1 (s := s) (drT_or W3 ?_ fun o' ho' => drT_and (W3.next ho') (drT_ev (b := decide ((0 + (i : Nat) + 1 + (j : Nat) : Int) = 0 + (i : Nat) + 1)) ?_ (W3.next ho')) fun o'' ho'' => ?_) (fun o' ho' => ?_) (fun o' ho' => ?_)
      · refine drT_cmp (f := fun i j => decide (i < j)) (top := 4) (j := t) W3 ?_ (fun _ _ => ev_var rfl)
        refine dr_draw ?_ (by decide) (by decide) W3
        exact ea_cons (ev_var rfl) (ea_cons ev_c ea_nil)
      · exact et_b (ev_eqI (ev_var rfl) (ev_add (ev_var rfl) ev_c))
      · refine drT_cmp (f := fun i j => decide (i = j)) (top := 2) (j := 0) ((W3.next ho').next ho'') ?_ (fun _ _ => ev_c)
        refine dr_draw ?_ (by decide) (by decide) ((W3.next ho').next ho'')
        exact ea_cons (ev_var rfl) (ea_cons ev_c ea_nil)
      · rw [xs_set lt]
        have e1 : (0 + (i : Nat) : Int) = i := by omega
        have e2 : (0 + (i : Nat) + 1 + (j : Nat) : Int) = i + 1 + j := by omega
        have e3 : ((i : Int) + 1 + ((j + 1 : Nat) : Int)) = i + 1 + j + 1 := by omega
        refine s_app (n := st.length + 1) (xs := ed'.map wR) (w := wR [(i : Int), (i : Int) + 1 + j]) (ev_var rfl) ((xs_loc 1).trans rfl) ?_ (by rw [List.length_map]; omega) ?_
        · have eR : [(0 + (i : Nat) : Int), 0 + (i : Nat) + 1 + (j : Nat)] = [(i : Int), (i : Int) + 1 + j] := by rw [e2, e1]
          rw [← eR]
          exact ev_tup (ds := [.int _, .int _]) (ea_cons (ev_var rfl) (ea_cons (ev_var rfl) ea_nil)) (show 2 ≤ 1000000 by decide)
        · refine ⟨ed' ++ [[(i : Int), (i : Int) + 1 + j]], o', _, rfl, ho', ?_, ?_, ?_⟩
          · rw [xs_setloc, lg1]
          · rw [e3]
            exact ep'.snoc (by omega) (by omega) (by omega)
          · rw [List.length_append]
            simp
            omega
      · rw [xs_set lt]
        refine ⟨ed', o', _, rfl, ho', rfl, ep'.up (pair_lt (.inr ⟨rfl, by omega⟩)), by omega⟩
    · rintro ρ s' ⟨ed', o, y11, rfl, ho, rfl, ep', el'⟩
      rw [List.length_range] at el'
      exact ⟨ed', o, _, _, rfl, ho, rfl, ep'.up (pair_lt (.inl (by omega))), by omega⟩
  rintro ρ s' ⟨ed, o3, y10, y11, rfl, ho3, rfl, ep, el⟩
  have ar := ep.arr
  have W4 := xs_well (L := LG lb ed []) lt ho3
  -- the hidden lots
  refine sq_setD (s := s) (P := fun w => ∃ i, w = wI i ∧ 0 ≤ i ∧ i < (homes : Int) + 1) (dr_drawI (top := (homes : Int) + 1) ?_ (by omega) (by omega) W4 fun r a b => ⟨a, b⟩) ?_
  · exact ea_cons (ev_var rfl) (ea_cons (ev_add (ev_var rfl) ev_c) ea_nil)
  rintro w o4 ho4 ⟨lots, rfl, ls0, ls1⟩
  rw [xs_set lt]
  have W5 := xs_well (L := LG lb ed []) lt ho4
  refine sq_forR (s := s) (P := fun j => 0 ≤ j ∧ j ≤ 23 ∧ (0 < j → 1 < n)) (dr_ifE (b := decide (1 < (n : Int))) ?_ (fun c => ?_) (fun c => ?_)) ?_
  · exact et_b (ev_gt (ev_var rfl) ev_c)
  · have c := of_decide_eq_true c
    refine dr_add (Q1 := fun i => i = lots) (Q2 := fun i => 0 ≤ i ∧ i < 2) W5 (dr_int (ev_var rfl) W5 rfl) (fun o ho => ?_) (fun i j a b => by omega)
    refine dr_ifE (b := decide (lots < 2)) ?_ (fun _ => ?_) (fun _ => ?_)
    · exact et_b (ev_lt (ev_var rfl) ev_c)
    · refine dr_drawI (top := 2) ?_ (by decide) (by decide) (W5.next ho) fun r a b => ⟨a, b⟩
      exact ea_cons (ev_var rfl) (ea_cons ev_c ea_nil)
    · exact dr_int ev_c (W5.next ho) ⟨by decide, by decide⟩
  · exact dr_int ev_c W5 ⟨by decide, by decide, fun z => by omega⟩
  rintro j o5 ⟨j0, j23, jn⟩ ho5
  rw [xs_set lt]
  refine sq_forI (α := Nat) (st1 := Xs st s o5 (LG lb ed [])) (fun i => wI (0 + (i : Nat))) (List.range j.toNat) (fun i ρ s' => ∃ (hs : List (List Int)) (o : Ob) (y9 y13 : Option W), ρ = Rnt s least most homes n t st.length y9 y10 y11 (some (wI lots)) y13 ∧ isWell o ∧ s' = Xs st s o (LG lb ed hs) ∧ HoP n i hs) (gd := fun _ => True) ?_ ⟨[], o5, y9, none, rfl, ho5, rfl, List.nodup_nil, (fun r hr => by cases hr), Nat.zero_le _⟩ (fun _ _ _ _ => trivial) ?_ ?_
  · refine wk_rng1 (j := j) ?_ ⟨by omega, by omega⟩
    exact ev_c
  · rintro i k ρ s' hx ⟨hs, o, y9, y13, rfl, ho, rfl, hp⟩
    have hi : i < j.toNat := by
      have := (List.getElem?_eq_some_iff.mp hx).1
      rwa [List.length_range] at this
    have n2 : 1 < n := jn (by omega)
    have hl := hp.l
    have W6 := xs_well (L := LG lb ed hs) lt ho
    refine sq_setD (s := s) (dr_few (n := n) (P := fun k => 2 ≤ k) W6 ?_ ?_ (by omega) (fun u => ?_) (fun k hk => by omega)) ?_
    · exact ev_var rfl
    · exact ev_var rfl
    · rw [xs_app]
      have W7 := xs_well (L := LG lb ed hs ++ [Ob.ls u]) lt ho
      refine dr_if W7 ?_ (fun o ho => ?_) (fun o ho => ?_)
      · refine drT_cmp (f := fun i j => decide (j < i)) (top := 4) (j := 0) W7 ?_ (fun _ _ => ev_c)
        refine dr_draw ?_ (by decide) (by decide) W7
        exact ea_cons (ev_var rfl) (ea_cons ev_c ea_nil)
      · exact dr_int ev_c (W7.next ho) (by decide)
      · refine dr_add (Q1 := fun i => i = 2) (Q2 := fun i => 0 ≤ i) (W7.next ho) (dr_int ev_c (W7.next ho) rfl) (fun o' ho' => ?_) (fun i j a b => by omega)
        refine dr_drawI (top := (n : Int) - 1) ?_ (by omega) (by omega) ((W7.next ho).next ho') fun r a b => a
        exact ea_cons (ev_var rfl) (ea_cons (ev_sub (ev_var rfl) ev_c) ea_nil)
    · rintro w o' h' ⟨ms, k, rfl, hk, sub, lm⟩
      rw [xs_set lt]
      have l2 : 2 ≤ ms.length := by omega
      refine s_if1 (et_b (ev_notinD (n := st.length + 2) (r := ms) (rs := hs) (ev_var rfl) (ev_var rfl) ((xs_loc 2).trans rfl))) (fun c => ?_) (fun c => ?_)
      · have c : ms ∉ hs := by rw [Bool.not_eq_true', decide_eq_false_iff_not] at c; exact c
        refine s_app (n := st.length + 2) (xs := hs.map wR) (w := wR ms) (ev_var rfl) ((xs_loc 2).trans rfl) (ev_var rfl) (by rw [List.length_map]; omega) ?_
        refine ⟨hs ++ [ms], o', _, _, rfl, h', ?_, hp.snoc (lot_subR sub) l2 c⟩
        rw [xs_setloc, lg2]
      · exact ⟨hs, o', _, _, rfl, h', rfl, hp.up (Nat.le_succ _)⟩
  rintro ρ s' ⟨hs, o, y9, y13, rfl, ho, rfl, hp⟩
  rw [List.length_range] at hp
  have hl := hp.l
  unfold sRet mTup aCons
  refine ev_tupL (n := st.length + 0) (ds := lb.map .str) (ev_var rfl) (by rw [xs_loc 0, List.map_map]; rfl) _ ?_
  refine ev_tupL (n := st.length + 1) (ds := ed.map dInts) (ev_var rfl) (by rw [xs_loc 1, List.map_map]; rfl) _ ?_
  refine sortR_of (n := st.length + 2) (rs := hs) (ev_var rfl) ((xs_loc 2).trans rfl) (by omega) (fun r hr => ?_) (fun ms p pw => ?_)
  · obtain ⟨lr, l2⟩ := hp.ok r hr
    have := lot_short lr
    exact ⟨by omega, by omega, fun x hx => ⟨(lr.2 x hx).1, by have := (lr.2 x hx).2; omega⟩⟩
  · refine allD_at (bs := [dStrs lb, dRows ed, dRows ms]) rfl ⟨show 3 ≤ 1000000 by decide, ?_⟩
    exact xs_end ho (q n lb ed ms o ⟨by omega, by omega, ll, nd, nm, ar, hp.hid (by omega) p pw⟩ n1 n8 ho)
end FL

/-! The law's rounds. -/
namespace FL
open PySem PySem.Spec PyProof.Rows L2 KL KG GR KV KS KY RT
open Classical
structure Sd (k b : Nat) (d : PyData) : Prop where
  sh : PyData.showable d = true
  dp : PyData.depth d ≤ k
  ln : (PyData.shown d).length ≤ b
theorem sd_all {k b : Nat} : ∀ {ds : List PyData}, (∀ d ∈ ds, Sd k b d) → PyData.showableAll ds = true ∧ PyData.depthAll ds ≤ k ∧ ((PyData.shownAll ds).map (·.length)).sum ≤ ds.length * b ∧ (PyData.shownAll ds).length = ds.length
  | [], _ => ⟨rfl, Nat.zero_le _, Nat.zero_le _, rfl⟩
  | d :: ds, h => by
    obtain ⟨a1, a2, a3, a4⟩ := sd_all (ds := ds) fun e he => h e (List.mem_cons_of_mem _ he)
    obtain ⟨c1, c2, c3⟩ := h d List.mem_cons_self
    refine ⟨by simp only [PyData.showableAll, c1, a1, Bool.and_self], by simp only [PyData.depthAll]; omega, ?_, by simp only [PyData.shownAll, List.length_cons, a4]⟩
    simp only [PyData.shownAll, List.map_cons, List.sum_cons, List.length_cons, Nat.succ_mul]
    omega
theorem sd_int {k : Nat} {i : Int} (h : i.natAbs < 10 ^ 8) : Sd k 20 (.int i) := by
  refine ⟨?_, ?_, ?_⟩
  · simp only [PyData.showable]
    have := PySem.Flt.log2_lt_of (n := i.natAbs) (k := 64) (by decide) (Nat.lt_trans h (by decide))
    exact decide_eq_true (by omega)
  · simp only [PyData.depth]
    omega
  · simp only [PyData.shown]
    have := int_text_length_le10 (a := i) (k := 8) (by decide) h
    rw [PySem.ofString_length]
    omega
theorem sd_bl {k : Nat} {b : Bool} : Sd k 20 (.bool b) := by
  refine ⟨rfl, ?_, ?_⟩
  · simp only [PyData.depth]
    omega
  · cases b <;> decide
theorem sd_tup {k b c : Nat} {ds : List PyData} (h : ∀ d ∈ ds, Sd k b d) (hl : ds.length ≤ c) : Sd (k + 1) (c * b + 2 * c + 3) (.tuple ds) := by
  obtain ⟨h1, h2, h3, h4⟩ := sd_all h
  refine ⟨by simp only [PyData.showable, h1], by simp only [PyData.depth]; omega, ?_⟩
  simp only [PyData.shown]
  have := tupleText_len_le (PyData.shownAll ds)
  have m : ds.length * b ≤ c * b := Nat.mul_le_mul_right _ hl
  omega

def Shw (ds : List PyData) : Prop := (PyData.tuple ds).showable = true ∧ (PyData.tuple ds).depth ≤ 50 ∧ (PyData.tuple ds).shown.length ≤ 1000000
theorem Sd.shw {k b : Nat} {ds : List PyData} (h : Sd k b (.tuple ds)) (hk : k ≤ 50) (hb : b ≤ 1000000) : Shw ds := ⟨h.sh, Nat.le_trans h.dp hk, Nat.le_trans h.ln hb⟩
theorem sd_row {k n : Nat} {r : List Int} (l : r.length ≤ 8) (h : ∀ x ∈ r, 0 ≤ x ∧ x < (8 : Int)) : Sd (k + 1) 200 (dInts r) :=
  sd_tup (c := 8) (b := 20) (fun d hd => by
    obtain ⟨x, hx, rfl⟩ := List.mem_map.mp hd
    refine sd_int ?_
    have := h x hx
    omega) (by rw [List.length_map]; exact l) |> fun z => ⟨z.sh, z.dp, Nat.le_trans z.ln (by decide)⟩
theorem lot_shw {n : Nat} {r : List Int} (h : LotN n r) (n8 : n ≤ 8) : Shw (r.map .int) := by
  have l := lot_short h
  exact (sd_row (k := 0) (n := n) (by omega) (fun x hx => by have := h.2 x hx; omega)).shw (by decide) (by decide)
theorem rows_shape {hs : List (List Int)} {ms : List Int} : ∀ (xs : List Int) (acc : List (List Int)), (∀ r ∈ acc, ∃ x, r = comL hs ms x) → (∀ r ∈ xs.foldl (rowStep hs ms) acc, ∃ x, r = comL hs ms x) ∧ (xs.foldl (rowStep hs ms) acc).length ≤ acc.length + xs.length
  | [], acc, h => ⟨h, Nat.le_refl _⟩
  | x :: xs, acc, h => by
    have step : (∀ r ∈ rowStep hs ms acc x, ∃ x, r = comL hs ms x) ∧ (rowStep hs ms acc x).length ≤ acc.length + 1 := by
      unfold rowStep
      split
      · exact ⟨h, Nat.le_succ _⟩
      · refine ⟨fun r hr => ?_, by rw [List.length_append]; exact Nat.le_refl _⟩
        rcases List.mem_append.mp hr with hr | hr
        · exact h r hr
        · rw [List.mem_singleton] at hr
          exact ⟨x, hr⟩
    obtain ⟨a, b⟩ := rows_shape xs _ step.1
    refine ⟨a, ?_⟩
    have := step.2
    rw [List.foldl_cons, List.length_cons]
    omega
theorem rows_shw {n : Nat} {hs : List (List Int)} {r : List Int} (h : LotN n r) (n8 : n ≤ 8) : Shw ((rowsL hs r).map dInts) := by
  have l := lot_short h
  obtain ⟨a, b⟩ := rows_shape (hs := hs) (ms := r) r [] (fun r hr => by cases hr)
  have z : Sd 2 (8 * 200 + 2 * 8 + 3) (.tuple ((rowsL hs r).map dInts)) := sd_tup (c := 8) (b := 200) (fun d hd => by
    obtain ⟨x, hx, rfl⟩ := List.mem_map.mp hd
    obtain ⟨y, rfl⟩ := a x hx
    refine sd_row (n := n) (Nat.le_trans (List.length_filter_le _ _) (by omega)) (fun x hx => ?_)
    have := h.2 x (List.mem_filter.mp hx).1
    omega) (by
    rw [List.length_map]
    have : ([] : List (List Int)).length = 0 := rfl
    have b : (rowsL hs r).length ≤ ([] : List (List Int)).length + r.length := b
    omega)
  exact z.shw (by decide) (by decide)
theorem lot_filter {n : Nat} {r : List Int} (h : LotN n r) (p : Int → Bool) : LotN n (r.filter p) := ⟨h.1.filter p, fun x hx => h.2 x (List.mem_filter.mp hx).1⟩
theorem lot_sublist {n : Nat} {r s : List Int} (h : LotN n r) (p : s.Sublist r) : LotN n s := ⟨h.1.sublist p, fun x hx => h.2 x (p.subset hx)⟩
theorem anc_every {ar : List (List Int)} {r : List Int} : ancL ar r r = r := List.filter_eq_self.mpr fun x hx => decide_eq_true (AncR.base hx hx)
theorem et_nis {ρ : Ev} {s : Sto} {ma mb : ME} {ds : List PyData} (ha : Ev' ma ρ s (.d (.tuple ds))) (hb : Ev' mb ρ s (.d (.tuple ds))) (h : Shw ds) : EvT (mNot (mB (mCB F_is (aCons ma (aCons mb aNil))))) ρ s false :=
  et_not (b := true) (et_b (ev_call (ea_cons ha (ea_cons hb ea_nil)) fun Q q => ⟨ds, rfl, h.1, h.2.1, h.2.2, q⟩))
theorem ev_is {ρ : Ev} {s : Sto} {ma mb : ME} {ds : List PyData} (ha : Ev' ma ρ s (.d (.tuple ds))) (hb : Ev' mb ρ s (.d (.tuple ds))) (h : Shw ds) : Ev' (mCB F_is (aCons ma (aCons mb aNil))) ρ s (wB true) :=
  ev_call (ea_cons ha (ea_cons hb ea_nil)) fun Q q => ⟨ds, rfl, h.1, h.2.1, h.2.2, q⟩
theorem ev_callK {ρ : Ev} {st : Sto} {a : MA} {ws : List W} {w : W} {gw : List W → List W} {F : List W → Sto → WQ → Prop} (h : EvA a ρ st ws) (q : ∀ Q : WQ, Q w st → F (gw ws) st Q) : Ev' (mCBK F gw a) ρ st w := fun Q r => h _ (q Q r)
theorem ev_gcLc {ρ : Ev} {s : Sto} {ma : ME} {mt : MT} {n : Nat} {r : List Int} (keep : Int → Bool) (h : Ev' ma ρ s (wR r)) (l : r.length ≤ 1000000) (hn : n < ρ.length) (ht : ∀ x ∈ r, ∀ acc, EvT mt ((wipeE ρ [n]).set n (some (wI x))) (s ++ [.ls acc]) (keep x)) : Ev' (mGc (mCB cTup (aCons (mLc (iT ma) (gN n) mt (mVar n) [n]) aNil))) ρ s (wR (r.filter keep)) := fun Q q => by
  unfold mGc mCB aCons
  refine lc_row keep h l hn ht ?_
  refine ⟨_, app_at, allD_at (bs := (r.filter keep).map .int) (by rw [List.map_map]; rfl) ?_⟩
  exact ⟨s, [_], rfl, Gcd.rfl', trivial, q⟩
theorem dr_some {ρ : Ev} {st : Sto} {s : Nat} {a : MA} {r : List Int} (h : EvA a ρ st [.l s, wR r]) (l : r.length ≤ 1000) (w : WellAt st s) : Dr (mCB F_so a) ρ st s fun w => ∃ ms, w = wR ms ∧ ms.Sublist r := fun Q q => h _ ⟨s, r, rfl, l, w, fun ms o sub ho => q _ o ho ⟨ms, rfl, sub⟩⟩
theorem dr_fewR {ρ : Ev} {st : Sto} {s : Nat} {a : MA} {r : List Int} {k : Int} (h : EvA a ρ st [.l s, wR r, wI k]) (l : r.length ≤ 1000) (k0 : 0 ≤ k) (w : WellAt st s) : Dr (mCB F_fe a) ρ st s fun w => ∃ ms, w = wR ms ∧ ms.Sublist r := fun Q q => h _ ⟨s, wR r, r, k, rfl, .inl rfl, l, k0, w, fun ms o sub _ ho => q _ o ho ⟨ms, rfl, sub⟩⟩
def F_ri : List W → Sto → WQ → Prop := fun ws st Q => ∃ s : Nat, ws = [.l s] ∧ WellAt st s ∧ ∀ o, isWell o → Q (wB true) (st.set s o)
theorem mo_ri : MonoF F_ri := ⟨fun ws st Q Q' f ⟨s, e, a, q⟩ => ⟨s, e, a, fun o h => f _ _ (q o h)⟩⟩
def m_ri : MS :=
  (sSeq (sAsg (mCB F_nt (aCons (mVar 0) (aCons (mC (.int 1)) (aCons (mC (.int 8)) (aCons (mC (.int 6)) aNil))))) (gN 1))
      (sSeq (sAsg (mTupRg (mRg1 (mCB cLen (aCons (mOp oIxT (mVar 1) (mC (.int 0))) aNil)))) (gN 2))
      (sSeq (sFor (iR1 (aCons (mC (.int 3)) aNil)) (gN 3)
      (sSeq (sAsg (mIf (mB (mOp oEqI (mCB F_dr (aCons (mVar 0) (aCons (mC (.int 4)) aNil))) (mC (.int 0)))) (mVar 2) (mCB F_so (aCons (mVar 0) (aCons (mVar 2) aNil)))) (gN 4))
      (sSeq (sAsg (mIf (mB (mOp oEqI (mCB F_dr (aCons (mVar 0) (aCons (mC (.int 2)) aNil))) (mC (.int 0)))) (mCB F_so (aCons (mVar 0) (aCons (mVar 4) aNil))) (mCB F_fe (aCons (mVar 0) (aCons (mVar 4) (aCons (mC (.int 1)) aNil))))) (gN 5))
      (sSeq (sIf (mNot (mB (mCB F_is (aCons (mCB F_ra (aCons (mVar 1) (aCons (mVar 4) (aCons (mVar 5) aNil)))) (aCons (mCB F_nr (aCons (mVar 1) (aCons (mVar 4) (aCons (mVar 5) aNil)))) aNil))))) (sRet (mC (.bool false))) sNext)
      (sIf (mNot (mB (mCB F_is (aCons (mCB F_rd (aCons (mVar 1) (aCons (mVar 4) aNil))) (aCons (mCB F_jo (aCons (mVar 1) (aCons (mVar 4) aNil))) aNil))))) (sRet (mC (.bool false))) sNext)))))
      (sSeq (sIf (mNot (mB (mCB F_is (aCons (mCBK F_ra List.reverse (aCons (mVar 2) (aCons (mVar 2) (aCons (mVar 1) aNil)))) (aCons (mVar 2) aNil))))) (sRet (mC (.bool false))) sNext)
      (sSeq (sFor (iR1 (aCons (mC (.int 2)) aNil)) (gN 3)
      (sSeq (sAsg (mCB F_as (aCons (mVar 0) (aCons (mCB cLen (aCons (mVar 2) aNil)) aNil))) (gT 2 (gsC (gN 6) (gsC (gN 7) gsN))))
      (sSeq (sAsg (mGc (mCB F_nr (aCons (mVar 1) (aCons (mGc (mCB cTup (aCons (mLc (iT (mVar 2)) (gN 9) (mB (mOp (oInI true) (mVar 9) (mVar 6))) (mVar 9) [9]) aNil))) (aCons (mVar 7) aNil))))) (gN 8))
      (sSeq (sIf (mNot (mB (mCB F_is (aCons (mCB F_rn (aCons (mVar 1) (aCons (mVar 6) (aCons (mVar 7) aNil)))) (aCons (mVar 8) aNil))))) (sRet (mC (.bool false))) sNext)
      (sIf (mNot (mB (mCB F_is (aCons (mCBK F_rs List.reverse (aCons (mVar 7) (aCons (mVar 6) (aCons (mVar 1) aNil)))) (aCons (mCB F_jo (aCons (mVar 1) (aCons (mVar 8) aNil))) aNil))))) (sRet (mC (.bool false))) sNext)))))
      (sRet (mCB F_is (aCons (mCBK F_rd List.reverse (aCons (mVar 2) (aCons (mVar 1) aNil))) (aCons (mCB F_jo (aCons (mVar 1) (aCons (mVar 2) aNil))) aNil)))))))))
section
variable {n : Nat} {nm : List Str} {ar hd : List (List Int)} (g : GrN n nm ar hd)
include g
theorem grn_jo {ρ : Ev} {st : Sto} {a : MA} {r : List Int} (lr : LotN n r) (h : EvA a ρ st [.d (dGraph nm ar hd), wR r]) : Ev' (mCB F_jo a) ρ st (.d (dRows (rowsL hd r))) := ev_call h fun Q q => ⟨_, _, hd, r, rfl, (lot_sub lr g.most).2, lr.1, (fun b hb => ⟨asc_nodup (g.hd.2.2 b hb).1.1, (lot_sub (g.hd.2.2 b hb).1 g.most).1⟩), q⟩
theorem grn_nr {ρ : Ev} {st : Sto} {a : MA} {r s : List Int} (lr : LotN n r) (ls : LotN n s) (sub : ∀ x ∈ s, x ∈ r) (h : EvA a ρ st [.d (dGraph nm ar hd), wR r, wR s]) : Ev' (mCB F_nr a) ρ st (wR (ancL ar r s)) := ev_call h fun Q q => ⟨_, _, ar, r, s, rfl, (lot_sub lr g.most).2, lr.1, grn_up g, asc_nodup ls.1, sub, q⟩
end
theorem sq_asks {ρ : Ev} {st : Sto} {E : WE} {r : MS} {s many i j : Nat} {a : MA} (h : EvA a ρ st [.l s, wI many]) (m1 : 1 ≤ many) (m8 : many ≤ 8) (w : WellAt st s) (q : ∀ ac im o, LotN many ac → LotN many im → im ≠ [] → (∀ x ∈ im, x ∉ ac) → isWell o → r ((ρ.set i (some (wR ac))).set j (some (wR im))) (st.set s o) E) :
    sSeq (sAsg (mCB F_as a) (gT 2 (gsC (gN i) (gsC (gN j) gsN)))) r ρ st E := h _ ⟨s, many, rfl, m1, m8, w, fun ac im o h1 h2 h3 h4 h5 => gt2 (q ac im o h1 h2 h3 h4 h5)⟩
theorem do_ri : Does m_ri 1 9 F_ri := by
  rintro ws st Q ⟨s, rfl, W0, q⟩
  have lt := W0.lt
  refine ⟨rfl, sq_setD (s := s) (P := fun w => ∃ n nm ar hd, w = .d (dGraph nm ar hd) ∧ GrN n nm ar hd) (fun Q q => ?_) ?_⟩
  · refine ea_cons (ws := [wI 1, wI 8, wI 6]) (ev_var rfl) (ea_cons ev_c (ea_cons ev_c (ea_cons ev_c ea_nil))) _ ⟨s, 1, 8, 6, rfl, by decide, by decide, by decide, by decide, W0, fun n nm ar hd o g _ _ ho => q _ o ho ⟨n, nm, ar, hd, rfl, g⟩⟩
  rintro w o1 ho1 ⟨n, nm, ar, hd, rfl, g⟩
  have n8 := g.most
  have n1 := g.one
  have le := lot_rgD n
  have el := lot_short le
  refine sq_set (w := wR (rgD 0 (n : Int))) ?_ ?_
  · rw [← nm_len g]
    exact ev_tupRg (ev_lenT (ds := nm.map .str) (ev_ixT (ev_var rfl) ev_c rfl)) (by rw [nm_len g]; exact ⟨by decide, by decide, by omega, by omega⟩)
  let R : Option W → Option W → Option W → Option W → Option W → Option W → Ev := fun a b c d e f => [some (.l s), some (.d (dGraph nm ar hd)), some (wR (rgD 0 (n : Int))), a, b, c, d, e, f, none]
  refine sq_forI (α := Nat) (st1 := st.set s o1) (fun i => wI (0 + (i : Nat))) (List.range 3) (fun i ρ s' => ∃ (a b c : Option W) (o : Ob), ρ = R a b c none none none ∧ isWell o ∧ s' = st.set s o) (gd := fun _ => True) ?_ ⟨none, none, none, o1, rfl, ho1, rfl⟩ (fun _ _ _ _ => trivial) ?_ ?_
  · refine wk_rng1 (j := 3) ?_ ⟨by decide, by decide⟩
    exact ev_c
  · rintro i k ρ s' hx ⟨a, b, c, o, rfl, ho, rfl⟩
    have W1 : WellAt (st.set s o) s := W0.next ho
    refine sq_setD (s := s) (P := fun w => ∃ r, w = wR r ∧ LotN n r) ?_ ?_
    · refine dr_if W1 ?_ (fun o ho => ?_) (fun o ho => ?_)
      · refine drT_cmp (f := fun i j => decide (i = j)) (top := 4) (j := 0) W1 ?_ (fun _ _ => ev_c)
        refine dr_draw ?_ (by decide) (by decide) W1
        exact ea_cons (ev_var rfl) (ea_cons ev_c ea_nil)
      · exact dr_ev (ev_var rfl) (W1.next ho) ⟨_, rfl, le⟩
      · intro Q q
        refine dr_some (s := s) (r := rgD 0 (n : Int)) ?_ (by omega) (W1.next ho) Q fun w o ho ⟨ms, e, sub⟩ => q w o ho ⟨ms, e, lot_sublist le sub⟩
        exact ea_cons (ev_var rfl) (ea_cons (ev_var rfl) ea_nil)
    rintro w o2 ho2 ⟨crew, rfl, lc⟩
    rw [List.set_set]
    have W2 : WellAt (st.set s o2) s := W0.next ho2
    have cl := lot_sub lc n8
    refine sq_setD (s := s) (P := fun w => ∃ r, w = wR r ∧ r.Sublist crew) ?_ ?_
    · refine dr_if W2 ?_ (fun o ho => ?_) (fun o ho => ?_)
      · refine drT_cmp (f := fun i j => decide (i = j)) (top := 2) (j := 0) W2 ?_ (fun _ _ => ev_c)
        refine dr_draw ?_ (by decide) (by decide) W2
        exact ea_cons (ev_var rfl) (ea_cons ev_c ea_nil)
      · refine dr_some (s := s) (r := crew) ?_ cl.1 (W2.next ho)
        exact ea_cons (ev_var rfl) (ea_cons (ev_var rfl) ea_nil)
      · refine dr_fewR (s := s) (r := crew) (k := 1) ?_ cl.1 (by decide) (W2.next ho)
        exact ea_cons (ev_var rfl) (ea_cons (ev_var rfl) (ea_cons ev_c ea_nil))
    rintro w o3 ho3 ⟨some_, rfl, sub⟩
    rw [List.set_set]
    have lsm := lot_sublist lc sub
    have sb : ∀ x ∈ some_, x ∈ crew := fun x hx => sub.subset hx
    refine sq_if1 (b := false) (et_nis (ds := (ancL ar crew some_).map .int) ?_ ?_ (lot_shw (lot_filter lc _) n8)) (fun z => by cases z) (fun _ => ?_)
    · exact ev_call (ea_cons (ev_var rfl) (ea_cons (ev_var rfl) (ea_cons (ev_var rfl) ea_nil))) fun Q q => ⟨n, nm, ar, hd, crew, some_, rfl, g, lc, lsm, sb, q⟩
    · exact grn_nr g lc lsm sb (ea_cons (ev_var rfl) (ea_cons (ev_var rfl) (ea_cons (ev_var rfl) ea_nil)))
    refine s_if1 (b := false) (et_nis (ds := (rowsL hd crew).map dInts) ?_ ?_ (rows_shw lc n8)) (fun z => by cases z) (fun _ => ?_)
    · exact ev_call (ea_cons (ev_var rfl) (ea_cons (ev_var rfl) ea_nil)) fun Q q => ⟨n, nm, ar, hd, crew, rfl, g, lc, q⟩
    · exact grn_jo g lc (ea_cons (ev_var rfl) (ea_cons (ev_var rfl) ea_nil))
    exact ⟨_, _, _, o3, rfl, ho3, rfl⟩
  rintro ρ s' ⟨a, b, c, o2, rfl, ho2, rfl⟩
  refine sq_if1 (b := false) (et_nis (ds := (rgD 0 (n : Int)).map .int) ?_ ?_ (lot_shw le n8)) (fun z => by cases z) (fun _ => ?_)
  · have z : Ev' (mCBK F_ra List.reverse (aCons (mVar 2) (aCons (mVar 2) (aCons (mVar 1) aNil)))) (R a b c none none none) (st.set s o2) (wR (ancL ar (rgD 0 (n : Int)) (rgD 0 (n : Int)))) := ev_callK (ea_cons (ev_var rfl) (ea_cons (ev_var rfl) (ea_cons (ev_var rfl) ea_nil))) fun Q q => ⟨n, nm, ar, hd, _, _, rfl, g, le, le, (fun x hx => hx), q⟩
    rw [anc_every] at z
    exact z
  · exact ev_var rfl
  refine sq_forI (α := Nat) (st1 := st.set s o2) (fun i => wI (0 + (i : Nat))) (List.range 2) (fun i ρ s' => ∃ (a d e f : Option W) (o : Ob), ρ = R a b c d e f ∧ isWell o ∧ s' = st.set s o) (gd := fun _ => True) ?_ ⟨a, none, none, none, o2, rfl, ho2, rfl⟩ (fun _ _ _ _ => trivial) ?_ ?_
  · refine wk_rng1 (j := 2) ?_ ⟨by decide, by decide⟩
    exact ev_c
  · rintro i k ρ s' hx ⟨a, d, e, f, o, rfl, ho, rfl⟩
    have W1 : WellAt (st.set s o) s := W0.next ho
    refine sq_asks (s := s) (many := n) ?_ n1 n8 W1 ?_
    · have z := ev_lenR (ns := rgD 0 (n : Int)) (ma := mVar 2) (ρ := R (some (wI (0 + (k : Nat)))) b c d e f) (st := st.set s o) (ev_var rfl)
      rw [len_rgD, Int.toNat_natCast] at z
      exact ea_cons (ev_var rfl) (ea_cons z ea_nil)
    rintro acts aims o3 la li ne off ho3
    rw [List.set_set]
    have sb : ∀ x ∈ aims, x ∈ (rgD 0 (n : Int)).filter fun y => !decide (y ∈ acts) := fun x hx => List.mem_filter.mpr ⟨mem_rgD.mpr (li.2 x hx), by rw [decide_eq_false (off x hx)]; rfl⟩
    have lfe := lot_filter le fun y => !decide (y ∈ acts)
    have nd : needL n ar acts aims = ancL ar ((rgD 0 (n : Int)).filter fun y => !decide (y ∈ acts)) aims := by rw [every_rg]; rfl
    have ld : LotN n (needL n ar acts aims) := by rw [nd]; exact lot_filter lfe _
    refine sq_set (w := wR (needL n ar acts aims)) ?_ ?_
    · rw [nd]
      refine ev_gc (grn_nr g lfe li sb (ea_cons (ev_var rfl) (ea_cons ?_ (ea_cons (ev_var rfl) ea_nil)))) trivial
      exact ev_gcLc (r := rgD 0 (n : Int)) (fun y => !decide (y ∈ acts)) (ev_var rfl) (by omega) (show 9 < 10 by decide) fun x hx acc => et_b (ev_notin (i := x) (ns := acts) (ev_var rfl) (ev_var rfl))
    refine sq_if1 (b := false) (et_nis (ds := (needL n ar acts aims).map .int) ?_ ?_ (lot_shw ld n8)) (fun z => by cases z) (fun _ => ?_)
    · exact ev_call (ea_cons (ev_var rfl) (ea_cons (ev_var rfl) (ea_cons (ev_var rfl) ea_nil))) fun Q q => ⟨n, nm, ar, hd, acts, aims, rfl, g, la, li, ne, off, q⟩
    · exact ev_var rfl
    refine s_if1 (b := false) (et_nis (ds := (rowsL hd (needL n ar acts aims)).map dInts) ?_ ?_ (rows_shw ld n8)) (fun z => by cases z) (fun _ => ?_)
    · exact ev_callK (ea_cons (ev_var rfl) (ea_cons (ev_var rfl) (ea_cons (ev_var rfl) ea_nil))) fun Q q => ⟨n, nm, ar, hd, acts, aims, rfl, g, la, li, ne, off, q⟩
    · exact grn_jo g ld (ea_cons (ev_var rfl) (ea_cons (ev_var rfl) ea_nil))
    exact ⟨_, _, _, _, o3, rfl, ho3, rfl⟩
  rintro ρ s' ⟨a, d, e, f, o3, rfl, ho3, rfl⟩
  refine s_ret (ev_is (ds := (rowsL hd (rgD 0 (n : Int))).map dInts) ?_ ?_ (rows_shw le n8)) ⟨st.set s o3, [], (List.append_nil _).symm, xs_gc ho3, trivial, q o3 ho3⟩
  · exact ev_callK (ea_cons (ev_var rfl) (ea_cons (ev_var rfl) ea_nil)) fun Q q => ⟨n, nm, ar, hd, _, rfl, g, le, q⟩
  · exact grn_jo g le (ea_cons (ev_var rfl) (ea_cons (ev_var rfl) ea_nil))
def F_la : List W → Sto → WQ → Prop := fun ws st Q => ∃ ns : List Int, ws = [.d (.list (ns.map .int))] ∧ ns.length ≤ 63 ∧ Q (wB true) st
theorem mo_la : MonoF F_la := ⟨fun ws st Q Q' f ⟨s, e, a, q⟩ => ⟨s, e, a, f _ _ q⟩⟩
def m_la : MS :=
  (sSeq (sFor (iR1 (aCons (mCB cMax2 (aCons (mC (.int 1)) (aCons (mCB cMin2 (aCons (mCB cLen (aCons (mVar 0) aNil)) (aCons (mC (.int 2)) aNil))) aNil))) aNil)) (gN 1)
      (sIf (mNot (mGcT (mB (mCB F_ri (aCons (mCB F_sp (aCons (mVar 0) (aCons (mVar 1) aNil))) aNil))))) (sRet (mC (.bool false))) sNext))
      (sRet (mC (.bool true))))
theorem do_la : Does m_la 1 1 F_la := by
  rintro ws st Q ⟨ns, rfl, l, q⟩
  have z : ∃ m : Int, Ev' (mCB cMax2 (aCons (mC (.int 1)) (aCons (mCB cMin2 (aCons (mCB cLen (aCons (mVar 0) aNil)) (aCons (mC (.int 2)) aNil))) aNil))) [some (.d (.list (ns.map .int))), none] st (wI m) ∧ 1 ≤ m ∧ m ≤ 2 := by
    refine ⟨_, ev_max ev_c (ev_min (ev_lenZ (ev_var rfl)) ev_c), ?_, ?_⟩
    all_goals generalize ((List.length (ns.map PyData.int) : Nat) : Int) = k
    all_goals (split <;> (try split) <;> omega)
  obtain ⟨m, z, b⟩ := z
  refine ⟨rfl, sq_forI (α := Nat) (st1 := st) (fun i => wI (0 + (i : Nat))) (List.range m.toNat) (fun i ρ s' => ∃ y : Option W, ρ = [some (.d (.list (ns.map .int))), y] ∧ s' = st) (gd := fun _ => True) (wk_rng1 (j := m) z ⟨by omega, by omega⟩) ⟨none, rfl, rfl⟩ (fun _ _ _ _ => trivial) ?_ ?_⟩
  · rintro i k ρ s' hx ⟨y, rfl, rfl⟩
    have hk : k < m.toNat := by
      have z := (List.getElem?_eq_some_iff.mp hx)
      obtain ⟨z1, z2⟩ := z
      rw [List.length_range] at z1
      rw [List.getElem_range] at z2
      omega
    refine s_if1 (b := false) (et_not (b := true) fun R r => ?_) (fun z => by cases z) (fun _ => ⟨_, rfl, rfl⟩)
    unfold mGcT mB mCB aCons aNil
    refine ⟨ns, 0 + (k : Nat), rfl, l, by omega, by omega, fun u o ho => ?_⟩
    refine ⟨s'.length + 1, rfl, ⟨o, app2_at1, ho⟩, fun o' ho' => ?_⟩
    refine ⟨s', [u, o'], ?_, Gcd.rfl', r⟩
    exact app2_set1
  · rintro ρ s' ⟨y, rfl, rfl⟩
    exact s_ret ev_c (sameW trivial q)
end FL

/-! The law's own rounds, and what it asks of lots. -/
namespace FL
open PySem PySem.Spec PyProof.Rows L2 KL KG GR KV KS KY RT
open Classical
/-! ### has -/
def F_ha : List W → Sto → WQ → Prop := fun ws st Q => ∃ crew part : List Int, ws = [wR crew, wR part] ∧ part.length ≤ 1000 ∧ Q (wB (decide (part.filter (fun y => !decide (y ∈ crew)) = []))) st
theorem mo_ha : MonoF F_ha := ⟨fun ws st Q Q' f ⟨c, p, e, a, q⟩ => ⟨c, p, e, a, f _ _ q⟩⟩
def m_ha : MS :=
  (sRet (mOp (oEqD false) (mLc (iT (mVar 1)) (gN 2) (mB (mOp (oInI true) (mVar 2) (mVar 0))) (mVar 2) [2]) (mLst aNil)))
theorem do_ha : Does m_ha 2 1 F_ha := by
  rintro ws st Q ⟨crew, part, rfl, l, q⟩
  refine ⟨rfl, ?_⟩
  unfold m_ha sRet mOp
  refine lc_row (r := part) (fun y => !decide (y ∈ crew)) (ev_var rfl) (by omega) (show 2 < 3 by decide) (fun y hy acc => et_b (ev_notin (i := y) (ns := crew) (ev_var rfl) (ev_var rfl))) ?_
  refine ⟨by decide, ⟨_, app_lt app_at, allD_at (bs := (part.filter fun y => !decide (y ∈ crew)).map .int) (by rw [List.map_map]; rfl) ⟨[], app_at, shp_intsL _, shp_intsL [], ?_⟩⟩⟩
  refine ⟨st, [_, _], app11, Gcd.rfl', trivial, ?_⟩
  show Q (wB (if false = true then _ else PyData.eqv (.list _) (.list []))) st
  rw [if_neg Bool.false_ne_true, eqv_nil]
  exact q
/-! ### greatest -/
def bestF : Option (List Int) → List Int → Option (List Int) := fun b r => match b with
  | none => some r
  | some b => if b.length < r.length then some r else some b
def optD : Option (List Int) → PyData
  | none => .none
  | some r => dInts r
def F_ge : List W → Sto → WQ → Prop := fun ws st Q => ∃ (n : Nat) (rs : List (List Int)), ws = [.l n] ∧ st[n]? = some (.ls (rs.map wR)) ∧ Q (.d (optD (rs.foldl bestF none))) st
theorem mo_ge : MonoF F_ge := ⟨fun ws st Q Q' f ⟨n, rs, e, a, q⟩ => ⟨n, rs, e, a, f _ _ q⟩⟩
def m_ge : MS :=
  (sSeq (sAsg (mC .none) (gN 1))
      (sSeq (sFor (iL (mVar 0)) (gN 2)
      (sIf (mOr (mB (mOp oIsN (mVar 1) (mC .none))) (mB (mOp oGt (mCB cLen (aCons (mVar 2) aNil)) (mCB cLen (aCons (mVar 1) aNil))))) (sAsg (mVar 2) (gN 1)) sNext))
      (sRet (mVar 1))))
theorem ev_isN {ρ : Ev} {s : Sto} {ma : ME} {w : W} (h : Ev' ma ρ s w) : Ev' (mOp oIsN ma (mC .none)) ρ s (wB (isNo w)) := fun Q q => h _ ⟨rfl, q⟩
theorem do_ge : Does m_ge 1 2 F_ge := by
  rintro ws st Q ⟨n, rs, rfl, e, q⟩
  refine ⟨rfl, sq_set (w := .d .none) ev_c ?_⟩
  refine sq_forI (α := List Int) (st1 := st) wR rs (fun i ρ s => ∃ y2, ρ = [some (.l n), some (.d (optD ((rs.take i).foldl bestF none))), y2] ∧ s = st) ?_ ⟨none, rfl, rfl⟩ (gd := fun s => s[n]? = some (.ls (rs.map wR))) (fun i ρ s h => ?_) ?_ ?_
  · exact wk_list (ev_var rfl) e
  · obtain ⟨y2, _, rfl⟩ := h
    exact e
  · rintro i r ρ s hr ⟨y2, rfl, rfl⟩
    have nxt : (rs.take (i + 1)).foldl bestF none = bestF ((rs.take i).foldl bestF none) r := by
      rw [List.take_add_one, hr, List.foldl_append]
      rfl
    cases hb : (rs.take i).foldl bestF none with
    | none =>
      rw [hb] at nxt
      refine s_if1 (b := true || false) (et_or (et_b (ev_isN (w := .d .none) (ev_var rfl))) (fun c => by cases c)) (fun _ => ?_) (fun c => by cases c)
      refine s_set (w := wR r) (ev_var rfl) ⟨some (wR r), ?_, rfl⟩
      rw [nxt]
      rfl
    | some b =>
      rw [hb] at nxt
      refine s_if1 (b := false || decide ((b.length : Int) < (r.length : Nat))) (et_or (et_b (ev_isN (w := wR b) (ev_var rfl))) (fun _ => et_b (ev_gt (ev_lenR (ns := r) (ev_var rfl)) (ev_lenR (ns := b) (ev_var rfl))))) (fun c => ?_) (fun c => ?_)
      · rw [Bool.false_or, decide_eq_true_iff] at c
        refine s_set (w := wR r) (ev_var rfl) ⟨some (wR r), ?_, rfl⟩
        rw [nxt, bestF, if_pos (by omega)]
        rfl
      · rw [Bool.false_or, decide_eq_false_iff_not] at c
        refine ⟨some (wR r), ?_, rfl⟩
        rw [nxt, bestF, if_neg (by omega)]
        rfl
  · rintro ρ s ⟨y2, rfl, rfl⟩
    rw [List.take_length]
    exact s_ret (w := .d (optD (rs.foldl bestF none))) (ev_var rfl) (sameW trivial q)
/-! ### rounds -/
theorem rows_of_mem {hs : List (List Int)} {ms : List Int} : ∀ (xs : List Int) (acc : List (List Int)), (∀ x ∈ xs, x ∈ ms) → (∀ r ∈ acc, ∃ y ∈ ms, r = comL hs ms y) → (∀ r ∈ xs.foldl (rowStep hs ms) acc, ∃ y ∈ ms, r = comL hs ms y) ∧ (∀ y ∈ acc.flatten, y ∈ (xs.foldl (rowStep hs ms) acc).flatten) ∧ ∀ x ∈ xs, x ∈ (xs.foldl (rowStep hs ms) acc).flatten
  | [], acc, _, h => ⟨h, fun y hy => hy, fun x hx => by cases hx⟩
  | x :: xs, acc, hx, h => by
    have xm := hx x List.mem_cons_self
    have step : (∀ r ∈ rowStep hs ms acc x, ∃ y ∈ ms, r = comL hs ms y) ∧ (∀ y ∈ acc.flatten, y ∈ (rowStep hs ms acc x).flatten) ∧ x ∈ (rowStep hs ms acc x).flatten := by
      unfold rowStep
      split
      · rename_i c
        exact ⟨h, fun y hy => hy, c⟩
      · refine ⟨fun r hr => ?_, fun y hy => ?_, ?_⟩
        · rcases List.mem_append.mp hr with hr | hr
          · exact h r hr
          · exact ⟨x, xm, List.mem_singleton.mp hr⟩
        · rw [List.flatten_append]
          exact List.mem_append.mpr (.inl hy)
        · rw [List.flatten_append]
          refine List.mem_append.mpr (.inr ?_)
          simpa using (mem_comL (hs := hs) xm).mpr .base
    obtain ⟨a, b, c⟩ := rows_of_mem xs _ (fun y hy => hx y (List.mem_cons_of_mem _ hy)) step.1
    refine ⟨a, fun y hy => b y (step.2.1 y hy), fun y hy => ?_⟩
    rcases List.mem_cons.mp hy with rfl | hy
    · exact b y step.2.2
    · exact c y hy
theorem com_same {hs : List (List Int)} {ms : List Int} {x y : Int} (hx : x ∈ ms) (hy : y ∈ ms) (h : ConR hs ms x y) : comL hs ms x = comL hs ms y := by
  unfold comL
  refine List.filter_congr fun a _ => ?_
  rw [Bool.eq_iff_iff, decide_eq_true_iff, decide_eq_true_iff]
  exact ⟨fun r => con_trans (con_symm hx h) r, fun r => con_trans h r⟩
/-- the rows with x in them begin with its district -/
theorem rows_first {hs : List (List Int)} {ms : List Int} {x : Int} (hx : x ∈ ms) : ∃ zs, (rowsL hs ms).filter (fun r => decide (x ∈ r)) = comL hs ms x :: zs := by
  obtain ⟨a, _, c⟩ := rows_of_mem (hs := hs) (ms := ms) ms [] (fun x h => h) (fun r hr => by cases hr)
  have all : ∀ r ∈ (rowsL hs ms).filter (fun r => decide (x ∈ r)), r = comL hs ms x := fun r hr => by
    rw [List.mem_filter, decide_eq_true_iff] at hr
    obtain ⟨y, hy, rfl⟩ := a r hr.1
    exact com_same hy hx ((mem_comL hy).mp hr.2)
  have ne : (rowsL hs ms).filter (fun r => decide (x ∈ r)) ≠ [] := fun z => by
    have cx : x ∈ (rowsL hs ms).flatten := c x hx
    rw [List.mem_flatten] at cx
    obtain ⟨r, hr, hxr⟩ := cx
    have : r ∈ (rowsL hs ms).filter (fun r => decide (x ∈ r)) := List.mem_filter.mpr ⟨hr, decide_eq_true hxr⟩
    rw [z] at this
    cases this
  revert all ne
  cases (rowsL hs ms).filter (fun r => decide (x ∈ r)) with
  | nil => exact fun _ h => absurd rfl h
  | cons r zs => exact fun all _ => ⟨zs, by rw [all r List.mem_cons_self]⟩
def F_lo2 : List W → Sto → WQ → Prop := fun ws st Q => ∃ (n : PyData) (ar hs : List (List Int)) (S : List Int) (x : Int) (t : List Int), ws = [.d (.tuple [n, dRows ar, dRows hs]), wR S, wR (x :: t)] ∧ S.length < 64 ∧ Asc S ∧ Up ar ∧ ar.length ≤ 1000 ∧ (∀ b ∈ hs, b.length ≤ 1000) ∧ Joi hs (x :: t) x ∧ (∀ y ∈ x :: t, y ∈ S) ∧ Q (.d (dRows (roundsL ar hs (x :: t) x S))) st
theorem mo_lo2 : MonoF F_lo2 := ⟨fun ws st Q Q' f ⟨n, ar, hs, S, x, t, e, a, b, c, d, i, k, m, q⟩ => ⟨n, ar, hs, S, x, t, e, a, b, c, d, i, k, m, f _ _ q⟩⟩
def m_lo2 : MS :=
  (sSeq (sAsg (mLst (aCons (mVar 1) aNil)) (gN 3))
      (sSeq (sFor (iR1 (aCons (mOp oAdd (mCB cLen (aCons (mVar 1) aNil)) (mC (.int 1))) aNil)) (gN 4)
      (sSeq (sAsg (mOp oIxL (mVar 3) (mNeg (mC (.int 1)))) (gN 5))
      (sSeq (sAsg (mGc (mOp oIxL (mLc (iT (mCB F_lu (aCons (mVar 0) (aCons (mVar 5) aNil)))) (gN 7) (mB (mOp (oInI false) (mOp oIxT (mVar 2) (mC (.int 0))) (mVar 7))) (mVar 7) [7]) (mC (.int 0)))) (gN 6))
      (sSeq (sAsg (mCB F_up (aCons (mVar 0) (aCons (mVar 6) (aCons (mVar 2) aNil)))) (gN 8))
      (sSeq (sIf (mB (mOp (oEqD true) (mVar 6) (mVar 5))) (sDrop (mBM cApp (mVar 3) (aCons (mVar 6) aNil))) sNext)
      (sSeq (sIf (mB (mOp (oEqD true) (mVar 8) (mVar 6))) (sDrop (mBM cApp (mVar 3) (aCons (mVar 8) aNil))) sNext)
      (sIf (mB (mOp (oEqD false) (mVar 8) (mVar 5))) sBk sNext)))))))
      (sRet (mCB cTup (aCons (mVar 3) aNil)))))
theorem do_lo2 : Does m_lo2 3 6 F_lo2 := by
  rintro ws st Q ⟨n, ar, hs, S0, x, t, rfl, l0, asc0, up, al, hb, j, sub0, q⟩
  refine ⟨rfl, sq_lst1 (w := wR S0) (ev_var rfl) ?_⟩
  have fin : ∀ (zs : List (List Int)) (S : List Int) (y4 y5 y6 y7 y8 : Option W), roundsL ar hs (x :: t) x S0 = zs ++ [S] → sRet (mCB cTup (aCons (mVar 3) aNil)) [some (.d (.tuple [n, dRows ar, dRows hs])), some (wR S0), some (wR (x :: t)), some (.l st.length), y4, y5, y6, y7, y8] (st ++ [.ls ((zs ++ [S]).map wR)]) { nx := fun _ s => ∃ s0 g, s = s0 ++ g ∧ Gcd st s0 ∧ Q (.d .none) s0, rt := fun w s => ∃ s0 g, s = s0 ++ g ∧ Gcd st s0 ∧ okW s0.length w ∧ Q w s0 } := by
    intro zs S y4 y5 y6 y7 y8 rs
    refine s_ret (ev_tupL (n := st.length) (ds := (zs ++ [S]).map dInts) (ev_var rfl) (by rw [app_at, List.map_map]; rfl)) ⟨st, [_], rfl, Gcd.rfl', trivial, ?_⟩
    rw [rs] at q
    exact q
  refine sq_forI (α := Nat) (st1 := st ++ [.ls [wR S0]]) (fun i => wI (0 + (i : Nat))) (List.range (S0.length + 1)) (fun i ρ s' => ∃ (zs : List (List Int)) (S : List Int) (y4 y5 y6 y7 y8 : Option W), ρ = [some (.d (.tuple [n, dRows ar, dRows hs])), some (wR S0), some (wR (x :: t)), some (.l st.length), y4, y5, y6, y7, y8] ∧ s' = st ++ [.ls ((zs ++ [S]).map wR)] ∧ Asc S ∧ (∀ y ∈ x :: t, y ∈ S) ∧ zs.length + 2 * S.length ≤ 2 * S0.length ∧ S.length + i ≤ S0.length ∧ roundsL ar hs (x :: t) x S0 = zs ++ roundsL ar hs (x :: t) x S) (gd := fun _ => True) ?_ ⟨[], S0, none, none, none, none, none, rfl, rfl, asc0, sub0, by simp, by simp, rfl⟩ (fun _ _ _ _ => trivial) ?_ ?_
  · have e : ((S0.length : Int) + 1).toNat = S0.length + 1 := by omega
    rw [← e]
    refine wk_rng1 (j := (S0.length : Int) + 1) ?_ ⟨by omega, by omega⟩
    exact ev_add (ev_lenR (ns := S0) (ev_var rfl)) ev_c
  · rintro i k ρ s' hk ⟨zs, S, y4, y5, y6, y7, y8, rfl, rfl, asc, sub, bd, li, rs⟩
    have xs := sub x List.mem_cons_self
    refine sq_set (w := wR S) (ev_ixL (n := st.length) (ev_var rfl) app_at (ev_neg ev_c) atI_lastR) ?_
    have cl : (comL hs S x).length ≤ S.length := List.length_filter_le _ _
    have lead : ∀ y6 : Option W, Ev' (mGc (mOp oIxL (mLc (iT (mCB F_lu (aCons (mVar 0) (aCons (mVar 5) aNil)))) (gN 7) (mB (mOp (oInI false) (mOp oIxT (mVar 2) (mC (.int 0))) (mVar 7))) (mVar 7) [7]) (mC (.int 0)))) [some (.d (.tuple [n, dRows ar, dRows hs])), some (wR S0), some (wR (x :: t)), some (.l st.length), some (wI (0 + (k : Nat))), some (wR S), y6, y7, y8] (st ++ [.ls ((zs ++ [S]).map wR)]) (wR (comL hs S x)) := fun y6 Q q => by
      obtain ⟨zs2, e2⟩ := rows_first (hs := hs) xs
      unfold mGc mOp
      refine lc_map (α := List Int) wR (rowsL hs S) (fun r => decide (x ∈ r)) wR (wk_rows ?_) (fun _ => trivial) ?_ (fun r hr acc Pk Pn h1 h2 => ?_) ?_
      · exact ev_call (ea_cons (ev_var rfl) (ea_cons (ev_var rfl) ea_nil)) fun Q q => ⟨n, _, hs, wR S, S, rfl, .inl rfl, by omega, asc, hb, q⟩
      · have := (rows_shape (hs := hs) (ms := S) S [] (fun r hr => by cases hr)).2
        have z : (rowsL hs S).length ≤ 0 + S.length := this
        omega
      · refine et_b (ev_in (i := x) (ns := r) (ev_ixT (ds := (x :: t).map .int) (ev_var rfl) ev_c atI_head) (ev_var rfl)) _ ?_
        by_cases c : x ∈ r
        · rw [decide_eq_true c] at h1
          rw [decide_eq_true c, if_pos rfl]
          refine ev_var (w := wR r) ?_ _ (h1 rfl)
          rfl
        · rw [decide_eq_false c] at h2
          rw [decide_eq_false c, if_neg Bool.false_ne_true]
          exact h2 rfl
      · rw [e2]
        refine ⟨_, app_at, wR (comL hs S x), ?_, ⟨_, [_], rfl, Gcd.rfl', trivial, q⟩⟩
        exact atI_nat (j := 0) rfl
    refine sq_set (w := wR (comL hs S x)) (lead _) ?_
    refine sq_set (w := wR (rst ar hs (x :: t) x S)) ?_ ?_
    · exact ev_call (ea_cons (ev_var rfl) (ea_cons (ev_var rfl) (ea_cons (ev_var rfl) ea_nil))) fun Q q => ⟨n, _, ar, wR (comL hs S x), comL hs S x, x :: t, rfl, .inl rfl, by omega, comL_asc asc, up, al, q⟩
    refine sq_ifApp (n := st.length) (w := wR (comL hs S x)) (xs := (zs ++ [S]).map wR) (et_b (ev_neR (r := comL hs S x) (s := S) (ev_var rfl) (ev_var rfl))) (ev_var rfl) app_at (ev_var rfl) ?_ ?_
    · rw [List.length_map, List.length_append, List.length_singleton]
      omega
    rw [app_set]
    refine sq_ifApp (n := st.length) (w := wR (rst ar hs (x :: t) x S)) (et_b (ev_neR (r := rst ar hs (x :: t) x S) (s := comL hs S x) (ev_var rfl) (ev_var rfl))) (ev_var rfl) app_at (ev_var rfl) ?_ ?_
    · rw [List.length_append, List.length_map, List.length_append, List.length_singleton]
      split <;> simp <;> omega
    rw [app_set]
    have ap1 : (if (!decide (comL hs S x = S)) = true then [wR (comL hs S x)] else []) = (if comL hs S x = S then [] else [comL hs S x]).map wR := by
      by_cases c : comL hs S x = S
      · rw [decide_eq_true c, if_pos c]
        rfl
      · rw [decide_eq_false c, if_neg c]
        rfl
    have ap2 : (if (!decide (rst ar hs (x :: t) x S = comL hs S x)) = true then [wR (rst ar hs (x :: t) x S)] else []) = (if rst ar hs (x :: t) x S = comL hs S x then [] else [rst ar hs (x :: t) x S]).map wR := by
      by_cases c : rst ar hs (x :: t) x S = comL hs S x
      · rw [decide_eq_true c, if_pos c]
        rfl
      · rw [decide_eq_false c, if_neg c]
        rfl
    rw [ap1, ap2, ← List.map_append, ← List.map_append]
    refine s_if1 (et_b (ev_eqR (r := rst ar hs (x :: t) x S) (s := S) (ev_var rfl) (ev_var rfl))) (fun c => ?_) (fun c => ?_)
    · have e := of_decide_eq_true c
      have ce := rst_com asc e
      rw [if_pos ce, if_pos (e.trans ce.symm), List.append_nil, List.append_nil]
      rw [rounds_stop asc e] at rs
      exact fin zs S (some (wI (0 + (k : Nat)))) (some (wR S)) (some (wR (comL hs S x))) y7 (some (wR (rst ar hs (x :: t) x S))) rs
    · have e := of_decide_eq_false c
      have rl := rst_len asc e
      obtain ⟨zs2, e2⟩ := rst_last (ar := ar) (hs := hs) (ss := x :: t) (x := x) e
      have e3 : zs ++ [S] ++ (if comL hs S x = S then [] else [comL hs S x]) ++ (if rst ar hs (x :: t) x S = comL hs S x then [] else [rst ar hs (x :: t) x S]) = (zs ++ zs2) ++ [rst ar hs (x :: t) x S] := by
        rw [List.append_assoc zs zs2, ← e2]
        simp
      have l3 := congrArg List.length e3
      have z1 : (if comL hs S x = S then ([] : List (List Int)) else [comL hs S x]).length ≤ 1 := by split <;> simp
      have z2 : (if rst ar hs (x :: t) x S = comL hs S x then ([] : List (List Int)) else [rst ar hs (x :: t) x S]).length ≤ 1 := by split <;> simp
      simp only [List.length_append, List.length_singleton] at l3
      refine ⟨zs ++ zs2, rst ar hs (x :: t) x S, _, _, _, _, _, rfl, by rw [e3], rst_asc asc, j.in_rst sub, ?_, by omega, ?_⟩
      · rw [List.length_append]
        omega
      · rw [rs, rounds_cont asc e, e2]
        unfold roundsL
        simp
  · rintro ρ s' ⟨zs, S, y4, y5, y6, y7, y8, rfl, rfl, asc, sub, bd, li, rs⟩
    rw [List.length_range] at li
    omega
/-! ### a lot between -/
def F_be : List W → Sto → WQ → Prop := fun ws st Q => ∃ (s : Nat) (crew part : List Int), ws = [.l s, wR crew, wR part] ∧ WellAt st s ∧ crew.length ≤ 1000 ∧ part.length ≤ 1000 ∧ (∀ y ∈ part, y ∈ crew) ∧ ∀ M o, M.Sublist crew → (∀ y ∈ part, y ∈ M) → isWell o → Q (wR M) (st.set s o)
theorem mo_be : MonoF F_be := ⟨fun ws st Q Q' f ⟨s, c, p, e, a, b, d, i, q⟩ => ⟨s, c, p, e, a, b, d, i, fun M o h1 h2 h3 => f _ _ (q M o h1 h2 h3)⟩⟩
def m_be : MS :=
  (sSeq (sAsg (mOp oCatT (mVar 2) (mCB F_so (aCons (mVar 0) (aCons (mVar 1) aNil)))) (gN 3))
      (sRet (mCB cTup (aCons (mLc (iT (mVar 1)) (gN 4) (mB (mOp (oInI false) (mVar 4) (mVar 3))) (mVar 4) [4]) aNil))))
theorem do_be : Does m_be 3 2 F_be := by
  rintro ws st Q ⟨s, crew, part, rfl, W0, cl, pl, sub, q⟩
  have lt := W0.lt
  refine ⟨rfl, sq_setD (s := s) (P := fun w => ∃ ms, w = wR (part ++ ms)) (fun Q q => ?_) ?_⟩
  · refine ev_var (w := wR part) rfl _ ?_
    refine dr_some (s := s) (r := crew) ?_ cl W0 _ fun w o ho ⟨ms, e, sm⟩ => ?_
    · exact ea_cons (ev_var rfl) (ea_cons (ev_var rfl) ea_nil)
    · subst e
      have := sm.length_le
      refine ⟨by rw [List.length_map, List.length_map]; omega, ?_⟩
      rw [← List.map_append]
      exact q _ o ho ⟨ms, rfl⟩
  · rintro w o ho ⟨ms, rfl⟩
    unfold sRet mCB aCons
    refine lc_row (r := crew) (fun y => decide (y ∈ part ++ ms)) (ev_var rfl) (by omega) (show 4 < 5 by decide) (fun y hy acc => et_b (ev_in (i := y) (ns := part ++ ms) (ev_var rfl) (ev_var rfl))) ?_
    refine ⟨_, app_at, allD_at (bs := (crew.filter fun y => decide (y ∈ part ++ ms)).map .int) (by rw [List.map_map]; rfl) ⟨st.set s o, [_], rfl, xs_gc ho, trivial, ?_⟩⟩
    exact q _ o List.filter_sublist (fun y hy => List.mem_filter.mpr ⟨sub y hy, decide_eq_true (List.mem_append.mpr (.inl hy))⟩) ho
end FL

/-! Sorting tuples of whole numbers, however many. -/
namespace KV
open PySem PySem.Spec PyProof.Rows L2 KL KG GR SrtO Srt
section
variable {prog : Program} {w : World} {A : Around} {E : Value → Shared → Prop} {s : Shared}
theorem tups_cmp {D : Nat} {B : Int} (hB : 0 ≤ B) {vs : List Value} (x : TupsV s.heap D B vs) (r : Value → Int) (hr : ∀ v ∈ vs, ∀ ns, TS.TupInts s.heap v ns → r v = rk B D ns) : SrtO.Cmp prog w A s (tuples' true) (fun p => p.1 ∈ vs) (lt2 fun v u => lexB (r v, 0) (r u, 0)) := by
  intro p q mp mq
  obtain ⟨ns, tp, _, lp, bp⟩ := x _ mp
  obtain ⟨ms, tq, _, lq, bq⟩ := x _ mq
  show wpAny (model prog w) A (keyLt' (tuples' true) p.1 q.1) (fun z s' => s' = s ∧ z = lexB (r p.1, 0) (r q.1, 0)) (fun _ _ => False) s
  have e : lexB (r p.1, 0) (r q.1, 0) = ltI ns ms := by
    have z := rk_lt hB D ns ms bp bq lp lq
    rw [← hr _ mp _ tp, ← hr _ mq _ tq] at z
    unfold lexB
    show (if r p.1 = r q.1 then decide ((0 : Int) < 0) else decide (r p.1 < r q.1)) = _
    cases c : ltI ns ms with
    | true =>
      have := z.mpr c
      rw [if_neg (by omega)]
      exact decide_eq_true this
    | false =>
      have : ¬ r p.1 < r q.1 := fun y => by rw [z.mp y] at c; cases c
      split
      · rfl
      · exact decide_eq_false this
  rw [e, ← ltI_lex]
  obtain ⟨a, xs, e1, ⟨o, ho, hc, n, hd⟩, i1⟩ := tp
  obtain ⟨a', ys, e2, ⟨o', ho', hc', n', hd'⟩, i2⟩ := tq
  rw [e1, e2]
  refine PySem.W.kat_lt ho hd ho' hd' ?_
  have s1 : xs.size = ns.length := by rw [← i1.length, Array.length_toList]
  have s2 : ys.size = ms.length := by rw [← i2.length, Array.length_toList]
  rw [s1, s2]
  exact lex_any i1 0 i2 ⟨rfl, rfl⟩
theorem tups_sortable {a : Addr} {D : Nat} {B : Int} (hB : 0 ≤ B) {vs : List Value} (h0 : 0 < vs.length) (x : TupsV s.heap D B vs) (r : Value → Int) (hr : ∀ v ∈ vs, ∀ ns, TS.TupInts s.heap v ns → r v = rk B D ns) (ha : ∀ o, s.heap.get? a = some o → o.cls ≠ .type "tuple") : SortableO prog w A s a vs fun v u => lexB (r v, 0) (r u, 0) := by
  intro h' keep
  have old : ∀ b o, s.heap.get? b = some o → o.cls = .type "tuple" → h'.get? b = some o := fun b o e c => keep b o (fun z => by subst z; exact ha o e c) e
  have x' : TupsV h' D B vs := x.keeps old
  obtain ⟨fs, k, l, i⟩ := heads_of x'
  refine ⟨tuples' true, fun Q E hq => ?_, tups_cmp (s := { s with heap := h' }) hB x' r fun v hv ns t => ?_⟩
  · refine PySem.W.kat_kind (T := Value.type "int") k (by omega) (fun f hf => ?_) (by rfl) ?_
    · obtain ⟨n, t, e⟩ := i f hf
      rw [e]
      exact PySem.W.Looks.now
    · have e : (Value.type "int" != Value.type "tuple") = true := by first | decide +kernel | rfl | decide
      rw [e]
      exact hq
  · obtain ⟨ns0, t0, _⟩ := x v hv
    rw [show ns = ns0 from t.ints.symm.trans (t0.keeps old).ints]
    exact hr v hv ns0 t0
theorem sortedW {l : Addr} {vs : List Value} {D : Nat} {B : Int} (hB : 0 ≤ B) {Q : Value → Shared → Prop} (hl : s.heap.IsList l vs.toArray) (hz : vs.length ≤ sizeLine) (x : TupsV s.heap D B vs)
    (h : ∀ out : Array Value, out.toList.Perm vs → out.toList.Pairwise (fun u v => rk B D (TS.intsOf s.heap u) ≤ rk B D (TS.intsOf s.heap v)) → Q (.ref (s.heap.objs.size + 1)) { s with heap := sortedAll s.heap vs out }) :
    wpAny (model prog w) A (call (.builtin "sorted") [.ref l]) Q E s := by
  refine sorted_ord (swo_lex fun v => (rk B D (TS.intsOf s.heap v), 0)) hl hz (fun h2 h₁ a ha kk => ?_) fun out hs hb => ?_
  · have old : ∀ b o, s.heap.get? b = some o → o.cls = .type "tuple" → h₁.get? b = some o := fun b o e _ => (kk b o e).2
    refine tups_sortable (s := { s with heap := h₁ }) hB (by omega) (x.keeps old) (fun v => rk B D (TS.intsOf s.heap v)) (fun v hv ns t => ?_) fun o e => ?_
    · obtain ⟨ns0, t0, _⟩ := x v hv
      rw [show ns = ns0 from t.ints.symm.trans (t0.keeps old).ints]
      exact congrArg (rk B D) t0.ints
    · have e' : some o = some (seqObj "list" vs.toArray 0) := e.symm.trans ha
      cases e'
      intro c
      exact absurd (Value.type.inj c) (by decide)
  · refine h out.toArray (by simpa using hb.perm) ?_
    have hs' : out.Pairwise (fun u v => rk B D (TS.intsOf s.heap u) ≤ rk B D (TS.intsOf s.heap v)) := by
      refine List.Pairwise.imp (fun {u v} z => ?_) hs
      have z := lexB_no.mp z
      have : ¬ rk B D (TS.intsOf s.heap v) < rk B D (TS.intsOf s.heap u) := fun y => z (.inl y)
      omega
    simpa using hs'
end
def rSortW (K : PySem.W.Frag) (D : Nat) (B : Int) : List V → Hp → VK → Prop := fun vs H Q => ∃ (a : Addr) (xs : List V), vs = [V.ref a] ∧ SqL K H a xs ∧ (∀ x ∈ xs, ∃ ns, TupI K H x ns ∧ 1 ≤ ns.length ∧ ns.length ≤ D ∧ Dg B ns) ∧
  ∀ (ys : List V) (p : Addr), ys.Perm xs → ys.Pairwise (fun x y => ∀ n m, TupI K H x n → TupI K H y m → ltI m n = false) → H p = none → Q (.ref p) (upd H p (.lst ys))
theorem cr_sortW {X : Cx} {D : Nat} {B : Int} (hB : 0 ≤ B) : CallR X (.builtin "sorted") (rSortW X.K D B) := by
  intro pins s σ H vs us Q I r h
  obtain ⟨a, xs, rfl, hs, hx, q⟩ := h
  obtain ⟨its, rv, hl, hz⟩ := I.list hs
  rw [Vals.ref1 r]
  obtain ⟨e1, e2⟩ := bkV_refs rv fun x m => by
    obtain ⟨ns, ⟨t, e, _⟩, _⟩ := hx x m
    exact ⟨t, e⟩
  have ok : TupsV s.heap D B its := fun v hv => by
    obtain ⟨t, rfl⟩ := e2 v hv
    obtain ⟨ns, ⟨t', e, ht⟩, r⟩ := hx (V.ref t) (by rw [e1]; exact List.mem_map.mpr ⟨_, hv, rfl⟩)
    cases e
    exact ⟨ns, tupI_raw I ht, r⟩
  refine sortedW (D := D) (B := B) hB hl.isList (by rw [← rv.length]; exact hz) ok fun out h1 h2 => ?_
  obtain ⟨ep, he⟩ := PyProof.Rows.sortedAll_at s.heap its out
  have h3 : ∀ u ∈ out.toList, ∃ a, u = Value.ref a := fun u hu => e2 u (h1.mem_iff.mp hu)
  have hp : (out.toList.map bkV).Perm xs := by
    rw [e1]
    exact h1.map bkV
  refine ⟨.ref _, upd H (s.heap.objs.size + 1) (.lst (out.toList.map bkV)), I.laid (t' := s.toks) (fun _ _ => PyProof.Rows.sortedAll_old) (Nat.le_succ _) ⟨by rw [hp.length_eq]; exact hz, out.toList, ep, bkV_vals h3, he⟩, rfl, q _ _ hp ?_ (I.hok.fresh (Nat.le_succ _))⟩
  rw [List.pairwise_map]
  refine List.Pairwise.imp_of_mem (fun {u v} hu hv huv n m hn hm => ?_) h2
  obtain ⟨t, et, ht⟩ := hn
  obtain ⟨t', et', ht'⟩ := hm
  obtain ⟨ns, t1, _, l1, b1⟩ := ok u (h1.mem_iff.mp hu)
  obtain ⟨ms, t2, _, l2, b2⟩ := ok v (h1.mem_iff.mp hv)
  have i1 : n = ns := by
    rw [bkV_ref et] at t1
    exact (tupI_raw I ht).ints.symm.trans t1.ints
  have i2 : m = ms := by
    rw [bkV_ref et'] at t2
    exact (tupI_raw I ht').ints.symm.trans t2.ints
  rw [t1.ints, t2.ints] at huv
  rw [i1, i2]
  exact (rk_le hB b1 b2 l1 l2).mp huv
end KV
namespace FL
open PySem PySem.Spec PyProof.Rows L2 KL KG GR KV KS KY
section
variable {K : PySem.W.Frag} {ts μ μ' : List Addr} {H G : Hp} {st : Sto}
/-- sorted(xs), rows, however many -/
def cSortW (D : Nat) (B : Int) : List W → Sto → WQ → Prop := fun ws st Q => one1 ws fun w => ls1 w st fun _ xs => rowsW xs fun rs => (∀ r ∈ rs, 1 ≤ r.length ∧ r.length ≤ D ∧ Dg B r) ∧
  ∀ ms : List (List Int), ms.Perm rs → ms.Pairwise (fun x y => ltI y x = false) → Q (.l st.length) (st ++ [.ls (ms.map wR)])
theorem xc_sortW {D : Nat} {B : Int} : XC K ts (rSortW K D B) (cSortW D B) := by
  refine ⟨fun ws st Q Q' f => one1.imp fun w => ls1.imp fun n xs => rowsW.imp fun rs q => ⟨q.1, fun ms p pw => f _ _ (q.2 ms p pw)⟩, fun μ st H vs ws Q S r h => ?_⟩
  obtain ⟨w, rfl, h1⟩ := one1.ex h
  obtain ⟨v, rfl, r1⟩ := RWL.one r
  obtain ⟨n, xs, rfl, e, q⟩ := ls1.ex h1
  obtain ⟨rs, rfl, ok, q⟩ := rowsW.ex q
  obtain ⟨a, us, ea, rfl, e1, h2⟩ := S.list r1 e
  refine ⟨a, us, rfl, .inl (.inl e1), fun x hx => ?_, fun ys p pm pw np => ?_⟩
  · obtain ⟨r, hr, d⟩ := RWL.rows_ex h2 x hx
    exact ⟨r, TD.row d, ok r hr⟩
  · obtain ⟨ms, p2, r3⟩ := RWL.permR pm h2
    obtain ⟨g2, S2, r2⟩ := S.allocR np r3
    exact q ms p2 (RWL.pwR r3 pw) _ _ _ g2 S2 r2
end
end FL

/-! The law's own hedges: all lots around a part. -/
namespace FL
open PySem PySem.Spec PyProof.Rows L2 KL KG GR KV KS KY RT
open Classical
/-- all lots of ms with ss in them -/
noncomputable def lotsF (ss : List Int) (rows : List (List Int)) (m : Int) : List (List Int) := rows.map (· ++ [m]) ++ (if m ∈ ss then [] else rows)
noncomputable def allL (ss ms : List Int) : List (List Int) := ms.foldl (lotsF ss) [[]]
theorem mem_allL {ss : List Int} : ∀ (ms pre : List Int) (rows : List (List Int)), (∀ R, R ∈ rows ↔ R.Sublist pre ∧ ∀ y ∈ pre, y ∈ ss → y ∈ R) → (pre ++ ms).Nodup → ∀ R, R ∈ ms.foldl (lotsF ss) rows ↔ R.Sublist (pre ++ ms) ∧ ∀ y ∈ pre ++ ms, y ∈ ss → y ∈ R
  | [], pre, rows, h, _ => fun R => by rw [List.append_nil]; exact h R
  | m :: ms, pre, rows, h, nd => fun R => by
    have e : pre ++ m :: ms = (pre ++ [m]) ++ ms := by simp
    rw [e] at nd ⊢
    refine mem_allL ms (pre ++ [m]) (lotsF ss rows m) (fun T => ?_) nd R
    have mp : m ∉ pre := fun hm => by
      have := (List.nodup_append.mp (List.nodup_append.mp nd).1).2.2 m hm m List.mem_cons_self
      exact this rfl
    unfold lotsF
    rw [List.mem_append, List.mem_map]
    constructor
    · rintro (⟨U, hU, rfl⟩ | hT)
      · obtain ⟨h1, h2⟩ := (h U).mp hU
        refine ⟨h1.append (List.Sublist.refl _), fun y hy hs => ?_⟩
        rcases List.mem_append.mp hy with hy | hy
        · exact List.mem_append.mpr (.inl (h2 y hy hs))
        · exact List.mem_append.mpr (.inr hy)
      · split at hT
        · cases hT
        · rename_i c
          obtain ⟨h1, h2⟩ := (h T).mp hT
          refine ⟨h1.trans (List.sublist_append_left _ _), fun y hy hs => ?_⟩
          rcases List.mem_append.mp hy with hy | hy
          · exact h2 y hy hs
          · rw [List.mem_singleton.mp hy] at hs
            exact absurd hs c
    · rintro ⟨h1, h2⟩
      obtain ⟨A, B, rfl, hA, hB⟩ := List.sublist_append_iff.mp h1
      have hB' : B = [] ∨ B = [m] := by
        cases B with
        | nil => exact .inl rfl
        | cons b B =>
          have l : B.length + 1 ≤ 1 := hB.length_le
          have : B = [] := List.eq_nil_of_length_eq_zero (by omega)
          subst this
          have : b ∈ [m] := hB.subset List.mem_cons_self
          rw [List.mem_singleton] at this
          subst this
          exact .inr rfl
      rcases hB' with rfl | rfl
      · rw [List.append_nil] at h2 ⊢
        have c : m ∉ ss := fun c => mp (hA.subset (h2 m (by simp) c))
        rw [if_neg c]
        exact .inr ((h A).mpr ⟨hA, fun y hy hs => h2 y (List.mem_append.mpr (.inl hy)) hs⟩)
      · refine .inl ⟨A, (h A).mpr ⟨hA, fun y hy hs => ?_⟩, rfl⟩
        rcases List.mem_append.mp (h2 y (List.mem_append.mpr (.inl hy)) hs) with z | z
        · exact z
        · rw [List.mem_singleton] at z
          subst z
          exact absurd hy mp
theorem mem_all {ss ms R : List Int} (nd : ms.Nodup) : R ∈ allL ss ms ↔ R.Sublist ms ∧ ∀ y ∈ ms, y ∈ ss → y ∈ R := by
  have z := mem_allL (ss := ss) ms [] [[]] (fun R => by
    rw [List.mem_singleton]
    exact ⟨fun e => by subst e; exact ⟨List.Sublist.refl _, fun y hy => by cases hy⟩, fun h => List.sublist_nil.mp h.1⟩) (by simpa using nd) R
  simpa [allL] using z
theorem all_len {ss : List Int} : ∀ (ms : List Int) (rows : List (List Int)), (ms.foldl (lotsF ss) rows).length ≤ 2 ^ ms.length * rows.length
  | [], rows => by simp
  | m :: ms, rows => by
    have h := all_len (ss := ss) ms (lotsF ss rows m)
    have l : (lotsF ss rows m).length ≤ 2 * rows.length := by
      unfold lotsF
      rw [List.length_append, List.length_map]
      split
      · simp; omega
      · omega
    rw [List.foldl_cons, List.length_cons, Nat.pow_succ]
    refine Nat.le_trans h ?_
    rw [Nat.mul_assoc]
    exact Nat.mul_le_mul_left _ l
/-! ### lists of lists -/
def RowsAt (s : Sto) : List W → List (List Int) → Prop := Paired fun w r => ∃ k, w = .l k ∧ s[k]? = some (.ls (r.map wI))
theorem RowsAt.mv {s s' : Sto} (f : ∀ (k : Nat) (o : Ob), s[k]? = some o → s'[k]? = some o) : ∀ {ws : List W} {rs : List (List Int)}, RowsAt s ws rs → RowsAt s' ws rs
  | _, _, .nil => .nil
  | _, _, .cons ⟨k, e, h⟩ t => .cons ⟨k, e, f k _ h⟩ (RowsAt.mv f t)
theorem RowsAt.app {s : Sto} : ∀ {ws us : List W} {rs qs : List (List Int)}, RowsAt s ws rs → RowsAt s us qs → RowsAt s (ws ++ us) (rs ++ qs)
  | _, _, _, _, .nil, h => h
  | _, _, _, _, .cons a t, h => .cons a (RowsAt.app t h)
theorem RowsAt.len {s : Sto} : ∀ {ws : List W} {rs : List (List Int)}, RowsAt s ws rs → ws.length = rs.length
  | _, _, .nil => rfl
  | _, _, .cons _ t => congrArg (· + 1) (RowsAt.len t)
theorem RowsAt.get {s : Sto} : ∀ {ws : List W} {rs : List (List Int)} {i : Nat} {w : W}, RowsAt s ws rs → ws[i]? = some w → ∃ r k, rs[i]? = some r ∧ w = .l k ∧ s[k]? = some (.ls (r.map wI))
  | _, _, 0, w, .cons (b := r) ⟨k, e, h⟩ _, ew => ⟨r, k, rfl, by rw [← Option.some.inj ew]; exact e, h⟩
  | _, _, i + 1, w, .cons _ t, ew => RowsAt.get (i := i) t ew
theorem RowsAt.ok {s : Sto} : ∀ {ws : List W} {rs : List (List Int)}, RowsAt s ws rs → ∀ w ∈ ws, okW s.length w
  | _, _, .nil => fun w hw => by cases hw
  | _, _, .cons ⟨k, e, h⟩ t => fun w hw => by
    rcases List.mem_cons.mp hw with rfl | hw
    · subst e
      exact (List.getElem?_eq_some_iff.mp h).1
    · exact RowsAt.ok t w hw
theorem RowsAt.off {s : Sto} {n : Nat} : ∀ {ws : List W} {rs : List (List Int)}, RowsAt s ws rs → (∀ k, W.l k ∈ ws → k ≠ n) → ∀ o, RowsAt (s.set n o) ws rs
  | _, _, .nil, _, _ => .nil
  | _, _, .cons ⟨k, e, h⟩ t, f, o => .cons ⟨k, e, by
      rw [List.getElem?_set_ne (fun z => f k (by rw [← e]; exact List.mem_cons_self) z.symm)]
      exact h⟩ (RowsAt.off t (fun k hk => f k (List.mem_cons_of_mem _ hk)) o)
theorem okO_ints (n : Nat) (ns : List Int) : okO n (.ls (ns.map wI)) := fun w hw => by
  obtain ⟨x, _, rfl⟩ := List.mem_map.mp hw
  trivial
theorem okO_rows (n : Nat) (rs : List (List Int)) : okO n (.ls (rs.map wR)) := fun w hw => by
  obtain ⟨x, _, rfl⟩ := List.mem_map.mp hw
  trivial
/-- [row + [at] for row in lots] -/
theorem lc_longer {st : Sto} {ρ : Ev} {s : Sto} {Q : WQ} {a b c : Nat} {n : Nat} {L : List W} {rows : List (List Int)} {m : Int} (gc : Gcd st s) (ea : ρ[a]? = some (some (.l n))) (eb : ((ρ.set c none))[b]? = some (some (wI m))) (bc : b ≠ c) (hc : c < ρ.length) (e : s[n]? = some (.ls L)) (R : RowsAt s L rows) (small : rows.length ≤ 1000) (short : ∀ r ∈ rows, r.length ≤ 1000)
    (q : ∀ g acc, Gcd st (s ++ (.ls acc :: g)) → RowsAt (s ++ (.ls acc :: g)) acc (rows.map (· ++ [m])) → Q (.l s.length) (s ++ (.ls acc :: g))) : mLc (iL (mVar a)) (gN c) mYes (mOp oCatL (mVar c) (mLst (aCons (mVar b) aNil))) [c] ρ s Q := by
  have gl : n < s.length := (List.getElem?_eq_some_iff.mp e).1
  unfold mLc iL
  refine ev_var ea _ ⟨L, e, fun i s' => ∃ g acc, s' = s ++ (.ls acc :: g) ∧ Gcd st s' ∧ RowsAt s' acc ((rows.take i).map (· ++ [m])) ∧ (∀ k, W.l k ∈ acc → k ≠ s.length), ⟨[], [], rfl, Gcd.app gc (fun w hw => by cases hw), .nil, fun k hk => by cases hk⟩, ?_, ?_, ?_⟩
  · rintro i s' ⟨g, acc, rfl, _⟩
    rw [List.getElem?_append_left gl]
    exact e
  · rintro i w s' hw ⟨g, acc, rfl, gc', ra, off⟩
    obtain ⟨r, k, hr, rfl, hk⟩ := R.get hw
    have kl : k < s.length := (List.getElem?_eq_some_iff.mp hk).1
    have hi : i < rows.length := (List.getElem?_eq_some_iff.mp hr).1
    have al := ra.len
    rw [List.length_map, List.length_take] at al
    have rl := short r (List.mem_of_getElem? hr)
    unfold gN mYes
    show (if true = true then _ else _)
    rw [if_pos rfl]
    have hk' : (s ++ (Ob.ls acc :: g))[k]? = some (.ls (r.map wI)) := by rw [List.getElem?_append_left kl]; exact hk
    refine ev_var (w := .l k) ?_ _ ?_
    · rw [List.getElem?_set_self]
      unfold wipeE wipeE
      rw [List.length_set]
      exact hc
    refine ev_var (w := wI m) ?_ _ ?_
    · rw [List.getElem?_set_ne bc.symm]
      exact eb
    refine ⟨(show 1 ≤ 1000000 by decide), ?_⟩
    refine ⟨_, app_lt hk', _, app_at, by rw [List.length_map]; simp; omega, ?_⟩
    refine ⟨acc, ?_, by omega, g ++ [.ls [wI m], .ls (r.map wI ++ [wI m])], acc ++ [.l ((s ++ (Ob.ls acc :: g) ++ [Ob.ls [wI m]]).length)], ?_, ?_, ?_, ?_⟩
    · rw [app11, List.getElem?_append_left (by simp)]
      exact mid_at
    · rw [app11, mid_app, mid_set]
    · rw [app11, mid_app, mid_set]
      have g1 := Gcd.app gc' (okO_ints _ [m])
      have g2 := Gcd.app g1 (o := .ls (r.map wI ++ [wI m])) (by rw [← snocI]; exact okO_ints _ _)
      rw [app11] at g2
      have g3 := Gcd.set (n := s.length) (o := .ls (acc ++ [.l ((s ++ (Ob.ls acc :: g) ++ [Ob.ls [wI m]]).length)])) g2 (fun w hw => by
        rcases List.mem_append.mp hw with hw | hw
        · have := ra.ok w hw
          exact okW.up (by simp) this
        · rw [List.mem_singleton.mp hw]
          show _ < _
          simp)
      rw [mid_app, mid_set] at g3
      exact g3
    · have ne : ∀ k, W.l k ∈ acc ++ [W.l ((s ++ (Ob.ls acc :: g) ++ [Ob.ls [wI m]]).length)] → k ≠ s.length := fun k hk => by
        rcases List.mem_append.mp hk with hk | hk
        · exact off k hk
        · rw [List.mem_singleton] at hk
          injection hk with hk
          rw [hk]
          simp
      have pr : RowsAt (s ++ (Ob.ls acc :: g) ++ [Ob.ls [wI m], Ob.ls (r.map wI ++ [wI m])]) (acc ++ [W.l ((s ++ (Ob.ls acc :: g) ++ [Ob.ls [wI m]]).length)]) ((rows.take (i + 1)).map (· ++ [m])) := by
        rw [List.take_add_one, hr, List.map_append]
        refine RowsAt.app (ra.mv fun k o h => app_lt h) (.cons ⟨_, rfl, ?_⟩ .nil)
        rw [← app11, ← snocI]
        exact app_at
      have z := pr.off ne (.ls (acc ++ [W.l ((s ++ (Ob.ls acc :: g) ++ [Ob.ls [wI m]]).length)]))
      rw [mid_app, mid_set] at z
      rw [app11, mid_app, mid_set]
      exact z
    · intro k hk
      rcases List.mem_append.mp hk with hk | hk
      · exact off k hk
      · rw [List.mem_singleton] at hk
        injection hk with hk
        rw [hk]
        simp
  · rintro s' ⟨g, acc, rfl, gc', ra, off⟩
    rw [RowsAt.len R, List.take_length] at ra
    exact q g acc gc' ra
/-- a lot that the law's own search finds -/
def HgR (ar hs : List (List Int)) (ss S R : List Int) : Prop := (R.Sublist S ∧ ∀ y ∈ S, y ∈ ss → y ∈ R) ∧ ss.length < R.length ∧ (rowsL hs R).length = 1 ∧ (ancL ar R ss).length = R.length
def F_he : List W → Sto → WQ → Prop := fun ws st Q => ∃ (n : PyData) (ar hs : List (List Int)) (ss S : List Int), ws = [.d (.tuple [n, dRows ar, dRows hs]), wR ss, wR S] ∧ S.length ≤ 8 ∧ Asc S ∧ (∀ y ∈ S, 0 ≤ y ∧ y < (8 : Int)) ∧ Up ar ∧ ar.length ≤ 1000 ∧ (∀ b ∈ hs, b.length ≤ 1000) ∧
  ∀ (g : Sto) (rs : List (List Int)), (∀ R, R ∈ rs ↔ HgR ar hs ss S R) → rs.length ≤ 1000 → rs.Pairwise (fun x y => ltI y x = false) → Q (.l (st ++ g).length) (st ++ g ++ [.ls (rs.map wR)])
theorem mo_he : MonoF F_he := ⟨fun ws st Q Q' f ⟨n, ar, hs, ss, S, e, a, b, c, d, i, k, q⟩ => ⟨n, ar, hs, ss, S, e, a, b, c, d, i, k, fun g rs h1 h2 h3 => f _ _ (q g rs h1 h2 h3)⟩⟩
def m_he : MS :=
  (sSeq (sAsg (mLst (aCons (mLst aNil) aNil)) (gN 3))
      (sSeq (sFor (iT (mVar 2)) (gN 4)
      (sAsg (mOp oCatL (mLc (iL (mVar 3)) (gN 5) mYes (mOp oCatL (mVar 5) (mLst (aCons (mVar 4) aNil))) [5]) (mLc (iL (mVar 3)) (gN 5) (mB (mOp (oInI true) (mVar 4) (mVar 1))) (mVar 5) [5])) (gN 3)))
      (sSeq (sAsg (mLst aNil) (gN 6))
      (sSeq (sFor (iL (mVar 3)) (gN 5)
      (sIf (mAnd (mB (mOp oGt (mCB cLen (aCons (mVar 5) aNil)) (mCB cLen (aCons (mVar 1) aNil)))) (mAnd (mB (mOp oEqI (mCB cLen (aCons (mCB F_lu (aCons (mVar 0) (aCons (mVar 5) aNil))) aNil)) (mC (.int 1)))) (mB (mOp oEqI (mCB cLen (aCons (mCB F_up (aCons (mVar 0) (aCons (mVar 5) (aCons (mVar 1) aNil)))) aNil)) (mCB cLen (aCons (mVar 5) aNil)))))) (sDrop (mBM cApp (mVar 6) (aCons (mCB cTup (aCons (mVar 5) aNil)) aNil))) sNext))
      (sRet (mCB (cSortW 8 8) (aCons (mVar 6) aNil)))))))
theorem asg_gN {n : Nat} {w : W} {ρ : Ev} {st : Sto} {m : ME} {g : MG} {E : WE} (h : m (ρ.set n (some w)) st fun u s => g u (ρ.set n (some w)) s E.nx) : gN n w ρ st (fun ρ2 s2 => sAsg m g ρ2 s2 E) := h
theorem mop_i {ρ : Ev} {st : Sto} {ma mb : ME} {o : W → W → Sto → WQ → Prop} {Q : WQ} (h : ma ρ st fun w s1 => mb ρ s1 fun u s2 => o w u s2 Q) : mOp o ma mb ρ st Q := h
theorem do_he : Does m_he 3 4 F_he := by
  rintro ws st Q ⟨n, ar, hs, ss, S, rfl, hl, asc, bd, up, al, hb, q⟩
  have few : ∀ i, ((S.take i).foldl (lotsF ss) [[]]).length ≤ 256 := fun i => by
    have h := all_len (ss := ss) (S.take i) [[]]
    rw [List.length_singleton, Nat.mul_one, List.length_take] at h
    refine Nat.le_trans h ?_
    have : 2 ^ min i S.length ≤ 2 ^ 8 := Nat.pow_le_pow_right (by decide) (by omega)
    exact this
  have nds : ∀ i, (S.take i).Nodup := fun i => (asc_nodup asc).sublist (List.take_sublist _ _)
  have short : ∀ i, ∀ r ∈ (S.take i).foldl (lotsF ss) [[]], r.length ≤ 8 := fun i r hr => by
    have := ((mem_all (nds i)).mp hr).1.length_le
    rw [List.length_take] at this
    omega
  refine ⟨rfl, ?_⟩
  have start : ∀ (r : MS) (E : WE) (ρ : Ev), r (ρ.set 3 (some (.l (st.length + 1)))) (st ++ [.ls [], .ls [.l st.length]]) E → sSeq (sAsg (mLst (aCons (mLst aNil) aNil)) (gN 3)) r ρ st E := fun r E ρ h => by
    refine ⟨by decide, (show 1 ≤ 1000000 by decide), ?_⟩
    show r (ρ.set 3 (some (.l (st ++ [Ob.ls []]).length))) (st ++ [Ob.ls []] ++ [Ob.ls [.l st.length]]) E
    rw [len1, app11]
    exact h
  refine start _ _ _ ?_
  refine sq_forI (α := Int) (st1 := st ++ [.ls [], .ls [.l st.length]]) wI S (fun i ρ s => ∃ (n0 : Nat) (L : List W) (y4 y5 : Option W), ρ = [some (.d (.tuple [n, dRows ar, dRows hs])), some (wR ss), some (wR S), some (.l n0), y4, y5, none] ∧ st <+: s ∧ Gcd st s ∧ s[n0]? = some (.ls L) ∧ RowsAt s L ((S.take i).foldl (lotsF ss) [[]])) (gd := fun _ => True) ?_ ⟨st.length + 1, _, none, none, rfl, List.prefix_append _ _, ?_, app2_at1, .cons ⟨_, rfl, app2_at⟩ .nil⟩ (fun _ _ _ _ => trivial) ?_ ?_
  · exact wk_row (ev_var rfl)
  · rw [← app11]
    refine Gcd.app (Gcd.app Gcd.rfl' (o := .ls []) (show okO (st.length + 1) (.ls []) from fun w hw => by cases hw)) (show okO ((st ++ [Ob.ls []]).length + 1) (.ls [.l st.length]) from fun w hw => ?_)
    rw [List.mem_singleton.mp hw]
    show st.length < (st ++ [Ob.ls []]).length + 1
    rw [len1]
    omega
  · rintro i x ρ s hx ⟨n0, L, y4, y5, rfl, pre, gc, en, ra⟩
    have nxt : (S.take (i + 1)).foldl (lotsF ss) [[]] = lotsF ss ((S.take i).foldl (lotsF ss) [[]]) x := by
      rw [List.take_add_one, hx, List.foldl_append]
      rfl
    have fw := few i
    have sh := short i
    generalize (S.take i).foldl (lotsF ss) [[]] = rows at nxt ra fw sh
    have ll := ra.len
    refine asg_gN (mop_i ?_)
    refine lc_longer (a := 3) (b := 4) (c := 5) (n := n0) (m := x) gc rfl rfl (by decide) (show 5 < 7 by decide) en ra (by omega) (fun r hr => by have := sh r hr; omega) fun g acc gc1 r1 => ?_
    have l1 := r1.len
    rw [List.length_map] at l1
    have n0l := (List.getElem?_eq_some_iff.mp en).1
    refine lc_map (α := W) (fun w => w) L (fun _ => !decide (x ∈ ss)) (fun w => w) (gd := fun s' => s'[n0]? = some (.ls L)) (fun R r => ?_) (fun acc2 => app_lt (app_lt en)) (by omega) (fun w hw acc2 Pk Pn h1 h2 => ?_) ?_
    · rw [List.map_id'] at r
      exact wk_list (ev_var rfl) (app_lt en) R r
    · refine et_b (ev_notin (i := x) (ns := ss) (ev_var rfl) (ev_var rfl)) _ ?_
      cases c : !decide (x ∈ ss) with
      | true =>
        rw [if_pos rfl]
        refine ev_var (w := w) ?_ _ (h1 c)
        rfl
      | false =>
        rw [if_neg Bool.false_ne_true]
        exact h2 c
    · rw [List.map_id']
      refine ⟨acc, app_lt mid_at, _, app_at, ?_, ?_⟩
      · have := List.length_filter_le (fun _ : W => !decide (x ∈ ss)) L
        omega
      have okF : ∀ w ∈ L.filter (fun _ => !decide (x ∈ ss)), okW s.length w := fun w hw => ra.ok w (List.mem_filter.mp hw).1
      have sl : s.length ≤ (s ++ (Ob.ls acc :: g)).length := by simp
      refine ⟨_, _, _, _, rfl, pre.trans ((List.prefix_append _ _).trans ((List.prefix_append _ _).trans (List.prefix_append _ _))), ?_, app_at, ?_⟩
      · refine Gcd.app (Gcd.app gc1 (o := .ls (L.filter fun _ => !decide (x ∈ ss))) (show okO _ (.ls _) from fun w hw => okW.up (Nat.le_trans sl (Nat.le_succ _)) (okF w hw))) (show okO _ (.ls (acc ++ L.filter fun _ => !decide (x ∈ ss))) from fun w hw => ?_)
        rcases List.mem_append.mp hw with hw | hw
        · exact okW.up (by rw [len1]; omega) (r1.ok w hw)
        · exact okW.up (by rw [len1]; omega) (okF w hw)
      · rw [nxt]
        unfold lotsF
        refine RowsAt.app (r1.mv fun k o h => app_lt (app_lt h)) ?_
        by_cases c : x ∈ ss
        · rw [decide_eq_true c, if_pos c]
          have e : L.filter (fun _ => !true) = [] := List.filter_eq_nil_iff.mpr fun w _ => by simp
          rw [e]
          exact .nil
        · rw [decide_eq_false c, if_neg c]
          have e : L.filter (fun _ => !false) = L := List.filter_eq_self.mpr fun w _ => rfl
          rw [e]
          exact ra.mv fun k o h => app_lt (app_lt (app_lt h))
  rintro ρ s ⟨n0, L, y4, y5, rfl, ⟨g0, rfl⟩, gc, en, ra⟩
  have fw := few S.length
  have sh := short S.length
  rw [List.take_length] at ra fw sh
  have mem : ∀ R, R ∈ S.foldl (lotsF ss) [[]] ↔ R.Sublist S ∧ ∀ y ∈ S, y ∈ ss → y ∈ R := fun R => mem_all (asc_nodup asc)
  generalize S.foldl (lotsF ss) [[]] = rows at ra fw sh mem
  have ll := ra.len
  refine sq_lst0 ?_
  let P : List Int → Bool := fun r => decide ((ss.length : Int) < (r.length : Nat)) && (decide (((rowsL hs r).length : Int) = 1) && decide (((ancL ar r ss).length : Int) = (r.length : Nat)))
  refine sq_forI (α := W) (st1 := st ++ g0 ++ [.ls []]) (fun w => w) L (fun i ρ s => ∃ (y5 : Option W), ρ = [some (.d (.tuple [n, dRows ar, dRows hs])), some (wR ss), some (wR S), some (.l n0), y4, y5, some (.l (st ++ g0).length)] ∧ s = st ++ g0 ++ [.ls (((rows.take i).filter P).map wR)]) (gd := fun s' => s'[n0]? = some (.ls L)) ?_ ⟨y5, rfl, rfl⟩ (fun i ρ s h => ?_) ?_ ?_
  · intro R r
    rw [List.map_id'] at r
    exact wk_list (ev_var rfl) (app_lt en) R r
  · obtain ⟨y5, _, rfl⟩ := h
    exact app_lt en
  · rintro i w ρ s hw ⟨y5, rfl, rfl⟩
    obtain ⟨r, k, hr, rfl, hk⟩ := ra.get hw
    have rm := List.mem_of_getElem? hr
    have r8 := sh r rm
    have rasc : Asc r := asc.sublist ((mem r).mp rm).1
    have hi := (List.getElem?_eq_some_iff.mp hr).1
    have row : isRow (.l k) (st ++ g0 ++ [Ob.ls (((rows.take i).filter P).map wR)]) r := .inr ⟨k, rfl, app_lt hk⟩
    have nxt : (rows.take (i + 1)).filter P = (rows.take i).filter P ++ (if P r = true then [r] else []) := by
      rw [List.take_add_one, hr, List.filter_append]
      refine congrArg _ ?_
      show List.filter P [r] = _
      cases c : P r <;> simp [c]
    have fl : ((rows.take i).filter P).length ≤ 256 := by
      have := List.length_filter_le P (rows.take i)
      rw [List.length_take] at this
      omega
    have lr : Ev' (mCB cLen (aCons (mVar 5) aNil)) [some (.d (.tuple [n, dRows ar, dRows hs])), some (wR ss), some (wR S), some (.l n0), y4, some (.l k), some (.l (st ++ g0).length)] (st ++ g0 ++ [Ob.ls (((rows.take i).filter P).map wR)]) (wI (r.length : Nat)) := ev_lenLI (n := k) (ns := r) (ev_var rfl) (app_lt hk)
    refine s_if1 (b := P r) (et_and (et_b (ev_gt lr (ev_lenR (ns := ss) (ev_var rfl)))) fun _ => et_and (et_b (ev_eqI (i := ((rowsL hs r).length : Nat)) (j := 1) ?_ ev_c)) fun _ => et_b (ev_eqI (i := ((ancL ar r ss).length : Nat)) (j := (r.length : Nat)) ?_ lr)) (fun c => ?_) (fun c => ?_)
    · have z := ev_lenT (ds := (rowsL hs r).map dInts) (ma := mCB F_lu (aCons (mVar 0) (aCons (mVar 5) aNil))) (ρ := [some (.d (.tuple [n, dRows ar, dRows hs])), some (wR ss), some (wR S), some (.l n0), y4, some (.l k), some (.l (st ++ g0).length)]) (st := st ++ g0 ++ [Ob.ls (((rows.take i).filter P).map wR)]) (ev_call (ea_cons (ev_var rfl) (ea_cons (ev_var rfl) ea_nil)) fun Q q => ⟨n, _, hs, .l k, r, rfl, row, by omega, rasc, hb, q⟩)
      rw [List.length_map] at z
      exact z
    · exact ev_lenR (ns := ancL ar r ss) (ev_call (ea_cons (ev_var rfl) (ea_cons (ev_var rfl) (ea_cons (ev_var rfl) ea_nil))) fun Q q => ⟨n, _, ar, .l k, r, ss, rfl, row, by omega, rasc, up, al, q⟩)
    · refine s_app (n := (st ++ g0).length) (xs := ((rows.take i).filter P).map wR) (w := wR r) (ev_var rfl) app_at ?_ (by rw [List.length_map]; omega) ?_
      · exact ev_tupL (n := k) (ds := r.map .int) (ev_var rfl) (by rw [app_lt hk, List.map_map]; rfl)
      · refine ⟨_, rfl, ?_⟩
        rw [app_set, nxt, if_pos c, snocR]
    · refine ⟨_, rfl, ?_⟩
      rw [nxt, c, if_neg Bool.false_ne_true, List.append_nil]
  rintro ρ s ⟨y5, rfl, rfl⟩
  rw [ll, List.take_length]
  have fl : (rows.filter P).length ≤ 256 := Nat.le_trans (List.length_filter_le _ _) fw
  have hmem : ∀ R, R ∈ rows.filter P ↔ HgR ar hs ss S R := fun R => by
    rw [List.mem_filter, mem]
    show _ ∧ (decide ((ss.length : Int) < (R.length : Nat)) && (decide (((rowsL hs R).length : Int) = 1) && decide (((ancL ar R ss).length : Int) = (R.length : Nat)))) = true ↔ _
    rw [Bool.and_eq_true, Bool.and_eq_true, decide_eq_true_iff, decide_eq_true_iff, decide_eq_true_iff]
    unfold HgR
    refine and_congr Iff.rfl ⟨fun ⟨a, b, c⟩ => ⟨by omega, by omega, by omega⟩, fun ⟨a, b, c⟩ => ⟨by omega, by omega, by omega⟩⟩
  unfold sRet mCB aCons
  refine ev_var (w := .l (st ++ g0).length) rfl _ ⟨_, app_at, ?_⟩
  show rowsW ((rows.filter P).map wR) _
  rw [rowsW_map]
  refine ⟨fun r hr => ?_, fun ms p pw => ?_⟩
  · have h := (hmem r).mp hr
    have := sh r (List.mem_filter.mp hr).1
    exact ⟨by have := h.2.1; omega, this, fun x hx => bd x (h.1.1.subset hx)⟩
  · have z := q (g0 ++ [.ls ((rows.filter P).map wR)]) ms (fun R => p.mem_iff.trans (hmem R)) (by rw [p.length_eq]; omega) pw
    rw [← List.append_assoc] at z
    refine ⟨_, [], (List.append_nil _).symm, (gc.app (okO_rows _ _)).app (okO_rows _ _), ?_, z⟩
    show _ < _
    simp only [List.length_append, List.length_cons, List.length_nil]
    omega
end FL

/-! The law's hedges are the closed lots; the same shown. -/
namespace FL
open PySem PySem.Spec PyProof.Rows L2 KL KG GR KV KS KY RT
open Classical
theorem fold_in {hs : List (List Int)} {ms : List Int} {acc : List (List Int)} : ∀ xs : List Int, (∀ x ∈ xs, x ∈ acc.flatten) → xs.foldl (rowStep hs ms) acc = acc
  | [], _ => rfl
  | x :: xs, h => by
    rw [List.foldl_cons]
    have : rowStep hs ms acc x = acc := if_pos (h x List.mem_cons_self)
    rw [this]
    exact fold_in xs fun y hy => h y (List.mem_cons_of_mem _ hy)
/-- one row alone: all is joined -/
theorem rows_one {hs : List (List Int)} {R : List Int} {x : Int} (hx : x ∈ R) : (rowsL hs R).length = 1 ↔ comL hs R x = R := by
  obtain ⟨a, _, c⟩ := rows_of_mem (hs := hs) (ms := R) R [] (fun x h => h) (fun r hr => by cases hr)
  constructor
  · intro l
    match e : rowsL hs R, l with
    | [r], _ =>
      have ar := a r (by show r ∈ rowsL hs R; rw [e]; exact List.mem_cons_self)
      obtain ⟨y, hy, er⟩ := ar
      have all : ∀ z ∈ R, ConR hs R y z := fun z hz => by
        have cz : z ∈ (rowsL hs R).flatten := c z hz
        rw [e, er] at cz
        exact (mem_comL hy).mp (by simpa using cz)
      refine List.filter_eq_self.mpr fun z hz => decide_eq_true ?_
      exact con_trans (con_symm hy (all x hx)) (all z hz)
  · intro e
    cases R with
    | nil => cases hx
    | cons r R =>
      have rm : r ∈ r :: R := List.mem_cons_self
      have same : comL hs (r :: R) r = r :: R := by
        rw [← com_same hx rm ((mem_comL hx).mp (by rw [e]; exact rm))]
        exact e
      unfold rowsL
      rw [List.foldl_cons]
      have st : rowStep hs (r :: R) [] r = [r :: R] := by
        unfold rowStep
        rw [if_neg (by simp), same]
        rfl
      rw [st, fold_in R fun y hy => by simp [hy]]
      rfl
theorem hg_closd {ar hs : List (List Int)} {S R t : List Int} {x : Int} (ascS : Asc S) (j : Joi hs (x :: t) x) (sub : ∀ y ∈ x :: t, y ∈ S) : HgR ar hs (x :: t) S R ↔ Closd ar hs (x :: t) x R ∧ (∀ y ∈ R, y ∈ S) ∧ R ≠ x :: t := by
  constructor
  · rintro ⟨⟨h1, h2⟩, h3, h4, h5⟩
    have asc : Asc R := ascS.sublist h1
    have inR : ∀ y ∈ x :: t, y ∈ R := fun y hy => h2 y (sub y hy) hy
    refine ⟨⟨asc, inR, (rows_one (inR x List.mem_cons_self)).mp h4, ?_⟩, fun y hy => h1.subset hy, fun e => by rw [e] at h3; omega⟩
    unfold ancL at h5 ⊢
    exact List.filter_eq_self.mpr (List.length_filter_eq_length_iff.mp h5)
  · rintro ⟨c, s, ne⟩
    have xr := c.sub x List.mem_cons_self
    refine ⟨⟨?_, fun y _ hy => c.sub y hy⟩, sub_len j.asc c.asc c.sub (fun e => ne e.symm), (rows_one xr).mpr c.com, by rw [c.anc]⟩
    have e : R = S.filter fun y => decide (y ∈ R) := asc_ext c.asc (asc_filter ascS _) fun y => by
      rw [List.mem_filter, decide_eq_true_iff]
      exact ⟨fun h => ⟨s y h, h⟩, fun h => h.2⟩
    rw [e]
    exact List.filter_sublist
theorem best_some {M : List Int} : ∀ (rs : List (List Int)) (b : Option (List Int)), (∀ R ∈ rs, R ≠ M → R.length < M.length) → (b = some M ∨ ((∀ c, b = some c → c.length < M.length) ∧ M ∈ rs)) → rs.foldl bestF b = some M
  | [], b, _, h => by
    rcases h with h | ⟨_, h⟩
    · exact h
    · cases h
  | r :: rs, b, hl, h => by
    rw [List.foldl_cons]
    refine best_some rs _ (fun R hR => hl R (List.mem_cons_of_mem _ hR)) ?_
    rcases h with rfl | ⟨h1, h2⟩
    · left
      show (if M.length < r.length then some r else some M) = _
      by_cases e : r = M
      · subst e
        rw [if_neg (by omega)]
      · have := hl r List.mem_cons_self e
        rw [if_neg (by omega)]
    · by_cases e : r = M
      · subst e
        left
        cases b with
        | none => rfl
        | some c =>
          have := h1 c rfl
          show (if c.length < r.length then some r else some c) = _
          rw [if_pos this]
      · right
        have lr := hl r List.mem_cons_self e
        refine ⟨fun c hc => ?_, (List.mem_cons.mp h2).resolve_left fun z => e z.symm⟩
        cases b with
        | none =>
          have hc : some r = some c := hc
          injection hc with hc
          rw [← hc]
          exact lr
        | some d =>
          have hd := h1 d rfl
          have hc : (if d.length < r.length then some r else some d) = some c := hc
          split at hc
          · injection hc with hc
            rw [← hc]
            exact lr
          · injection hc with hc
            rw [← hc]
            exact hd
/-- the law's greatest is the program's -/
theorem best_is {ar hs : List (List Int)} {S t : List Int} {x : Int} {rs : List (List Int)} (ascS : Asc S) (j : Joi hs (x :: t) x) (sub : ∀ y ∈ x :: t, y ∈ S) (h : ∀ R, R ∈ rs ↔ HgR ar hs (x :: t) S R) : optD (rs.foldl bestF none) = hedgeD ar hs (x :: t) S x := by
  have c := last_closd (ar := ar) j ascS sub
  have ls := last_sub (ar := ar) j ascS sub
  unfold hedgeD
  by_cases e : lastR ar hs (x :: t) x S = x :: t
  · rw [if_pos e]
    have nil : rs = [] := List.eq_nil_iff_forall_not_mem.mpr fun R hR => by
      obtain ⟨cR, sR, ne⟩ := (hg_closd ascS j sub).mp ((h R).mp hR)
      have m := last_most j ascS sub cR sR
      rw [e] at m
      exact ne (asc_ext cR.asc j.asc fun y => ⟨m y, cR.sub y⟩)
    rw [nil]
    rfl
  · rw [if_neg e]
    have z := best_some (M := lastR ar hs (x :: t) x S) rs none (fun R hR ne => by
      obtain ⟨cR, sR, _⟩ := (hg_closd ascS j sub).mp ((h R).mp hR)
      exact closd_len j ascS sub cR sR ne) (.inr ⟨fun c hc => (by cases hc), (h _).mpr ((hg_closd ascS j sub).mpr ⟨c, ls, e⟩)⟩)
    rw [z]
    rfl
/-! ### the same shown, None too -/
section
variable {K : PySem.W.Frag} {ts μ μ' : List Addr} {H G : Hp} {st : Sto}
def rReprN (K : PySem.W.Frag) : List V → Hp → VK → Prop := fun xs H Q => rReprV K xs H Q ∨ (xs = [V.non] ∧ Q (.str "None") H)
theorem call_reprN {X : Cx} (hg : X.A.guards = some []) (hu : X.A.units + 65 < cLine) : CallR X (.builtin "repr") (rReprN X.K) := by
  intro pins s σ H xs us Q I r h
  rcases h with h | ⟨rfl, q⟩
  · exact call_reprV hg hu pins s σ H xs us Q I r h
  · obtain ⟨u, rfl, ru⟩ := vals1 r
    obtain rfl : u = Value.none := ru
    exact PySem.P.repr_of_none ⟨.str _, H, I.tok _, ⟨_, rfl⟩, q⟩
def cReprN : List W → Sto → WQ → Prop := fun ws st Q => cRepr ws st Q ∨ (ws = [.d .none] ∧ Q (wS "None") st)
theorem xc_reprN : XC K ts (rReprN K) cReprN := by
  refine ⟨fun ws st Q Q' f h => h.imp (xc_repr (K := K) (ts := ts).mono ws st Q Q' f) fun ⟨e, q⟩ => ⟨e, f _ _ q⟩, fun μ st H vs ws Q S r h => ?_⟩
  rcases h with h | ⟨rfl, q⟩
  · exact .inl (xc_repr.run μ st H vs ws Q S r h)
  · obtain ⟨v, rfl, r1⟩ := RWL.one r
    have r1 : TD K H v .none := r1
    cases r1
    exact .inr ⟨rfl, q μ H _ Gr.rfl' S (.str _)⟩
end
end FL

/-! The law asks the rounds of a lot. -/
namespace FL
open PySem PySem.Spec PyProof.Rows L2 KL KG GR KV KS KY RT
open Classical
def F_is2 : List W → Sto → WQ → Prop := fun ws st Q => ((∃ ds : List PyData, ws = [.d (.tuple ds), .d (.tuple ds)] ∧ Shw ds) ∨ ws = [.d .none, .d .none]) ∧ Q (wB true) st
theorem mo_is2 : MonoF F_is2 := ⟨fun ws st Q Q' f ⟨h, q⟩ => ⟨h, f _ _ q⟩⟩
def m_is2 : MS :=
  (sRet (mOp oEqS (mCB cReprN (aCons (mVar 0) aNil)) (mCB cReprN (aCons (mVar 1) aNil))))
theorem do_is2 : Does m_is2 2 0 F_is2 := by
  rintro ws st Q ⟨h, q⟩
  rcases h with ⟨ds, rfl, a, b, c⟩ | rfl
  · have r : ∀ (ρ : Ev) (m : ME), Ev' m ρ st (.d (.tuple ds)) → Ev' (mCB cReprN (aCons m aNil)) ρ st (wS (PyData.tuple ds).shown) := fun ρ m h Q q => h _ (.inl ⟨a, b, c, q⟩)
    refine ⟨rfl, s_ret (w := wB true) (fun R k => ev_eqS (r _ _ (ev_var rfl)) (r _ _ (ev_var rfl)) R ?_) (sameW trivial q)⟩
    rw [decide_eq_true rfl]
    exact k
  · have r : ∀ (ρ : Ev) (m : ME), Ev' m ρ st (.d .none) → Ev' (mCB cReprN (aCons m aNil)) ρ st (wS "None") := fun ρ m h Q q => h _ (.inr ⟨rfl, q⟩)
    refine ⟨rfl, s_ret (w := wB true) (fun R k => ev_eqS (r _ _ (ev_var rfl)) (r _ _ (ev_var rfl)) R ?_) (sameW trivial q)⟩
    rw [decide_eq_true rfl]
    exact k
theorem ev_is2 {ρ : Ev} {s : Sto} {ma mb : ME} {ds : List PyData} (ha : Ev' ma ρ s (.d (.tuple ds))) (hb : Ev' mb ρ s (.d (.tuple ds))) (h : Shw ds) : Ev' (mCB F_is2 (aCons ma (aCons mb aNil))) ρ s (wB true) :=
  ev_call (ea_cons ha (ea_cons hb ea_nil)) fun Q q => ⟨.inl ⟨ds, rfl, h⟩, q⟩
theorem ev_is2D {ρ : Ev} {s : Sto} {ma mb : ME} {d : PyData} (ha : Ev' ma ρ s (.d d)) (hb : Ev' mb ρ s (.d d)) (h : d = .none ∨ ∃ ds, d = .tuple ds ∧ Shw ds) : Ev' (mCB F_is2 (aCons ma (aCons mb aNil))) ρ s (wB true) := by
  rcases h with rfl | ⟨ds, rfl, h⟩
  · exact ev_call (ea_cons ha (ea_cons hb ea_nil)) fun Q q => ⟨.inr rfl, q⟩
  · exact ev_is2 ha hb h
theorem et_no {ρ : Ev} {s : Sto} {m : ME} (h : Ev' m ρ s (wB true)) : EvT (mNot (mB m)) ρ s false := et_not (b := true) (et_b h)
theorem rnd_rows {ar hs : List (List Int)} {ss : List Int} {x : Int} : ∀ (k : Nat) (S : List Int), Asc S → (∀ r ∈ rnd ar hs ss x k S, r.length ≤ S.length ∧ ∀ y ∈ r, y ∈ S) ∧ (rnd ar hs ss x k S).length ≤ 2 * k
  | 0, S, _ => ⟨fun r hr => (by cases hr), Nat.le_refl _⟩
  | k + 1, S, h => by
    obtain ⟨a, b⟩ := rnd_rows (ar := ar) (hs := hs) (ss := ss) (x := x) k (rst ar hs ss x S) (rst_asc h)
    have l1 : (comL hs S x).length ≤ S.length := List.length_filter_le _ _
    have l2 : (rst ar hs ss x S).length ≤ S.length := Nat.le_trans (List.length_filter_le _ _) l1
    by_cases e : rst ar hs ss x S = S
    · rw [rnd_stop h e]
      exact ⟨fun r hr => (by cases hr), Nat.zero_le _⟩
    · rw [rnd_cont e]
      refine ⟨fun r hr => ?_, ?_⟩
      · rcases List.mem_append.mp hr with hr | hr
        · rcases List.mem_append.mp hr with hr | hr
          · split at hr
            · cases hr
            · rw [List.mem_singleton.mp hr]
              exact ⟨l1, comL_sub⟩
          · split at hr
            · cases hr
            · rw [List.mem_singleton.mp hr]
              exact ⟨l2, rst_sub⟩
        · obtain ⟨p, q⟩ := a r hr
          exact ⟨by omega, fun y hy => rst_sub y (q y hy)⟩
      · rw [List.length_append, List.length_append]
        have z1 : (if comL hs S x = S then ([] : List (List Int)) else [comL hs S x]).length ≤ 1 := by split <;> simp
        have z2 : (if rst ar hs ss x S = comL hs S x then ([] : List (List Int)) else [rst ar hs ss x S]).length ≤ 1 := by split <;> simp
        omega
theorem rounds_shw {n : Nat} {ar hs : List (List Int)} {S ss : List Int} {x : Int} (h : LotN n S) (n8 : n ≤ 8) : Shw ((roundsL ar hs ss x S).map dInts) := by
  have l := lot_short h
  obtain ⟨a, b⟩ := rnd_rows (ar := ar) (hs := hs) (ss := ss) (x := x) (S.length + 1) S h.1
  have z : Sd 2 (19 * 200 + 2 * 19 + 3) (.tuple ((roundsL ar hs ss x S).map dInts)) := sd_tup (c := 19) (b := 200) (fun d hd => by
    obtain ⟨r, hr, rfl⟩ := List.mem_map.mp hd
    rcases List.mem_cons.mp hr with rfl | hr
    · exact sd_row (n := n) (by omega) fun y hy => by have := h.2 y hy; omega
    · obtain ⟨p, q⟩ := a r hr
      exact sd_row (n := n) (by omega) fun y hy => by have := h.2 y (q y hy); omega) (by
    rw [List.length_map]
    unfold roundsL
    rw [List.length_cons]
    omega)
  exact z.shw (by decide) (by decide)
def F_il : List W → Sto → WQ → Prop := fun ws st Q => ∃ (s n : Nat) (nm : List Str) (ar hd : List (List Int)) (S : List Int) (x : Int) (t : List Int), ws = [.l s, .d (dGraph nm ar hd), wR S, wR (x :: t)] ∧ WellAt st s ∧ GrN n nm ar hd ∧ LotN n S ∧ LotN n (x :: t) ∧ Joi hd (x :: t) x ∧ (∀ y ∈ x :: t, y ∈ S) ∧ ∀ o, isWell o → Q (wB true) (st.set s o)
theorem mo_il : MonoF F_il := ⟨fun ws st Q Q' f ⟨s, n, nm, ar, hd, S, x, t, e, a, b, c, d, i, k, q⟩ => ⟨s, n, nm, ar, hd, S, x, t, e, a, b, c, d, i, k, fun o h => f _ _ (q o h)⟩⟩
def m_il : MS :=
  (sSeq (sAsg (mCB F_he (aCons (mVar 1) (aCons (mVar 3) (aCons (mVar 2) aNil)))) (gN 4))
      (sSeq (sAsg (mCB F_ge (aCons (mVar 4) aNil)) (gN 5))
      (sSeq (sAsg (mIf (mB (mOp oIsN (mVar 5) (mC .none))) (mVar 3) (mVar 5)) (gN 6))
      (sSeq (sAsg (mCB F_rr (aCons (mVar 1) (aCons (mVar 2) (aCons (mVar 3) aNil)))) (gN 7))
      (sSeq (sIf (mOr (mNot (mB (mCB F_is2 (aCons (mVar 7) (aCons (mCB F_lo2 (aCons (mVar 1) (aCons (mVar 2) (aCons (mVar 3) aNil)))) aNil))))) (mNot (mB (mCB F_is2 (aCons (mOp oIxT (mVar 7) (mNeg (mC (.int 1)))) (aCons (mVar 6) aNil)))))) (sRet (mC (.bool false))) sNext)
      (sSeq (sIf (mNot (mB (mCB F_is2 (aCons (mCB F_gh (aCons (mVar 1) (aCons (mVar 2) (aCons (mVar 3) aNil)))) (aCons (mVar 5) aNil))))) (sRet (mC (.bool false))) sNext)
      (sSeq (sIf (mGcT (mB (mOp (oEqD true) (mLc (iL (mVar 4)) (gN 8) (mNot (mB (mCB F_ha (aCons (mOp oIxT (mVar 7) (mNeg (mC (.int 1)))) (aCons (mVar 8) aNil))))) (mVar 8) [8]) (mLst aNil)))) (sRet (mC (.bool false))) sNext)
      (sSeq (sAsg (mCB F_be (aCons (mVar 0) (aCons (mVar 2) (aCons (mVar 6) aNil)))) (gN 9))
      (sSeq (sIf (mOr (mNot (mB (mCB F_is2 (aCons (mOp oIxT (mCBK F_rr List.reverse (aCons (mVar 3) (aCons (mVar 9) (aCons (mVar 1) aNil)))) (mNeg (mC (.int 1)))) (aCons (mVar 6) aNil))))) (mNot (mB (mCB F_is2 (aCons (mCB F_rr (aCons (mVar 1) (aCons (mVar 6) (aCons (mVar 3) aNil)))) (aCons (mTup (aCons (mVar 6) aNil)) aNil)))))) (sRet (mC (.bool false))) sNext)
      (sRet (mCB F_is2 (aCons (mCBK F_gh List.reverse (aCons (mVar 3) (aCons (mVar 9) (aCons (mVar 1) aNil)))) (aCons (mVar 5) aNil)))))))))))))
theorem sq_callA {ρ : Ev} {st : Sto} {E : WE} {r : MS} {i : Nat} {a : MA} {ws : List W} {F : List W → Sto → WQ → Prop} (h : EvA a ρ st ws) (q : F ws st fun y s => r (ρ.set i (some y)) s E) : sSeq (sAsg (mCB F a) (gN i)) r ρ st E := h _ q
theorem mgct_i {ρ : Ev} {s : Sto} {R : Bool → Sto → Prop} {m1 m2 : ME} {neg : Bool} (h : m1 ρ s fun w s1 => m2 ρ s1 fun u s2 => oEqD neg w u s2 fun y s3 => bl1 y fun b => ∃ s0 g, s3 = s0 ++ g ∧ Gcd s s0 ∧ R b s0) : mGcT (mB (mOp (oEqD neg) m1 m2)) ρ s R := h
theorem gN_i {n : Nat} {w : W} {ρ : Ev} {st : Sto} {Q : Ev → Sto → Prop} (h : Q (ρ.set n (some w)) st) : gN n w ρ st Q := h
theorem et_has {ρ : Ev} {s : Sto} {ma mb : ME} {M r : List Int} (ha : Ev' ma ρ s (wR M)) (hb : Ev' mb ρ s (wR r)) (l : r.length ≤ 1000) (e : r.filter (fun y => !decide (y ∈ M)) = []) : EvT (mNot (mB (mCB F_ha (aCons ma (aCons mb aNil))))) ρ s false :=
  et_not (b := true) (et_b (ev_call (ea_cons ha (ea_cons hb ea_nil)) fun Q q => ⟨M, r, rfl, l, by rw [decide_eq_true e]; exact q⟩))
theorem do_il : Does m_il 4 6 F_il := by
  rintro ws st Q ⟨s, n, nm, ar, hd, S, x, t, rfl, W0, g, lS, lt, j, sub, q⟩
  have sl := W0.lt
  have n8 := g.most
  have al : ar.length ≤ 1000 := Nat.le_trans (arr_few g.ar n8) (by decide)
  have hb : ∀ b ∈ hd, b.length ≤ 1000 := fun b hb => (lot_sub (g.hd.2.2 b hb).1 n8).1
  have Sl := lot_short lS
  have up := grn_up g
  have cM := last_closd (ar := ar) j lS.1 sub
  have sM := last_sub (ar := ar) j lS.1 sub
  have mM : ∀ H, Closd ar hd (x :: t) x H → (∀ y ∈ H, y ∈ S) → ∀ y ∈ H, y ∈ lastR ar hd (x :: t) x S := fun H c s => last_most j lS.1 sub c s
  have lM : LotN n (lastR ar hd (x :: t) x S) := ⟨cM.asc, fun y hy => lS.2 y (sM y hy)⟩
  let M := lastR ar hd (x :: t) x S
  refine ⟨rfl, sq_callA (ws := [.d (dGraph nm ar hd), wR (x :: t), wR S]) (ea_cons (ev_var rfl) (ea_cons (ev_var rfl) (ea_cons (ev_var rfl) ea_nil))) ?_⟩
  refine ⟨_, ar, hd, x :: t, S, rfl, by omega, lS.1, (fun y hy => by have := lS.2 y hy; omega), up, al, hb, fun g0 rs hrs rl _ => ?_⟩
  have hbest := best_is lS.1 j sub hrs
  have at0 : (st ++ g0 ++ [Ob.ls (rs.map wR)])[(st ++ g0).length]? = some (.ls (rs.map wR)) := app_at
  have slG : s < (st ++ g0 ++ [Ob.ls (rs.map wR)]).length := by rw [List.length_append, List.length_append]; omega
  refine sq_set (w := .d (hedgeD ar hd (x :: t) S x)) ?_ ?_
  · rw [← hbest]
    exact ev_call (ea_cons (ev_var rfl) ea_nil) fun Q q => ⟨(st ++ g0).length, rs, rfl, at0, q⟩
  have hDN : hedgeD ar hd (x :: t) S x = .none ∨ ∃ ds, hedgeD ar hd (x :: t) S x = .tuple ds ∧ Shw ds := by
    unfold hedgeD
    split
    · exact .inl rfl
    · exact .inr ⟨_, rfl, lot_shw lM n8⟩
  refine sq_set (w := wR (lastR ar hd (x :: t) x S)) ?_ ?_
  · by_cases e : lastR ar hd (x :: t) x S = x :: t
    · refine ev_if (b := true) (et_b ?_) (fun _ => ?_) (fun z => by cases z)
      · have z := ev_isN (ma := mVar 5) (w := .d (hedgeD ar hd (x :: t) S x)) (ρ := [some (.l s), some (.d (dGraph nm ar hd)), some (wR S), some (wR (x :: t)), some (.l (st ++ g0).length), some (.d (hedgeD ar hd (x :: t) S x)), none, none, none, none]) (s := st ++ g0 ++ [Ob.ls (rs.map wR)]) (ev_var rfl)
        unfold hedgeD at z ⊢
        rw [if_pos e] at z ⊢
        exact z
      · rw [e]
        exact ev_var rfl
    · have hD : hedgeD ar hd (x :: t) S x = dInts (lastR ar hd (x :: t) x S) := if_neg e
      refine ev_if (b := false) (et_b ?_) (fun z => by cases z) (fun _ => ?_)
      · have z := ev_isN (ma := mVar 5) (w := .d (hedgeD ar hd (x :: t) S x)) (ρ := [some (.l s), some (.d (dGraph nm ar hd)), some (wR S), some (wR (x :: t)), some (.l (st ++ g0).length), some (.d (hedgeD ar hd (x :: t) S x)), none, none, none, none]) (s := st ++ g0 ++ [Ob.ls (rs.map wR)]) (ev_var rfl)
        rw [hD] at z ⊢
        exact z
      · have z := ev_var (n := 5) (w := .d (hedgeD ar hd (x :: t) S x)) (ρ := [some (.l s), some (.d (dGraph nm ar hd)), some (wR S), some (wR (x :: t)), some (.l (st ++ g0).length), some (.d (hedgeD ar hd (x :: t) S x)), none, none, none, none]) (st := st ++ g0 ++ [Ob.ls (rs.map wR)]) rfl
        rw [hD] at z ⊢
        exact z
  refine sq_set (w := .d (dRows (roundsL ar hd (x :: t) x S))) ?_ ?_
  · exact ev_call (ea_cons (ev_var rfl) (ea_cons (ev_var rfl) (ea_cons (ev_var rfl) ea_nil))) fun Q q => ⟨n, nm, ar, hd, S, x, t, rfl, g, lS, lt, j, sub, q⟩
  generalize hDD : hedgeD ar hd (x :: t) S x = D at hDN
  refine sq_if1 (b := false || false) (et_or (et_no (ev_is2 (ds := (roundsL ar hd (x :: t) x S).map dInts) ?_ ?_ (rounds_shw lS n8))) fun _ => et_no (ev_is2 (ds := (lastR ar hd (x :: t) x S).map .int) ?_ ?_ (lot_shw lM n8))) (fun z => by cases z) (fun _ => ?_)
  · exact ev_var rfl
  · exact ev_call (ea_cons (ev_var rfl) (ea_cons (ev_var rfl) (ea_cons (ev_var rfl) ea_nil))) fun Q q => ⟨_, ar, hd, S, x, t, rfl, by omega, lS.1, up, al, hb, j, sub, q⟩
  · exact ev_ixT (ds := (roundsL ar hd (x :: t) x S).map dInts) (ev_var rfl) (ev_neg ev_c) last_at
  · exact ev_var rfl
  refine sq_if1 (b := false) (et_no (ev_is2D (d := D) ?_ ?_ hDN)) (fun z => by cases z) (fun _ => ?_)
  · exact ev_call (ea_cons (ev_var rfl) (ea_cons (ev_var rfl) (ea_cons (ev_var rfl) ea_nil))) fun Q q => ⟨n, nm, ar, hd, S, x, t, rfl, g, lS, lt, j, sub, by rw [hDD]; exact q⟩
  · exact ev_var rfl
  refine sq_if1 (b := false) (fun R r => ?_) (fun z => by cases z) (fun _ => ?_)
  · refine mgct_i (lc_map (α := List Int) (gd := fun s' => s'[(st ++ g0).length]? = some (.ls (rs.map wR))) wR rs (fun _ => false) wR (wk_list (ev_var rfl) at0) (fun acc => app_lt at0) (by omega) (fun r hr acc Pk Pn h1 h2 => ?_) ?_)
    · obtain ⟨cR, sR, _⟩ := (hg_closd lS.1 j sub).mp ((hrs r).mp hr)
      have rm := mM r cR sR
      have e : r.filter (fun y => !decide (y ∈ lastR ar hd (x :: t) x S)) = [] := List.filter_eq_nil_iff.mpr fun y hy => by simp [rm y hy]
      have lr : r.length ≤ 1000 := by
        have := nodup_le (asc_nodup cR.asc) sR
        omega
      refine gN_i ?_
      refine et_has (M := lastR ar hd (x :: t) x S) (r := r) ?_ ?_ lr e _ ?_
      · exact ev_ixT (ds := (roundsL ar hd (x :: t) x S).map dInts) (ev_var rfl) (ev_neg ev_c) last_at
      · exact ev_var rfl
      · exact h2 rfl
    · have e : rs.filter (fun _ => false) = [] := List.filter_eq_nil_iff.mpr fun _ _ => by simp
      rw [e]
      refine ⟨by decide, ⟨_, app_lt app_at, allD_at (bs := []) rfl ⟨[], app_at, shp_intsL [], shp_intsL [], ?_⟩⟩⟩
      refine ⟨_, [_, _], app11, Gcd.rfl', ?_⟩
      exact r
  refine sq_setD (s := s) (P := fun w => ∃ M', w = wR M' ∧ M'.Sublist S ∧ ∀ y ∈ lastR ar hd (x :: t) x S, y ∈ M') (fun Q q => ?_) ?_
  · refine ea_cons (ws := [wR S, wR (lastR ar hd (x :: t) x S)]) (ev_var rfl) (ea_cons (ev_var rfl) (ea_cons (ev_var rfl) ea_nil)) _ ⟨s, S, lastR ar hd (x :: t) x S, rfl, ?_, by omega, ?_, sM, fun M' o h1 h2 ho => q _ o ho ⟨M', rfl, h1, h2⟩⟩
    · obtain ⟨o, e, w⟩ := W0
      exact ⟨o, app_lt (app_lt e), w⟩
    · exact (lot_sub lM n8).1
  rintro w o ho ⟨M', rfl, h1, h2⟩
  have lM' : LotN n M' := lot_sublist lS h1
  have subM : ∀ y ∈ x :: t, y ∈ M' := fun y hy => h2 y (cM.sub y hy)
  have same := last_between (ar := ar) j lS.1 sub lM'.1 h2 (fun y hy => h1.subset hy)
  have hD' : hedgeD ar hd (x :: t) M' x = D := by rw [← hDD]; unfold hedgeD; rw [same]
  refine sq_if1 (b := false || false) (et_or (et_no (ev_is2 (ds := (lastR ar hd (x :: t) x S).map .int) ?_ ?_ (lot_shw lM n8))) fun _ => et_no (ev_is2 (ds := [dInts (lastR ar hd (x :: t) x S)]) ?_ ?_ ?_)) (fun z => by cases z) (fun _ => ?_)
  · have z := last_at (ar := ar) (hd := hd) (ss := x :: t) (S := M') (x := x)
    rw [same] at z
    refine ev_ixT (ds := (roundsL ar hd (x :: t) x M').map dInts) ?_ (ev_neg ev_c) z
    exact ev_callK (ea_cons (ev_var rfl) (ea_cons (ev_var rfl) (ea_cons (ev_var rfl) ea_nil))) fun Q q => ⟨n, nm, ar, hd, M', x, t, rfl, g, lM', lt, j, subM, q⟩
  · exact ev_var rfl
  · have z := closd_rounds cM
    have k : ∀ Q : WQ, Q (.d (dRows (roundsL ar hd (x :: t) x (lastR ar hd (x :: t) x S)))) ((st ++ g0 ++ [Ob.ls (rs.map wR)]).set s o) → Q (.d (.tuple [dInts (lastR ar hd (x :: t) x S)])) ((st ++ g0 ++ [Ob.ls (rs.map wR)]).set s o) := fun Q q => by
      rw [z] at q
      exact q
    exact ev_call (ea_cons (ev_var rfl) (ea_cons (ev_var rfl) (ea_cons (ev_var rfl) ea_nil))) fun Q q => ⟨n, nm, ar, hd, lastR ar hd (x :: t) x S, x, t, rfl, g, lM, lt, j, cM.sub, by rw [z]; exact q⟩
  · exact ev_tup (ds := [dInts (lastR ar hd (x :: t) x S)]) (ea_cons (ev_var rfl) ea_nil) (show 1 ≤ 1000000 by decide)
  · have z := rounds_shw (ar := ar) (hs := hd) (ss := x :: t) (x := x) lM n8
    rw [closd_rounds cM] at z
    exact z
  have fin : (st ++ g0 ++ [Ob.ls (rs.map wR)]).set s o = st.set s o ++ (g0 ++ [Ob.ls (rs.map wR)]) := by
    rw [List.append_assoc, List.set_append_left _ _ sl]
  refine s_ret (ev_is2D (d := D) ?_ ?_ hDN) ⟨st.set s o, _, fin, xs_gc ho, trivial, q o ho⟩
  · exact ev_callK (ea_cons (ev_var rfl) (ea_cons (ev_var rfl) (ea_cons (ev_var rfl) ea_nil))) fun Q q => ⟨n, nm, ar, hd, M', x, t, rfl, g, lM', lt, j, subM, by rw [hD']; exact q⟩
  · exact ev_var rfl
end FL

/-! The law's worlds. -/
namespace FL
open PySem PySem.Spec PyProof.Rows L2 KL KG GR KV KS KY RT
open Classical
theorem con_in {hs : List (List Int)} {T : List Int} {y z : Int} (hy : y ∈ T) (h : ConR hs T y z) : ConR hs (comL hs T y) y z := by
  induction h with
  | base => exact .base
  | step a hb hz hy' hm ih => exact .step ih hb hz hy' ((mem_comL hy).mpr (.step a hb hz hy' hm))
theorem joi_com {hs : List (List Int)} {T : List Int} {x y : Int} (asc : Asc T) (hy : y ∈ T) (hx : x ∈ comL hs T y) : Joi hs (comL hs T y) x := by
  have yc : y ∈ comL hs T y := (mem_comL hy).mpr .base
  have yx := con_in hy ((mem_comL hy).mp hx)
  refine ⟨comL_asc asc, hx, List.filter_eq_self.mpr fun z hz => decide_eq_true ?_⟩
  exact con_trans (con_symm yc yx) (con_in hy ((mem_comL hy).mp hz))
theorem dr_fewD {ρ : Ev} {st : Sto} {s : Nat} {mo mr ma : ME} {r : List Int} {P : Int → Prop} (W : WellAt st s) (ho : Ev' mo ρ st (.l s)) (hr : Ev' mr ρ st (wR r)) (l : r.length ≤ 1000) (ha : Dr ma ρ st s fun w => ∃ k, w = wI k ∧ P k) (hP : ∀ k, P k → 0 ≤ k) :
    Dr (mCB F_fe (aCons mo (aCons mr (aCons ma aNil)))) ρ st s fun w => ∃ ms k, w = wR ms ∧ P k ∧ ms.Sublist r ∧ ms.length = min r.length k.toNat := fun Q q => ho _ (hr _ (ha _ fun w o h ⟨k, e, p⟩ => by
  subst e
  refine ⟨s, wR r, r, k, rfl, .inl rfl, l, hP k p, W.next h, fun ms o' sub ml h' => ?_⟩
  rw [List.set_set]
  exact q _ o' h' ⟨ms, k, rfl, p, sub, ml⟩))
theorem dr_netD {ρ : Ev} {st : Sto} {s least homes : Nat} {mo ml mm mh : ME} (W : WellAt st s) (ho : Ev' mo ρ st (.l s)) (hl : Ev' ml ρ st (wI least)) (hm : Dr mm ρ st s fun w => ∃ k, w = wI k ∧ (least : Int) ≤ k ∧ k ≤ 8) (hh : ∀ o, isWell o → Ev' mh ρ (st.set s o) (wI homes)) (l1 : 1 ≤ least) (h20 : homes ≤ 20) :
    Dr (mCB F_nt (aCons mo (aCons ml (aCons mm (aCons mh aNil))))) ρ st s fun w => ∃ n nm ar hd, w = .d (dGraph nm ar hd) ∧ GrN n nm ar hd ∧ least ≤ n := fun Q q => ho _ (hl _ (hm _ fun w o h ⟨k, e, k0, k8⟩ => by
  subst e
  refine hh o h _ ?_
  obtain ⟨m, rfl⟩ : ∃ m : Nat, (m : Int) = k := ⟨k.toNat, by omega⟩
  refine ⟨s, least, m, homes, rfl, l1, by omega, by omega, h20, W.next h, fun n nm ar hd o' g h1 _ h' => ?_⟩
  rw [List.set_set]
  exact q _ o' h' ⟨n, nm, ar, hd, rfl, g, h1⟩))
def edgesX : List (List Int) := [[0, 1], [1, 7], [2, 3], [3, 7], [4, 5], [5, 7], [6, 7]]
def hostsX : List (List Int) := [[0, 3], [0, 7], [2, 5], [2, 7], [4, 6], [4, 7]]
theorem lot2 {a b : Int} (h0 : 0 ≤ a) (h1 : a < b) (h2 : b < 8) : LotN 8 [a, b] := ⟨by simp [h1], fun x hx => by
  simp only [List.mem_cons, List.not_mem_nil, or_false] at hx
  rcases hx with rfl | rfl <;> omega⟩
theorem arrX : ArrN 8 edgesX := by
  refine ⟨by unfold edgesX; simp [ltI], fun r hr => ?_⟩
  simp only [edgesX, List.mem_cons, List.not_mem_nil, or_false] at hr
  rcases hr with rfl | rfl | rfl | rfl | rfl | rfl | rfl <;> exact ⟨lot2 (by decide) (by decide) (by decide), rfl⟩
theorem hidX : HidN 8 hostsX := by
  refine ⟨by unfold hostsX; simp [ltI], by unfold hostsX; simp, fun r hr => ?_⟩
  simp only [hostsX, List.mem_cons, List.not_mem_nil, or_false] at hr
  rcases hr with rfl | rfl | rfl | rfl | rfl | rfl <;> exact ⟨lot2 (by decide) (by decide) (by decide), by simp⟩
theorem joi_one {hs : List (List Int)} {x : Int} : Joi hs [x] x := ⟨by simp, List.mem_cons_self, List.filter_eq_self.mpr fun z hz => by
  rw [List.mem_singleton.mp hz]
  exact decide_eq_true .base⟩
def F_r3 : List W → Sto → WQ → Prop := fun ws st Q => ∃ s : Nat, ws = [.l s] ∧ WellAt st s ∧ ∀ o, isWell o → Q (wB true) (st.set s o)
theorem mo_r3 : MonoF F_r3 := ⟨fun ws st Q Q' f ⟨s, e, a, q⟩ => ⟨s, e, a, fun o h => f _ _ (q o h)⟩⟩
def m_r3 : MS :=
  (sSeq (sAsg (mCB F_nt (aCons (mVar 0) (aCons (mC (.int 2)) (aCons (mIf (mB (mOp oEqI (mCB F_dr (aCons (mVar 0) (aCons (mC (.int 4)) aNil))) (mC (.int 0)))) (mC (.int 8)) (mC (.int 6))) (aCons (mC (.int 7)) aNil))))) (gN 1))
      (sSeq (sIf (mB (mOp oEqI (mCB F_dr (aCons (mVar 0) (aCons (mC (.int 5)) aNil))) (mC (.int 0)))) (sSeq (sAsg (mTup (aCons (mTup (aCons (mC (.int 0)) (aCons (mC (.int 1)) aNil))) (aCons (mTup (aCons (mC (.int 1)) (aCons (mC (.int 7)) aNil))) (aCons (mTup (aCons (mC (.int 2)) (aCons (mC (.int 3)) aNil))) (aCons (mTup (aCons (mC (.int 3)) (aCons (mC (.int 7)) aNil))) (aCons (mTup (aCons (mC (.int 4)) (aCons (mC (.int 5)) aNil))) (aCons (mTup (aCons (mC (.int 5)) (aCons (mC (.int 7)) aNil))) (aCons (mTup (aCons (mC (.int 6)) (aCons (mC (.int 7)) aNil))) aNil)))))))) (gN 2))
      (sSeq (sAsg (mTup (aCons (mOp oIxT (mCB F_nt (aCons (mVar 0) (aCons (mC (.int 8)) (aCons (mC (.int 8)) (aCons (mC (.int 0)) aNil))))) (mC (.int 0))) (aCons (mVar 2) (aCons (mTup (aCons (mTup (aCons (mC (.int 0)) (aCons (mC (.int 3)) aNil))) (aCons (mTup (aCons (mC (.int 0)) (aCons (mC (.int 7)) aNil))) (aCons (mTup (aCons (mC (.int 2)) (aCons (mC (.int 5)) aNil))) (aCons (mTup (aCons (mC (.int 2)) (aCons (mC (.int 7)) aNil))) (aCons (mTup (aCons (mC (.int 4)) (aCons (mC (.int 6)) aNil))) (aCons (mTup (aCons (mC (.int 4)) (aCons (mC (.int 7)) aNil))) aNil))))))) aNil)))) (gN 1))
      (sIf (mNot (mB (mCB F_il (aCons (mVar 0) (aCons (mVar 1) (aCons (mTupRg (mRg1 (mC (.int 8)))) (aCons (mTup (aCons (mC (.int 7)) aNil)) aNil))))))) (sRet (mC (.bool false))) sNext))) sNext)
      (sSeq (sAsg (mTupRg (mRg1 (mCB cLen (aCons (mOp oIxT (mVar 1) (mC (.int 0))) aNil)))) (gN 3))
      (sSeq (sFor (iR1 (aCons (mC (.int 3)) aNil)) (gN 4)
      (sSeq (sAsg (mIf (mB (mOp oEqI (mCB F_dr (aCons (mVar 0) (aCons (mC (.int 2)) aNil))) (mC (.int 0)))) (mVar 3) (mCB F_fe (aCons (mVar 0) (aCons (mVar 3) (aCons (mOp oAdd (mC (.int 2)) (mCB F_dr (aCons (mVar 0) (aCons (mOp oSub (mCB cLen (aCons (mVar 3) aNil)) (mC (.int 1))) aNil)))) aNil))))) (gN 5))
      (sSeq (sAsg (mIf (mB (mOp oGt (mCB F_dr (aCons (mVar 0) (aCons (mC (.int 3)) aNil))) (mC (.int 0)))) (mCB F_fe (aCons (mVar 0) (aCons (mVar 5) (aCons (mOp oAdd (mC (.int 1)) (mCB F_dr (aCons (mVar 0) (aCons (mC (.int 2)) aNil)))) aNil)))) (mCB F_so (aCons (mVar 0) (aCons (mVar 5) aNil)))) (gN 6))
      (sSeq (sAsg (mCB F_pk (aCons (mVar 0) (aCons (mCB F_lu (aCons (mVar 1) (aCons (mIf (mB (mOp (oEqD false) (mVar 6) (mTup aNil))) (mVar 5) (mVar 6)) aNil))) aNil))) (gN 7))
      (sIf (mNot (mB (mCB F_il (aCons (mVar 0) (aCons (mVar 1) (aCons (mVar 5) (aCons (mVar 7) aNil))))))) (sRet (mC (.bool false))) sNext)))))
      (sRet (mC (.bool true)))))))
theorem dr_il {ρ : Ev} {st : Sto} {s n : Nat} {nm : List Str} {ar hd : List (List Int)} {S : List Int} {x : Int} {t : List Int} {a : MA} (h : EvA a ρ st [.l s, .d (dGraph nm ar hd), wR S, wR (x :: t)]) (W : WellAt st s) (g : GrN n nm ar hd) (lS : LotN n S) (lt : LotN n (x :: t)) (j : Joi hd (x :: t) x) (sub : ∀ y ∈ x :: t, y ∈ S) : Dr (mCB F_il a) ρ st s fun w => w = wB true := fun Q q => h _ ⟨s, n, nm, ar, hd, S, x, t, rfl, W, g, lS, lt, j, sub, fun o ho => q _ o ho rfl⟩
theorem s_ifNo {ρ : Ev} {st : Sto} {s : Nat} {E : WE} {A : MS} {m : ME} (h : Dr m ρ st s fun w => w = wB true) (q : ∀ o, isWell o → E.nx ρ (st.set s o)) : sIf (mNot (mB m)) A sNext ρ st E := h _ fun w o ho e => by
  subst e
  exact q o ho
theorem dr_tup3 {ρ : Ev} {st : Sto} {s : Nat} {m1 m2 m3 : ME} {P1 P : W → Prop} {b c : PyData} (h1 : Dr m1 ρ st s P1) (h2 : ∀ o, isWell o → Ev' m2 ρ (st.set s o) (.d b)) (h3 : ∀ o, isWell o → Ev' m3 ρ (st.set s o) (.d c)) (hp : ∀ w, P1 w → ∃ a, w = .d a ∧ P (.d (.tuple [a, b, c]))) : Dr (mTup (aCons m1 (aCons m2 (aCons m3 aNil)))) ρ st s P :=
  fun Q q => h1 _ fun w o ho p => h2 o ho _ (h3 o ho _ (by
    obtain ⟨a, rfl, pa⟩ := hp w p
    exact allD_at (bs := [a, b, c]) rfl ⟨show 3 ≤ 1000000 by decide, q _ o ho pa⟩))
theorem dr_ixH {ρ : Ev} {st : Sto} {s : Nat} {m : ME} {P P' : W → Prop} (h : Dr m ρ st s P) (hp : ∀ w, P w → ∃ ds x, w = .d (.tuple ds) ∧ atI ds 0 = some x ∧ P' (.d x)) : Dr (mOp oIxT m (mC (.int 0))) ρ st s P' := fun Q q => h _ fun w o ho p => by
  obtain ⟨ds, x, rfl, e, px⟩ := hp w p
  exact ⟨x, e, q _ o ho px⟩
theorem ev_lenRg {ρ : Ev} {st : Sto} {ma : ME} {n : Nat} (h : Ev' ma ρ st (wR (rgD 0 (n : Int)))) : Ev' (mCB cLen (aCons ma aNil)) ρ st (wI (n : Nat)) := by
  have z := ev_lenR h
  rw [len_rgD, Int.toNat_natCast] at z
  exact z
theorem do_r3 : Does m_r3 1 7 F_r3 := by
  rintro ws st Q ⟨s, rfl, W0, q⟩
  have sl := W0.lt
  refine ⟨rfl, sq_setD (s := s) (dr_netD (least := 2) (homes := 7) W0 (ev_var rfl) ev_c ?_ (fun o ho => ev_c) (by decide) (by decide)) ?_⟩
  · refine dr_if W0 ?_ (fun o ho => dr_int ev_c (W0.next ho) ⟨by decide, by decide⟩) (fun o ho => dr_int ev_c (W0.next ho) ⟨by decide, by decide⟩)
    refine drT_cmp (f := fun i j => decide (i = j)) (top := 4) (j := 0) W0 ?_ (fun _ _ => ev_c)
    refine dr_draw ?_ (by decide) (by decide) W0
    exact ea_cons (ev_var rfl) (ea_cons ev_c ea_nil)
  rintro w o1 ho1 ⟨n0, nm0, ar0, hd0, rfl, g0, n02⟩
  have W1 := W0.next ho1
  suffices rest : ∀ (n : Nat) (nm : List Str) (ar hd : List (List Int)) (o : Ob) (y2 : Option W), GrN n nm ar hd → 2 ≤ n → isWell o → (sSeq (sAsg (mTupRg (mRg1 (mCB cLen (aCons (mOp oIxT (mVar 1) (mC (.int 0))) aNil)))) (gN 3))
      (sSeq (sFor (iR1 (aCons (mC (.int 3)) aNil)) (gN 4)
      (sSeq (sAsg (mIf (mB (mOp oEqI (mCB F_dr (aCons (mVar 0) (aCons (mC (.int 2)) aNil))) (mC (.int 0)))) (mVar 3) (mCB F_fe (aCons (mVar 0) (aCons (mVar 3) (aCons (mOp oAdd (mC (.int 2)) (mCB F_dr (aCons (mVar 0) (aCons (mOp oSub (mCB cLen (aCons (mVar 3) aNil)) (mC (.int 1))) aNil)))) aNil))))) (gN 5))
      (sSeq (sAsg (mIf (mB (mOp oGt (mCB F_dr (aCons (mVar 0) (aCons (mC (.int 3)) aNil))) (mC (.int 0)))) (mCB F_fe (aCons (mVar 0) (aCons (mVar 5) (aCons (mOp oAdd (mC (.int 1)) (mCB F_dr (aCons (mVar 0) (aCons (mC (.int 2)) aNil)))) aNil)))) (mCB F_so (aCons (mVar 0) (aCons (mVar 5) aNil)))) (gN 6))
      (sSeq (sAsg (mCB F_pk (aCons (mVar 0) (aCons (mCB F_lu (aCons (mVar 1) (aCons (mIf (mB (mOp (oEqD false) (mVar 6) (mTup aNil))) (mVar 5) (mVar 6)) aNil))) aNil))) (gN 7))
      (sIf (mNot (mB (mCB F_il (aCons (mVar 0) (aCons (mVar 1) (aCons (mVar 5) (aCons (mVar 7) aNil))))))) (sRet (mC (.bool false))) sNext)))))
      (sRet (mC (.bool true))))) [some (.l s), some (.d (dGraph nm ar hd)), y2, none, none, none, none, none] (st.set s o) { nx := fun _ s => ∃ s0 g, s = s0 ++ g ∧ Gcd st s0 ∧ Q (.d .none) s0, rt := fun w s => ∃ s0 g, s = s0 ++ g ∧ Gcd st s0 ∧ okW s0.length w ∧ Q w s0 } by
    refine sq_ifD1 (s := s) ?_ (fun o ho => ?_) (fun o ho => ?_)
    · refine drT_cmp (f := fun i j => decide (i = j)) (top := 5) (j := 0) W1 ?_ (fun _ _ => ev_c)
      refine dr_draw ?_ (by decide) (by decide) W1
      exact ea_cons (ev_var rfl) (ea_cons ev_c ea_nil)
    · rw [show (st.set s o1).set s o = st.set s o from List.set_set ..]
      have W2 : WellAt (st.set s o) s := W0.next ho
      refine sq_set (w := .d (dRows edgesX)) ?_ ?_
      · exact ev_tup (ds := edgesX.map dInts) (ea_cons (ev_tup (ds := [.int 0, .int 1]) (ea_cons ev_c (ea_cons ev_c ea_nil)) (by decide)) (ea_cons (ev_tup (ds := [.int 1, .int 7]) (ea_cons ev_c (ea_cons ev_c ea_nil)) (by decide)) (ea_cons (ev_tup (ds := [.int 2, .int 3]) (ea_cons ev_c (ea_cons ev_c ea_nil)) (by decide)) (ea_cons (ev_tup (ds := [.int 3, .int 7]) (ea_cons ev_c (ea_cons ev_c ea_nil)) (by decide)) (ea_cons (ev_tup (ds := [.int 4, .int 5]) (ea_cons ev_c (ea_cons ev_c ea_nil)) (by decide)) (ea_cons (ev_tup (ds := [.int 5, .int 7]) (ea_cons ev_c (ea_cons ev_c ea_nil)) (by decide)) (ea_cons (ev_tup (ds := [.int 6, .int 7]) (ea_cons ev_c (ea_cons ev_c ea_nil)) (by decide)) ea_nil))))))) (by decide)
      refine sq_setD (s := s) (P := fun w => ∃ nm, w = .d (dGraph nm edgesX hostsX) ∧ GrN 8 nm edgesX hostsX) (dr_tup3 (b := dRows edgesX) (c := dRows hostsX) (P1 := fun w => ∃ nm, w = .d (dStrs nm) ∧ GrN 8 nm edgesX hostsX) (dr_ixH (dr_netD (least := 8) (homes := 0) W2 (ev_var rfl) ev_c (dr_int ev_c W2 ⟨by decide, by decide⟩) (fun o ho => ev_c) (by decide) (by decide)) ?_) (fun o ho => ?_) (fun o ho => ?_) ?_) ?_
      · rintro w ⟨n, nm, ar, hd, rfl, g, h8⟩
        have e8 : n = 8 := by have := g.most; omega
        subst e8
        exact ⟨_, dStrs nm, rfl, rfl, nm, rfl, ⟨by decide, by decide, g.len, g.nd, g.nm, arrX, hidX⟩⟩
      · exact ev_var rfl
      · exact ev_tup (ds := hostsX.map dInts) (ea_cons (ev_tup (ds := [.int 0, .int 3]) (ea_cons ev_c (ea_cons ev_c ea_nil)) (by decide)) (ea_cons (ev_tup (ds := [.int 0, .int 7]) (ea_cons ev_c (ea_cons ev_c ea_nil)) (by decide)) (ea_cons (ev_tup (ds := [.int 2, .int 5]) (ea_cons ev_c (ea_cons ev_c ea_nil)) (by decide)) (ea_cons (ev_tup (ds := [.int 2, .int 7]) (ea_cons ev_c (ea_cons ev_c ea_nil)) (by decide)) (ea_cons (ev_tup (ds := [.int 4, .int 6]) (ea_cons ev_c (ea_cons ev_c ea_nil)) (by decide)) (ea_cons (ev_tup (ds := [.int 4, .int 7]) (ea_cons ev_c (ea_cons ev_c ea_nil)) (by decide)) ea_nil)))))) (by decide)
      · rintro w ⟨nm, rfl, g⟩
        exact ⟨_, rfl, nm, rfl, g⟩
      rintro w o2 ho2 ⟨nm, rfl, g⟩
      rw [show (st.set s o).set s o2 = st.set s o2 from List.set_set ..]
      have W3 : WellAt (st.set s o2) s := W0.next ho2
      refine s_ifNo (s := s) (dr_il (n := 8) (nm := nm) (ar := edgesX) (hd := hostsX) (S := rgD 0 8) (x := 7) (t := []) ?_ W3 g (lot_rgD 8) ⟨by simp, fun x hx => ?_⟩ joi_one (fun y hy => ?_)) (fun o3 ho3 => ?_)
      · exact ea_cons (ev_var rfl) (ea_cons (ev_var rfl) (ea_cons (ev_tupRg ev_c ⟨by decide, by decide, by decide, by decide⟩) (ea_cons (ev_tup (ds := [.int 7]) (ea_cons ev_c ea_nil) (by decide)) ea_nil)))
      · rw [List.mem_singleton.mp hx]
        decide
      · rw [List.mem_singleton.mp hy]
        exact mem_rgD.mpr (by decide)
      · rw [show (st.set s o2).set s o3 = st.set s o3 from List.set_set ..]
        exact rest 8 nm edgesX hostsX o3 _ g (by decide) ho3
    · rw [show (st.set s o1).set s o = st.set s o from List.set_set ..]
      exact rest n0 nm0 ar0 hd0 o none g0 n02 ho
  intro n nm ar hd o y2 g n2 ho
  have n8 := g.most
  have le := lot_rgD n
  have el := lot_short le
  have hb : ∀ b ∈ hd, b.length ≤ 1000 := fun b hb => (lot_sub (g.hd.2.2 b hb).1 n8).1
  refine sq_set (w := wR (rgD 0 (n : Int))) ?_ ?_
  · rw [← nm_len g]
    exact ev_tupRg (ev_lenT (ds := nm.map .str) (ev_ixT (ev_var rfl) ev_c rfl)) (by rw [nm_len g]; exact ⟨by decide, by decide, by omega, by omega⟩)
  have ne0 : rgD 0 (n : Int) ≠ [] := fun z => by
    have := len_rgD (n : Int)
    rw [z] at this
    simp at this
    omega
  refine sq_forI (α := Nat) (st1 := st.set s o) (fun i => wI (0 + (i : Nat))) (List.range 3) (fun i ρ s' => ∃ (y4 y5 y6 y7 : Option W) (o : Ob), ρ = [some (.l s), some (.d (dGraph nm ar hd)), y2, some (wR (rgD 0 (n : Int))), y4, y5, y6, y7] ∧ isWell o ∧ s' = st.set s o) (gd := fun _ => True) ?_ ⟨none, none, none, none, o, rfl, ho, rfl⟩ (fun _ _ _ _ => trivial) ?_ ?_
  · refine wk_rng1 (j := 3) ?_ ⟨by decide, by decide⟩
    exact ev_c
  · rintro i k ρ s' hx ⟨y4, y5, y6, y7, o, rfl, ho, rfl⟩
    have W1 : WellAt (st.set s o) s := W0.next ho
    refine sq_setD (s := s) (P := fun w => ∃ r, w = wR r ∧ LotN n r ∧ r ≠ []) ?_ ?_
    · refine dr_if W1 ?_ (fun o ho => ?_) (fun o ho => ?_)
      · refine drT_cmp (f := fun i j => decide (i = j)) (top := 2) (j := 0) W1 ?_ (fun _ _ => ev_c)
        refine dr_draw ?_ (by decide) (by decide) W1
        exact ea_cons (ev_var rfl) (ea_cons ev_c ea_nil)
      · exact dr_ev (ev_var rfl) (W1.next ho) ⟨_, rfl, le, ne0⟩
      · intro Q q
        refine dr_fewD (r := rgD 0 (n : Int)) (P := fun k => 2 ≤ k) (W1.next ho) ?_ ?_ (by omega) ?_ (fun k hk => by omega) Q fun w o ho ⟨ms, k, e, hk, sub, ml⟩ => q w o ho ⟨ms, e, lot_sublist le sub, fun z => ?_⟩
        · exact ev_var rfl
        · exact ev_var rfl
        · refine dr_add (Q1 := fun i => i = 2) (Q2 := fun i => 0 ≤ i) (W1.next ho) (dr_int ev_c (W1.next ho) rfl) (fun o' ho' => ?_) (fun i j a b => by omega)
          refine dr_drawI (top := (n : Int) - 1) ?_ (by omega) (by omega) ((W1.next ho).next ho') fun r a b => a
          exact ea_cons (ev_var rfl) (ea_cons (ev_sub (ev_lenRg (ev_var rfl)) ev_c) ea_nil)
        · rw [z, len_rgD] at ml
          simp at ml
          omega
    rintro w o2 ho2 ⟨crew, rfl, lc, ne⟩
    rw [show (st.set s o).set s o2 = st.set s o2 from List.set_set ..]
    have W2 : WellAt (st.set s o2) s := W0.next ho2
    have cl := lot_sub lc n8
    refine sq_setD (s := s) (P := fun w => ∃ r, w = wR r ∧ r.Sublist crew) ?_ ?_
    · refine dr_if W2 ?_ (fun o ho => ?_) (fun o ho => ?_)
      · refine drT_cmp (f := fun i j => decide (j < i)) (top := 3) (j := 0) W2 ?_ (fun _ _ => ev_c)
        refine dr_draw ?_ (by decide) (by decide) W2
        exact ea_cons (ev_var rfl) (ea_cons ev_c ea_nil)
      · intro Q q
        refine dr_fewD (r := crew) (P := fun k => 0 ≤ k) (W2.next ho) ?_ ?_ cl.1 ?_ (fun k hk => hk) Q fun w o ho ⟨ms, k, e, hk, sub, ml⟩ => q w o ho ⟨ms, e, sub⟩
        · exact ev_var rfl
        · exact ev_var rfl
        · refine dr_add (Q1 := fun i => i = 1) (Q2 := fun i => 0 ≤ i) (W2.next ho) (dr_int ev_c (W2.next ho) rfl) (fun o' ho' => ?_) (fun i j a b => by omega)
          refine dr_drawI (top := 2) ?_ (by decide) (by decide) ((W2.next ho).next ho') fun r a b => a
          exact ea_cons (ev_var rfl) (ea_cons ev_c ea_nil)
      · refine dr_some (s := s) (r := crew) ?_ cl.1 (W2.next ho)
        exact ea_cons (ev_var rfl) (ea_cons (ev_var rfl) ea_nil)
    rintro w o3 ho3 ⟨part, rfl, sub⟩
    rw [show (st.set s o2).set s o3 = st.set s o3 from List.set_set ..]
    have W3 : WellAt (st.set s o3) s := W0.next ho3
    have lp := lot_sublist lc sub
    obtain ⟨T, hT, lT, neT, subT⟩ : ∃ T : List Int, T = (if part = [] then crew else part) ∧ LotN n T ∧ T ≠ [] ∧ ∀ y ∈ T, y ∈ crew := by
      by_cases c : part = []
      · exact ⟨crew, (if_pos c).symm, lc, ne, fun y hy => hy⟩
      · exact ⟨part, (if_neg c).symm, lp, c, fun y hy => sub.subset hy⟩
    have tl := lot_short lT
    obtain ⟨rows, _, cov⟩ := rows_of_mem (hs := hd) (ms := T) T [] (fun x h => h) (fun r hr => by cases hr)
    have neR : (rowsL hd T).map dInts ≠ [] := fun z => by
      obtain ⟨y, ty⟩ := List.exists_mem_of_ne_nil _ neT
      have cy : y ∈ (rowsL hd T).flatten := cov y ty
      rw [List.map_eq_nil_iff.mp z] at cy
      cases cy
    have rl : (rowsL hd T).length ≤ 0 + T.length := (rows_shape (hs := hd) (ms := T) T [] (fun r hr => by cases hr)).2
    refine sq_setD (s := s) (dr_pick (ds := (rowsL hd T).map dInts) ?_ neR (by rw [List.length_map]; omega) W3) ?_
    · refine ea_cons (ev_var rfl) (ea_cons (ev_call (ws := [.d (dGraph nm ar hd), wR T]) (ea_cons (ev_var rfl) (ea_cons (ev_if (b := decide (part = [])) (et_b (ev_eqR (r := part) (s := []) (ev_var rfl) (ev_tup (ds := []) ea_nil (by decide)))) (fun c => ?_) (fun c => ?_)) ea_nil)) fun Q q => ⟨_, _, hd, wR T, T, rfl, .inl rfl, by omega, lT.1, hb, q⟩) ea_nil)
      · rw [hT, if_pos (of_decide_eq_true c)]
        exact ev_var rfl
      · rw [hT, if_neg (of_decide_eq_false c)]
        exact ev_var rfl
    rintro w o4 ho4 ⟨d, hd', rfl⟩
    rw [show (st.set s o3).set s o4 = st.set s o4 from List.set_set ..]
    have W4 : WellAt (st.set s o4) s := W0.next ho4
    obtain ⟨r, hr, rfl⟩ := List.mem_map.mp hd'
    obtain ⟨y, hy, er⟩ := rows r hr
    have yr : y ∈ r := by rw [er]; exact (mem_comL hy).mpr .base
    cases r with
    | nil => cases yr
    | cons x t =>
      have jx : Joi hd (x :: t) x := by
        rw [er]
        exact joi_com lT.1 hy (by rw [← er]; exact List.mem_cons_self)
      have sT : ∀ z ∈ x :: t, z ∈ T := fun z hz => by
        rw [er] at hz
        exact comL_sub z hz
      have lx : LotN n (x :: t) := ⟨jx.asc, fun z hz => lT.2 z (sT z hz)⟩
      refine s_ifNo (s := s) (dr_il (n := n) (nm := nm) (ar := ar) (hd := hd) (S := crew) (x := x) (t := t) ?_ W4 g lc lx jx (fun z hz => subT z (sT z hz))) (fun o5 ho5 => ?_)
      · exact ea_cons (ev_var rfl) (ea_cons (ev_var rfl) (ea_cons (ev_var rfl) (ea_cons (ev_var rfl) ea_nil)))
      · exact ⟨_, _, _, _, o5, rfl, ho5, List.set_set ..⟩
  · rintro ρ s' ⟨y4, y5, y6, y7, o, rfl, ho, rfl⟩
    exact s_ret (w := wB true) ev_c ⟨st.set s o, [], (List.append_nil _).symm, xs_gc ho, trivial, q o ho⟩
def F_la3 : List W → Sto → WQ → Prop := fun ws st Q => ∃ ns : List Int, ws = [.d (.list (ns.map .int))] ∧ ns.length ≤ 63 ∧ Q (wB true) st
theorem mo_la3 : MonoF F_la3 := ⟨fun ws st Q Q' f ⟨s, e, a, q⟩ => ⟨s, e, a, f _ _ q⟩⟩
def m_la3 : MS :=
  (sSeq (sFor (iR1 (aCons (mCB cMax2 (aCons (mC (.int 1)) (aCons (mCB cMin2 (aCons (mCB cLen (aCons (mVar 0) aNil)) (aCons (mC (.int 2)) aNil))) aNil))) aNil)) (gN 1)
      (sIf (mNot (mGcT (mB (mCB F_r3 (aCons (mCB F_sp (aCons (mVar 0) (aCons (mVar 1) aNil))) aNil))))) (sRet (mC (.bool false))) sNext))
      (sRet (mC (.bool true))))
theorem do_la3 : Does m_la3 1 1 F_la3 := by
  rintro ws st Q ⟨ns, rfl, l, q⟩
  have z : ∃ m : Int, Ev' (mCB cMax2 (aCons (mC (.int 1)) (aCons (mCB cMin2 (aCons (mCB cLen (aCons (mVar 0) aNil)) (aCons (mC (.int 2)) aNil))) aNil))) [some (.d (.list (ns.map .int))), none] st (wI m) ∧ 1 ≤ m ∧ m ≤ 2 := by
    refine ⟨_, ev_max ev_c (ev_min (ev_lenZ (ev_var rfl)) ev_c), ?_, ?_⟩
    all_goals generalize ((List.length (ns.map PyData.int) : Nat) : Int) = k
    all_goals (split <;> (try split) <;> omega)
  obtain ⟨m, z, b⟩ := z
  refine ⟨rfl, sq_forI (α := Nat) (st1 := st) (fun i => wI (0 + (i : Nat))) (List.range m.toNat) (fun i ρ s' => ∃ y : Option W, ρ = [some (.d (.list (ns.map .int))), y] ∧ s' = st) (gd := fun _ => True) (wk_rng1 (j := m) z ⟨by omega, by omega⟩) ⟨none, rfl, rfl⟩ (fun _ _ _ _ => trivial) ?_ ?_⟩
  · rintro i k ρ s' hx ⟨y, rfl, rfl⟩
    have hk : k < m.toNat := by
      have z := (List.getElem?_eq_some_iff.mp hx)
      obtain ⟨z1, z2⟩ := z
      rw [List.length_range] at z1
      rw [List.getElem_range] at z2
      omega
    refine s_if1 (b := false) (et_not (b := true) fun R r => ?_) (fun z => by cases z) (fun _ => ⟨_, rfl, rfl⟩)
    unfold mGcT mB mCB aCons aNil
    refine ⟨ns, 0 + (k : Nat), rfl, l, by omega, by omega, fun u o ho => ?_⟩
    refine ⟨s'.length + 1, rfl, ⟨o, app2_at1, ho⟩, fun o' ho' => ?_⟩
    refine ⟨s', [u, o'], ?_, Gcd.rfl', r⟩
    exact app2_set1
  · rintro ρ s' ⟨y, rfl, rfl⟩
    exact s_ret ev_c (sameW trivial q)
end FL

namespace FL
open PySem PySem.Spec PyProof.Rows L2 KL KG GR KV KS KY RT
abbrev st_sp : Stmt := topS 33
theorem sc_sp : FnScope ["script", "lap", "own", "seed", "cell"] ["script", "lap"] (defScope st_sp) := ⟨rfl, rfl, rfl, by decide +kernel, rfl, by decide +kernel, by decide +kernel⟩
abbrev st_dr : Stmt := topS 34
theorem sc_dr : FnScope ["spring", "top", "digit", "seed"] ["spring", "top"] (defScope st_dr) := ⟨rfl, rfl, rfl, by decide +kernel, rfl, by decide +kernel, by decide +kernel⟩
abbrev st_pk : Stmt := topS 35
theorem sc_pk : FnScope ["spring", "some"] ["spring", "some"] (defScope st_pk) := ⟨rfl, rfl, rfl, by decide +kernel, rfl, by decide +kernel, by decide +kernel⟩
abbrev st_is2 : Stmt := topS 36
theorem sc_is2 : FnScope ["gave", "due"] ["gave", "due"] (defScope st_is2) := ⟨rfl, rfl, rfl, by decide +kernel, rfl, by decide +kernel, by decide +kernel⟩
abbrev st_so : Stmt := topS 37
theorem sc_so : FnScope ["spring", "crew", "found", "at"] ["spring", "crew"] (defScope st_so) := ⟨rfl, rfl, rfl, by decide +kernel, rfl, by decide +kernel, by decide +kernel⟩
abbrev st_fe : Stmt := topS 38
theorem sc_fe : FnScope ["spring", "crew", "many", "left"] ["spring", "crew", "many"] (defScope st_fe) := ⟨rfl, rfl, rfl, by decide +kernel, rfl, by decide +kernel, by decide +kernel⟩
abbrev st_lb : Stmt := topS 39
theorem sc_lb : FnScope ["spring", "taken", "letters", "tails", "word", "more", "lap", "head"] ["spring", "taken"] (defScope st_lb) := ⟨rfl, rfl, rfl, by decide +kernel, rfl, by decide +kernel, by decide +kernel⟩
abbrev st_nt : Stmt := topS 40
theorem sc_nt : FnScope ["spring", "least", "most", "homes", "many", "thick", "labels", "edges", "hosts", "lap", "one", "two", "lots", "host"] ["spring", "least", "most", "homes"] (defScope st_nt) := ⟨rfl, rfl, rfl, by decide +kernel, rfl, by decide +kernel, by decide +kernel⟩
abbrev st_up : Stmt := topS 41
theorem sc_up : FnScope ["net", "crew", "some", "found", "at", "one", "two"] ["net", "crew", "some"] (defScope st_up) := ⟨rfl, rfl, rfl, by decide +kernel, rfl, by decide +kernel, by decide +kernel⟩
abbrev st_lu : Stmt := topS 42
theorem sc_lu : FnScope ["net", "crew", "marks", "at", "host", "inner", "first"] ["net", "crew"] (defScope st_lu) := ⟨rfl, rfl, rfl, by decide +kernel, rfl, by decide +kernel, by decide +kernel⟩
abbrev st_he : Stmt := topS 43
theorem sc_he : FnScope ["net", "small", "crew", "lots", "at", "row", "found"] ["net", "small", "crew"] (defScope st_he) := ⟨rfl, rfl, rfl, by decide +kernel, rfl, by decide +kernel, by decide +kernel⟩
abbrev st_ge : Stmt := topS 44
theorem sc_ge : FnScope ["found", "best", "crew"] ["found"] (defScope st_ge) := ⟨rfl, rfl, rfl, by decide +kernel, rfl, by decide +kernel, by decide +kernel⟩
abbrev st_ha : Stmt := topS 45
theorem sc_ha : FnScope ["crew", "part", "at"] ["crew", "part"] (defScope st_ha) := ⟨rfl, rfl, rfl, by decide +kernel, rfl, by decide +kernel, by decide +kernel⟩
abbrev st_lo2 : Stmt := topS 46
theorem sc_lo2 : FnScope ["net", "crew", "small", "found", "lap", "now", "lead", "each", "last"] ["net", "crew", "small"] (defScope st_lo2) := ⟨rfl, rfl, rfl, by decide +kernel, rfl, by decide +kernel, by decide +kernel⟩
abbrev st_be : Stmt := topS 47
theorem sc_be : FnScope ["spring", "crew", "part", "more", "at"] ["spring", "crew", "part"] (defScope st_be) := ⟨rfl, rfl, rfl, by decide +kernel, rfl, by decide +kernel, by decide +kernel⟩
abbrev st_il : Stmt := topS 48
theorem sc_il : FnScope ["spring", "net", "crew", "small", "found", "last", "due", "gave", "each", "more"] ["spring", "net", "crew", "small"] (defScope st_il) := ⟨rfl, rfl, rfl, by decide +kernel, rfl, by decide +kernel, by decide +kernel⟩
abbrev st_r3 : Stmt := topS 49
theorem sc_r3 : FnScope ["spring", "net", "edges", "every", "lap", "crew", "part", "small"] ["spring"] (defScope st_r3) := ⟨rfl, rfl, rfl, by decide +kernel, rfl, by decide +kernel, by decide +kernel⟩
abbrev st_la3 : Stmt := topS 50
theorem sc_la3 : FnScope ["script", "lap"] ["script"] (defScope st_la3) := ⟨rfl, rfl, rfl, by decide +kernel, rfl, by decide +kernel, by decide +kernel⟩
theorem paired_app {α β : Type} {R : α → β → Prop} : ∀ {xs : List α} {ys : List β} {us : List α} {vs : List β}, Paired R xs ys → Paired R us vs → Paired R (xs ++ us) (ys ++ vs)
  | _, _, _, _, .nil, h => h
  | _, _, _, _, .cons a t, h => .cons a (paired_app t h)
theorem paired_rev {α β : Type} {R : α → β → Prop} : ∀ {xs : List α} {ys : List β}, Paired R xs ys → Paired R xs.reverse ys.reverse
  | _, _, .nil => .nil
  | _, _, .cons a t => by
    rw [List.reverse_cons, List.reverse_cons]
    exact paired_app (paired_rev t) (.cons a .nil)
theorem rev_w {K : PySem.W.Frag} : ∀ μ H vs ws, RWL K μ H vs ws → RWL K μ H (gRevV [] vs) (List.reverse ws) := fun μ H vs ws h => paired_rev h
theorem kb_rev3 {K : PySem.W.Frag} {fd : FuncData} {x y z : Str} (h : ∀ (s : Shared) (u v w : Value), BindsTo s fd ⟨[], [(z, u), (y, v), (x, w)]⟩ [(x, w), (y, v), (z, u)]) : KBinds K fd [x, y, z] [z, y, x] gRev gRevV := by
  refine ⟨fun s us ws _ hl => ?_, fun r rz => ?_⟩
  · match us, ws, hl with
    | [], [u, v, w], _ => exact h s u v w
    | [], [], hl => cases hl
    | [], [_], hl => cases hl
    | [], [_, _], hl => cases hl
    | [], _ :: _ :: _ :: _ :: _, hl =>
      have hl : (List.reverse _).length = 3 := hl
      rw [List.length_reverse] at hl
      cases hl
    | _ :: _, _, hl => cases hl
  · cases r with
    | nil => exact rz.reverse
    | cons _ _ => exact .nil
theorem kb_rr {K : PySem.W.Frag} {f : Addr} {fd : FuncData} (F : Fun K "rounds" "rounds" st_rr f fd) : KBinds K fd ["graph", "lot", "ends"] ["ends", "lot", "graph"] gRev gRevV := by
  obtain ⟨oc, od, kV, doc, pm, an, cdv, ct, osl, rfl, lk, hcd⟩ := F.ex
  exact kb_rev3 fun s u v w => BindsTo.of_eq rfl
theorem kb_gh {K : PySem.W.Frag} {f : Addr} {fd : FuncData} (F : Fun K "greatest_hedge" "greatest_hedge" st_gh f fd) : KBinds K fd ["graph", "lot", "ends"] ["ends", "lot", "graph"] gRev gRevV := by
  obtain ⟨oc, od, kV, doc, pm, an, cdv, ct, osl, rfl, lk, hcd⟩ := F.ex
  exact kb_rev3 fun s u v w => BindsTo.of_eq rfl
section
variable {P : Program} {w : World} {K : PySem.W.Frag} {mg : Str → Option Value} {base : Heap} {ts : List Addr}
theorem ok_sp (nb : Nb mg) (d : Dn K mg "_law_spring" st_sp ["script", "lap"]) : Fd P w K mg base ts "_law_spring" st_sp ["script", "lap"] 1 F_sp := by
  obtain ⟨f, fd, Fn, g, b⟩ := d
  refine ⟨f, fd, fl_def (k := 0) Fn sc_sp do_sp (fun cdv A outer s H E hr => ?_), g, Fn.kp, b, Fn⟩
  have hu : (A.deeper (envOfC (Str.ofString "_law_spring") (defScope st_sp) s.heap.objs.size f cdv)).units + 65 < cLine := by
    have := hr.un
    omega
  exact ⟨_, (pss_cons (ps_par (i := 2) (j := 3) rfl sc_sp.nd rfl rfl (by decide) (by rfl) (by rfl) (pa_cons (pe_ifExp (pt_cmpR op_lt (pv 1) (pe_callB (show CallR _ _ (rLen K) from call_len_seq) (by rfl) nb.len (by decide +kernel) (pa_cons (pv 0) pa_nil)) (nomark _)) (pe_callTy (show CallR _ _ (rInt1) from call_int1) (by rfl) nb.int (by decide +kernel) (pa_cons (pe_ix (show IxR _ (rIxL K) from ix_list) (pv 0) (pv 1) (fun _ _ => rfl)) pa_nil)) pe_int) (pa_cons (pe_op op_add pe_int (pe_op op_mul pe_int (pv 1))) pa_nil)) (by rfl))
      (pss_cons (ps_for PassesOwn.never rfl (pi_list (pe_slice (show SlR _ (rSlL K) from sl_list) (pv 0) po_none (po_some pe_int))) (pg_name (i := 4) sc_sp.nd rfl (.inl rfl))
      (pss_one (ps_set (i := 3) sc_sp.nd rfl (.inl rfl) (pe_op op_mod (pe_callTy (show CallR _ _ (rInt1) from call_int1) (by rfl) nb.int (by decide +kernel) (pa_cons (pe_op op_add (pe_op op_add (pe_op op_mul (pv 3) pe_int) (pe_op op_mod (pe_callTy (show CallR _ _ (rInt1) from call_int1) (by rfl) nb.int (by decide +kernel) (pa_cons (pv 4) pa_nil)) pe_int)) pe_int) pa_nil)) pe_int))))
      (pss_cons (ps_set (i := 3) sc_sp.nd rfl (.inl rfl) (pe_op op_mod (pe_callTy (show CallR _ _ (rInt1) from call_int1) (by rfl) nb.int (by decide +kernel) (pa_cons (pe_op op_add (pe_op op_add (pe_op op_mul (pv 3) pe_int) (pe_op op_mul (pe_op op_mod (pe_callTy (show CallR _ _ (rInt1) from call_int1) (by rfl) nb.int (by decide +kernel) (pa_cons (pv 2) pa_nil)) pe_int) pe_int)) pe_int) pa_nil)) pe_int))
      (pss_one (ps_ret (pe_lst (pa_cons (pe_ifExp (PW.pt (pw_or (pt_cmpR op_lt (pv 2) pe_int (nomark _)) (pw_or1 (pt_cmpR op_ge (pv 2) (pe_op op_pow pe_int pe_int) (nomark _))))) (pe_callB (show CallR _ _ (rAbs) from call_abs) (by rfl) nb.abs (by decide +kernel) (pa_cons (pv 2) pa_nil)) pe_int) (pa_cons (pv 3) (pa_cons pe_int pa_nil))))))))), (xss_cons (xs_par (xa_cons (xe_if (xt_test (xe_op xo_lt (xe_var 1) (xe_cb xc_len (xa_cons (xe_var 0) xa_nil)))) (xe_cb xc_int (xa_cons (xe_op xo_ixZ (xe_var 0) (xe_var 1)) xa_nil)) xe_int) (xa_cons (xe_op xo_add xe_int (xe_op xo_mul xe_int (xe_var 1))) xa_nil)))
      (xss_cons (xs_for (xi_list (xe_slZ (xe_var 0) xp_none (xp_some xe_int))) (xg_name 4)
      (xss_one (xs_asg (xe_op xo_mod (xe_cb xc_int (xa_cons (xe_op xo_add (xe_op xo_add (xe_op xo_mul (xe_var 3) xe_int) (xe_op xo_mod (xe_cb xc_int (xa_cons (xe_var 4) xa_nil)) xe_int)) xe_int) xa_nil)) xe_int) (xg_name 3))))
      (xss_cons (xs_asg (xe_op xo_mod (xe_cb xc_int (xa_cons (xe_op xo_add (xe_op xo_add (xe_op xo_mul (xe_var 3) xe_int) (xe_op xo_mul (xe_op xo_mod (xe_cb xc_int (xa_cons (xe_var 2) xa_nil)) xe_int) xe_int)) xe_int) xa_nil)) xe_int) (xg_name 3))
      (xss_one (xs_ret (xe_lst (xa_cons (xe_if (xt_or (xt_test (xe_op xo_lt (xe_var 2) xe_int)) (xt_test (xe_op xo_ge (xe_var 2) (xe_op xo_pow xe_int xe_int)))) (xe_cb xc_abs (xa_cons (xe_var 2) xa_nil)) xe_int) (xa_cons (xe_var 3) (xa_cons xe_int xa_nil)))))))))⟩
theorem ok_dr (nb : Nb mg) (d : Dn K mg "_law_draw" st_dr ["spring", "top"]) : Fd P w K mg base ts "_law_draw" st_dr ["spring", "top"] 1 F_dr := by
  obtain ⟨f, fd, Fn, g, b⟩ := d
  refine ⟨f, fd, fl_def (k := 0) Fn sc_dr do_dr (fun cdv A outer s H E hr => ?_), g, Fn.kp, b, Fn⟩
  have hu : (A.deeper (envOfC (Str.ofString "_law_draw") (defScope st_dr) s.heap.objs.size f cdv)).units + 65 < cLine := by
    have := hr.un
    omega
  exact ⟨_, (pss_cons (ps_if (pt_cmpR op_gt (pe_ix (show IxR _ (rIxL K) from ix_list) (pv 0) pe_int (fun _ _ => rfl)) pe_int (nomark _)) (pss_cons (ps_asg (pe_callB (show CallR _ _ (rDm) from call_divmod) (by rfl) nb.dm (by decide +kernel) (pa_cons (pe_ix (show IxR _ (rIxL K) from ix_list) (pv 0) pe_int (fun _ _ => rfl)) (pa_cons (pv 1) pa_nil))) (pg_tup rfl (pgs_cons (pg_sub (pv 0) pe_int set_list) (pgs_cons (pg_name (i := 2) sc_dr.nd rfl (.inl rfl)) pgs_nil))))
      (pss_one (ps_ret (pv 2)))) pss_nil)
      (pss_cons (ps_asg (pe_op op_add (pe_ix (show IxR _ (rIxL K) from ix_list) (pv 0) pe_int (fun _ _ => rfl)) pe_int) (pg_sub (pv 0) pe_int set_list))
      (pss_cons (ps_set (i := 3) sc_dr.nd rfl (.inl rfl) (pe_op op_mod (pe_callTy (show CallR _ _ (rInt1) from call_int1) (by rfl) nb.int (by decide +kernel) (pa_cons (pe_op op_add (pe_ix (show IxR _ (rIxL K) from ix_list) (pv 0) pe_int (fun _ _ => rfl)) (pe_op op_mul pe_int (pe_ix (show IxR _ (rIxL K) from ix_list) (pv 0) pe_int (fun _ _ => rfl)))) pa_nil)) pe_int))
      (pss_cons (ps_asg (pe_op op_mod (pe_callTy (show CallR _ _ (rInt1) from call_int1) (by rfl) nb.int (by decide +kernel) (pa_cons (pe_op op_add (pe_op op_mul (pv 3) (pe_op op_add (pe_op op_mod (pe_callTy (show CallR _ _ (rInt1) from call_int1) (by rfl) nb.int (by decide +kernel) (pa_cons (pv 3) pa_nil)) pe_int) pe_int)) (pe_op op_mul pe_int (pe_ix (show IxR _ (rIxL K) from ix_list) (pv 0) pe_int (fun _ _ => rfl)))) pa_nil)) pe_int) (pg_sub (pv 0) pe_int set_list))
      (pss_one (ps_ret (pe_op op_mod (pe_callTy (show CallR _ _ (rInt1) from call_int1) (by rfl) nb.int (by decide +kernel) (pa_cons (pe_op op_fdiv (pe_ix (show IxR _ (rIxL K) from ix_list) (pv 0) pe_int (fun _ _ => rfl)) pe_int) pa_nil)) (pv 1)))))))), (xss_cons (xs_if (xt_test (xe_op xo_gt (xe_op xo_ixL (xe_var 0) xe_int) xe_int)) (xss_cons (xs_asg (xe_cb xc_divmod (xa_cons (xe_op xo_ixL (xe_var 0) xe_int) (xa_cons (xe_var 1) xa_nil))) (xg_tup (xgs_cons (xg_sub (xe_var 0) xe_int) (xgs_cons (xg_name 2) xgs_nil))))
      (xss_one (xs_ret (xe_var 2)))) xss_nil)
      (xss_cons (xs_asg (xe_op xo_add (xe_op xo_ixL (xe_var 0) xe_int) xe_int) (xg_sub (xe_var 0) xe_int))
      (xss_cons (xs_asg (xe_op xo_mod (xe_cb xc_int (xa_cons (xe_op xo_add (xe_op xo_ixL (xe_var 0) xe_int) (xe_op xo_mul xe_int (xe_op xo_ixL (xe_var 0) xe_int))) xa_nil)) xe_int) (xg_name 3))
      (xss_cons (xs_asg (xe_op xo_mod (xe_cb xc_int (xa_cons (xe_op xo_add (xe_op xo_mul (xe_var 3) (xe_op xo_add (xe_op xo_mod (xe_cb xc_int (xa_cons (xe_var 3) xa_nil)) xe_int) xe_int)) (xe_op xo_mul xe_int (xe_op xo_ixL (xe_var 0) xe_int))) xa_nil)) xe_int) (xg_sub (xe_var 0) xe_int))
      (xss_one (xs_ret (xe_op xo_mod (xe_cb xc_int (xa_cons (xe_op xo_fdiv (xe_op xo_ixL (xe_var 0) xe_int) xe_int) xa_nil)) (xe_var 1))))))))⟩
theorem ok_pk (nb : Nb mg) (hdr : Fd P w K mg base ts "_law_draw" st_dr ["spring", "top"] 1 F_dr) (d : Dn K mg "_law_pick" st_pk ["spring", "some"]) : Fd P w K mg base ts "_law_pick" st_pk ["spring", "some"] 2 F_pk := by
  obtain ⟨fdr, fddr, Gdr, gdr, kdr, bdr, udr⟩ := hdr
  obtain ⟨f, fd, Fn, g, b⟩ := d
  refine ⟨f, fd, fl_def (k := 1) Fn sc_pk do_pk (fun cdv A outer s H E hr => ?_), g, Fn.kp, b, Fn⟩
  have hu : (A.deeper (envOfC (Str.ofString "_law_pick") (defScope st_pk) s.heap.objs.size f cdv)).units + 65 < cLine := by
    have := hr.un
    omega
  exact ⟨_, (pss_one (ps_ret (pe_ix (show IxR _ (rIxT K) from ix_tup) (pv 1) (pe_call Gdr (hr.mono (by decide)) (by rfl) gdr kdr bdr .nil pass0 (pa_cons (pv 0) (pa_cons (pe_callB (show CallR _ _ (rLen K) from call_len_seq) (by rfl) nb.len (by decide +kernel) (pa_cons (pv 1) pa_nil)) pa_nil))) (fun _ _ => rfl)))), (xss_one (xs_ret (xe_op xo_ixT (xe_var 1) (xe_call mo_dr (xa_cons (xe_var 0) (xa_cons (xe_cb xc_len (xa_cons (xe_var 1) xa_nil)) xa_nil))))))⟩
theorem ok_is2 (nb : Nb mg) (d : Dn K mg "_law_is" st_is2 ["gave", "due"]) : FdG P w K mg base ts "_law_is" st_is2 ["gave", "due"] 1 F_is2 := by
  obtain ⟨f, fd, Fn, g, b⟩ := d
  refine ⟨f, fd, fl_defG (k := 0) Fn sc_is2 do_is2 (fun cdv A outer s H E hgd hr => ?_), g, Fn.kp, b, Fn⟩
  have hu : (A.deeper (envOfC (Str.ofString "_law_is") (defScope st_is2) s.heap.objs.size f cdv)).units + 65 < cLine := by
    have := hr.un
    omega
  exact ⟨_, (pss_one (ps_ret (pe_cmpR op_eq (pe_callB (show CallR _ _ (rReprN K) from (call_reprN hgd hu)) (by rfl) nb.repr (by decide +kernel) (pa_cons (pv 0) pa_nil)) (pe_callB (show CallR _ _ (rReprN K) from (call_reprN hgd hu)) (by rfl) nb.repr (by decide +kernel) (pa_cons (pv 1) pa_nil)) (nomark _)))), (xss_one (xs_ret (xe_op xo_eqS (xe_cb xc_reprN (xa_cons (xe_var 0) xa_nil)) (xe_cb xc_reprN (xa_cons (xe_var 1) xa_nil)))))⟩
theorem ok_so (nb : Nb mg) (hdr : Fd P w K mg base ts "_law_draw" st_dr ["spring", "top"] 1 F_dr) (d : Dn K mg "_law_some" st_so ["spring", "crew"]) : Fd P w K mg base ts "_law_some" st_so ["spring", "crew"] 2 F_so := by
  obtain ⟨fdr, fddr, Gdr, gdr, kdr, bdr, udr⟩ := hdr
  obtain ⟨f, fd, Fn, g, b⟩ := d
  refine ⟨f, fd, fl_def (k := 1) Fn sc_so do_so (fun cdv A outer s H E hr => ?_), g, Fn.kp, b, Fn⟩
  have hu : (A.deeper (envOfC (Str.ofString "_law_some") (defScope st_so) s.heap.objs.size f cdv)).units + 65 < cLine := by
    have := hr.un
    omega
  exact ⟨_, (pss_cons (ps_set (i := 2) sc_so.nd rfl (.inl rfl) (pe_lst pa_nil))
      (pss_cons (ps_for PassesOwn.never rfl (pi_tup (pv 1)) (pg_name (i := 3) sc_so.nd rfl (.inl rfl))
      (pss_one (ps_if (pt_cmpR op_eq (pe_call Gdr (hr.mono (by decide)) (by rfl) gdr kdr bdr .nil pass0 (pa_cons (pv 0) (pa_cons pe_int pa_nil))) pe_int (nomark _)) (pss_one (ps_expr (pe_bm PySem.F.plainAttrs_list PySem.F.slot_list_append PySem.F.type_list_append mt_append (pv 2) (pa_cons (pv 3) pa_nil)))) pss_nil)))
      (pss_one (ps_ret (pe_callTy (show CallR _ _ (rTupO K) from call_tuple_of) (by rfl) nb.tup (by decide +kernel) (pa_cons (pv 2) pa_nil)))))), (xss_cons (xs_asg (xe_lst xa_nil) (xg_name 2))
      (xss_cons (xs_for (xi_tup (xe_var 1)) (xg_name 3)
      (xss_one (xs_if (xt_test (xe_op xo_eqI (xe_call mo_dr (xa_cons (xe_var 0) (xa_cons xe_int xa_nil))) xe_int)) (xss_one (xs_expr (xe_bm xm_append (xe_var 2) (xa_cons (xe_var 3) xa_nil)))) xss_nil)))
      (xss_one (xs_ret (xe_cb xc_tup (xa_cons (xe_var 2) xa_nil))))))⟩
theorem ok_fe (nb : Nb mg) (hdr : Fd P w K mg base ts "_law_draw" st_dr ["spring", "top"] 1 F_dr) (d : Dn K mg "_law_few" st_fe ["spring", "crew", "many"]) : Fd P w K mg base ts "_law_few" st_fe ["spring", "crew", "many"] 2 F_fe := by
  obtain ⟨fdr, fddr, Gdr, gdr, kdr, bdr, udr⟩ := hdr
  obtain ⟨f, fd, Fn, g, b⟩ := d
  refine ⟨f, fd, fl_def (k := 1) Fn sc_fe do_fe (fun cdv A outer s H E hr => ?_), g, Fn.kp, b, Fn⟩
  have hu : (A.deeper (envOfC (Str.ofString "_law_few") (defScope st_fe) s.heap.objs.size f cdv)).units + 65 < cLine := by
    have := hr.un
    omega
  exact ⟨_, (pss_cons (ps_set (i := 3) sc_fe.nd rfl (.inl rfl) (pe_callTy (show CallR _ _ (rLstO K) from call_list_of) (by rfl) nb.list (by decide +kernel) (pa_cons (pv 1) pa_nil)))
      (pss_cons (ps_while PassesOwn.never (pt_cmpR op_gt (pe_callB (show CallR _ _ (rLen K) from call_len_seq) (by rfl) nb.len (by decide +kernel) (pa_cons (pv 3) pa_nil)) (pv 2) (nomark _))
      (pss_one (ps_expr (pe_bm PySem.F.plainAttrs_list PySem.F.slot_list_pop PySem.F.type_list_pop mt_popAt (pv 3) (pa_cons (pe_call Gdr (hr.mono (by decide)) (by rfl) gdr kdr bdr .nil pass0 (pa_cons (pv 0) (pa_cons (pe_callB (show CallR _ _ (rLen K) from call_len_seq) (by rfl) nb.len (by decide +kernel) (pa_cons (pv 3) pa_nil)) pa_nil))) pa_nil)))))
      (pss_one (ps_ret (pe_callTy (show CallR _ _ (rTupO K) from call_tuple_of) (by rfl) nb.tup (by decide +kernel) (pa_cons (pv 3) pa_nil)))))), (xss_cons (xs_asg (xe_cb xc_lst (xa_cons (xe_var 1) xa_nil)) (xg_name 3))
      (xss_cons (xs_while (xt_test (xe_op xo_gt (xe_cb xc_len (xa_cons (xe_var 3) xa_nil)) (xe_var 2)))
      (xss_one (xs_expr (xe_bm xm_popAt (xe_var 3) (xa_cons (xe_call mo_dr (xa_cons (xe_var 0) (xa_cons (xe_cb xc_len (xa_cons (xe_var 3) xa_nil)) xa_nil))) xa_nil)))))
      (xss_one (xs_ret (xe_cb xc_tup (xa_cons (xe_var 3) xa_nil))))))⟩
theorem ok_lb (nb : Nb mg) (hdr : Fd P w K mg base ts "_law_draw" st_dr ["spring", "top"] 1 F_dr) (d : Dn K mg "_law_label" st_lb ["spring", "taken"]) : Fd P w K mg base ts "_law_label" st_lb ["spring", "taken"] 2 F_lb := by
  obtain ⟨fdr, fddr, Gdr, gdr, kdr, bdr, udr⟩ := hdr
  obtain ⟨f, fd, Fn, g, b⟩ := d
  refine ⟨f, fd, fl_def (k := 1) Fn sc_lb do_lb (fun cdv A outer s H E hr => ?_), g, Fn.kp, b, Fn⟩
  have hu : (A.deeper (envOfC (Str.ofString "_law_label") (defScope st_lb) s.heap.objs.size f cdv)).units + 65 < cLine := by
    have := hr.un
    omega
  exact ⟨_, (pss_cons (ps_asg (pe_tup (pa_cons pe_str (pa_cons pe_str pa_nil))) (pg_tup rfl (pgs_cons (pg_name (i := 2) sc_lb.nd rfl (.inl rfl)) (pgs_cons (pg_name (i := 3) sc_lb.nd rfl (.inl rfl)) pgs_nil))))
      (pss_cons (ps_par (i := 4) (j := 5) rfl sc_lb.nd rfl rfl (by decide) (by rfl) (by rfl) (pa_cons (pe_ix ix_str (pv 2) (pe_call Gdr (hr.mono (by decide)) (by rfl) gdr kdr bdr .nil pass0 (pa_cons (pv 0) (pa_cons pe_int pa_nil))) (fun _ _ => rfl)) (pa_cons (pe_call Gdr (hr.mono (by decide)) (by rfl) gdr kdr bdr .nil pass0 (pa_cons (pv 0) (pa_cons pe_int pa_nil))) pa_nil)) (by rfl))
      (pss_cons (ps_if (pt_cmpR op_eq (pv 5) pe_int (nomark _)) (pss_one (ps_set (i := 5) sc_lb.nd rfl (.inl rfl) (pe_call Gdr (hr.mono (by decide)) (by rfl) gdr kdr bdr .nil pass0 (pa_cons (pv 0) (pa_cons pe_int pa_nil))))) pss_nil)
      (pss_cons (ps_for PassesOwn.never rfl (pi_range1 (by rfl) nb.rng (pa_cons (pv 5) pa_nil)) (pg_name (i := 6) sc_lb.nd rfl (.inl rfl))
      (pss_one (ps_set (i := 4) sc_lb.nd rfl (.inl rfl) (pe_op op_add_str (pv 4) (pe_ix ix_str (pv 3) (pe_call Gdr (hr.mono (by decide)) (by rfl) gdr kdr bdr .nil pass0 (pa_cons (pv 0) (pa_cons pe_int pa_nil))) (fun _ _ => rfl))))))
      (pss_cons (ps_for PassesOwn.never rfl (pi_str (pv 2)) (pg_name (i := 7) sc_lb.nd rfl (.inl rfl))
      (pss_one (ps_if (PW.pt (pw_or (pt_cmpR (show OpR _ _ (rIn K false) from op_in_seq) (pv 4) (pv 1) (by with_unfolding_all rfl)) (pw_or1 (pt_cmpR (show OpR _ _ (rIn K false) from op_in_seq) (pv 4) (pe_tup (pa_cons pe_str (pa_cons pe_str (pa_cons pe_str (pa_cons pe_str (pa_cons pe_str (pa_cons pe_str (pa_cons pe_str (pa_cons pe_str (pa_cons pe_str pa_nil)))))))))) (by with_unfolding_all rfl))))) (pss_one (ps_set (i := 4) sc_lb.nd rfl (.inl rfl) (pe_op op_add_str (pv 7) (pe_slice (show SlR _ rSlS from sl_str) (pv 4) (po_some pe_int) po_none)))) pss_nil)))
      (pss_one (ps_ret (pv 4)))))))), (xss_cons (xs_parN (xa_cons xe_str (xa_cons xe_str xa_nil)) (xgs_cons (xg_name 2) (xgs_cons (xg_name 3) xgs_nil)))
      (xss_cons (xs_par (xa_cons (xe_op xo_ixS (xe_var 2) (xe_call mo_dr (xa_cons (xe_var 0) (xa_cons xe_int xa_nil)))) (xa_cons (xe_call mo_dr (xa_cons (xe_var 0) (xa_cons xe_int xa_nil))) xa_nil)))
      (xss_cons (xs_if (xt_test (xe_op xo_eqI (xe_var 5) xe_int)) (xss_one (xs_asg (xe_call mo_dr (xa_cons (xe_var 0) (xa_cons xe_int xa_nil))) (xg_name 5))) xss_nil)
      (xss_cons (xs_for (xi_rng1 (xa_cons (xe_var 5) xa_nil)) (xg_name 6)
      (xss_one (xs_asg (xe_op xo_cats (xe_var 4) (xe_op xo_ixS (xe_var 3) (xe_call mo_dr (xa_cons (xe_var 0) (xa_cons xe_int xa_nil))))) (xg_name 4))))
      (xss_cons (xs_for (xi_str (xe_var 2)) (xg_name 7)
      (xss_one (xs_if (xt_or (xt_test (xe_op xo_inS (xe_var 4) (xe_var 1))) (xt_test (xe_op xo_inS (xe_var 4) (xe_tup (xa_cons xe_str (xa_cons xe_str (xa_cons xe_str (xa_cons xe_str (xa_cons xe_str (xa_cons xe_str (xa_cons xe_str (xa_cons xe_str (xa_cons xe_str xa_nil))))))))))))) (xss_one (xs_asg (xe_op xo_cats (xe_var 7) (xe_slS (xe_var 4) (xp_some xe_int) xp_none)) (xg_name 4))) xss_nil)))
      (xss_one (xs_ret (xe_var 4))))))))⟩
theorem ok_nt (nb : Nb mg) (hdr : Fd P w K mg base ts "_law_draw" st_dr ["spring", "top"] 1 F_dr) (hlb : Fd P w K mg base ts "_law_label" st_lb ["spring", "taken"] 2 F_lb) (hfe : Fd P w K mg base ts "_law_few" st_fe ["spring", "crew", "many"] 2 F_fe) (d : Dn K mg "_law_net" st_nt ["spring", "least", "most", "homes"]) : Fd P w K mg base ts "_law_net" st_nt ["spring", "least", "most", "homes"] 3 F_nt := by
  obtain ⟨fdr, fddr, Gdr, gdr, kdr, bdr, udr⟩ := hdr
  obtain ⟨flb, fdlb, Glb, glb, klb, blb, ulb⟩ := hlb
  obtain ⟨ffe, fdfe, Gfe, gfe, kfe, bfe, ufe⟩ := hfe
  obtain ⟨f, fd, Fn, g, b⟩ := d
  refine ⟨f, fd, fl_def (k := 2) Fn sc_nt do_nt (fun cdv A outer s H E hr => ?_), g, Fn.kp, b, Fn⟩
  have hu : (A.deeper (envOfC (Str.ofString "_law_net") (defScope st_nt) s.heap.objs.size f cdv)).units + 65 < cLine := by
    have := hr.un
    omega
  exact ⟨_, (pss_cons (ps_asg (pe_tup (pa_cons (pe_op op_add (pv 1) (pe_call Gdr (hr.mono (by decide)) (by rfl) gdr kdr bdr .nil pass0 (pa_cons (pv 0) (pa_cons (pe_op op_add (pe_op op_sub (pv 2) (pv 1)) pe_int) pa_nil)))) (pa_cons (pe_op op_add pe_int (pe_call Gdr (hr.mono (by decide)) (by rfl) gdr kdr bdr .nil pass0 (pa_cons (pv 0) (pa_cons pe_int pa_nil)))) (pa_cons (pe_lst pa_nil) (pa_cons (pe_lst pa_nil) (pa_cons (pe_lst pa_nil) pa_nil)))))) (pg_tup rfl (pgs_cons (pg_name (i := 4) sc_nt.nd rfl (.inl rfl)) (pgs_cons (pg_name (i := 5) sc_nt.nd rfl (.inl rfl)) (pgs_cons (pg_name (i := 6) sc_nt.nd rfl (.inl rfl)) (pgs_cons (pg_name (i := 7) sc_nt.nd rfl (.inl rfl)) (pgs_cons (pg_name (i := 8) sc_nt.nd rfl (.inl rfl)) pgs_nil)))))))
      (pss_cons (ps_for PassesOwn.never rfl (pi_range1 (by rfl) nb.rng (pa_cons (pv 4) pa_nil)) (pg_name (i := 9) sc_nt.nd rfl (.inl rfl))
      (pss_one (ps_expr (pe_bm PySem.F.plainAttrs_list PySem.F.slot_list_append PySem.F.type_list_append mt_append (pv 6) (pa_cons (pe_call Glb (hr.mono (by decide)) (by rfl) glb klb blb .nil pass0 (pa_cons (pv 0) (pa_cons (pv 6) pa_nil))) pa_nil)))))
      (pss_cons (ps_for PassesOwn.never rfl (pi_range1 (by rfl) nb.rng (pa_cons (pv 4) pa_nil)) (pg_name (i := 10) sc_nt.nd rfl (.inl rfl))
      (pss_one (ps_for PassesOwn.never rfl (pi_range2 (by rfl) nb.rng (pa_cons (pe_op op_add (pv 10) pe_int) (pa_cons (pv 4) pa_nil))) (pg_name (i := 11) sc_nt.nd rfl (.inl rfl))
      (pss_one (ps_if (PW.pt (pw_or (pt_cmpR op_lt (pe_call Gdr (hr.mono (by decide)) (by rfl) gdr kdr bdr .nil pass0 (pa_cons (pv 0) (pa_cons pe_int pa_nil))) (pv 5) (nomark _)) (pw_or1 (PW.pt (pw_and (pt_cmpR op_eq (pv 11) (pe_op op_add (pv 10) pe_int) (nomark _)) (pw_and1 (pt_cmpR op_eq (pe_call Gdr (hr.mono (by decide)) (by rfl) gdr kdr bdr .nil pass0 (pa_cons (pv 0) (pa_cons pe_int pa_nil))) pe_int (nomark _)))))))) (pss_one (ps_expr (pe_bm PySem.F.plainAttrs_list PySem.F.slot_list_append PySem.F.type_list_append mt_append (pv 7) (pa_cons (pe_tup (pa_cons (pv 10) (pa_cons (pv 11) pa_nil))) pa_nil)))) pss_nil)))))
      (pss_cons (ps_set (i := 12) sc_nt.nd rfl (.inl rfl) (pe_call Gdr (hr.mono (by decide)) (by rfl) gdr kdr bdr .nil pass0 (pa_cons (pv 0) (pa_cons (pe_op op_add (pv 3) pe_int) pa_nil))))
      (pss_cons (ps_for PassesOwn.never rfl (pi_range1 (by rfl) nb.rng (pa_cons (pe_ifExp (pt_cmpR op_gt (pv 4) pe_int (nomark _)) (pe_op op_add (pv 12) (pe_ifExp (pt_cmpR op_lt (pv 12) pe_int (nomark _)) (pe_call Gdr (hr.mono (by decide)) (by rfl) gdr kdr bdr .nil pass0 (pa_cons (pv 0) (pa_cons pe_int pa_nil))) pe_int)) pe_int) pa_nil)) (pg_name (i := 9) sc_nt.nd rfl (.inl rfl))
      (pss_cons (ps_set (i := 13) sc_nt.nd rfl (.inl rfl) (pe_call Gfe (hr.mono (by decide)) (by rfl) gfe kfe bfe .nil pass0 (pa_cons (pv 0) (pa_cons (pe_listRg rfl (by rfl) nb.list (prg_1 (by rfl) nb.rng (pv 4))) (pa_cons (pe_ifExp (pt_cmpR op_gt (pe_call Gdr (hr.mono (by decide)) (by rfl) gdr kdr bdr .nil pass0 (pa_cons (pv 0) (pa_cons pe_int pa_nil))) pe_int (nomark _)) pe_int (pe_op op_add pe_int (pe_call Gdr (hr.mono (by decide)) (by rfl) gdr kdr bdr .nil pass0 (pa_cons (pv 0) (pa_cons (pe_op op_sub (pv 4) pe_int) pa_nil))))) pa_nil)))))
      (pss_one (ps_if (pt_cmpR (show OpR _ _ (rNotInD K) from op_notInD hu) (pv 13) (pv 8) (by with_unfolding_all rfl)) (pss_one (ps_expr (pe_bm PySem.F.plainAttrs_list PySem.F.slot_list_append PySem.F.type_list_append mt_append (pv 8) (pa_cons (pv 13) pa_nil)))) pss_nil))))
      (pss_one (ps_ret (pe_tup (pa_cons (pe_callTy (show CallR _ _ (rTupO K) from call_tuple_of) (by rfl) nb.tup (by decide +kernel) (pa_cons (pv 6) pa_nil)) (pa_cons (pe_callTy (show CallR _ _ (rTupO K) from call_tuple_of) (by rfl) nb.tup (by decide +kernel) (pa_cons (pv 7) pa_nil)) (pa_cons (pe_callTy (show CallR _ _ (rTupO K) from call_tuple_of) (by rfl) nb.tup (by decide +kernel) (pa_cons (pe_callB (show CallR _ _ (rSortV K 16 64) from cr_sortV (by decide)) (by rfl) nb.sorted (by decide +kernel) (pa_cons (pv 8) pa_nil)) pa_nil)) pa_nil))))))))))), (xss_cons (xs_parN (xa_cons (xe_op xo_add (xe_var 1) (xe_call mo_dr (xa_cons (xe_var 0) (xa_cons (xe_op xo_add (xe_op xo_sub (xe_var 2) (xe_var 1)) xe_int) xa_nil)))) (xa_cons (xe_op xo_add xe_int (xe_call mo_dr (xa_cons (xe_var 0) (xa_cons xe_int xa_nil)))) (xa_cons (xe_lst xa_nil) (xa_cons (xe_lst xa_nil) (xa_cons (xe_lst xa_nil) xa_nil))))) (xgs_cons (xg_name 4) (xgs_cons (xg_name 5) (xgs_cons (xg_name 6) (xgs_cons (xg_name 7) (xgs_cons (xg_name 8) xgs_nil))))))
      (xss_cons (xs_for (xi_rng1 (xa_cons (xe_var 4) xa_nil)) (xg_name 9)
      (xss_one (xs_expr (xe_bm xm_append (xe_var 6) (xa_cons (xe_call mo_lb (xa_cons (xe_var 0) (xa_cons (xe_var 6) xa_nil))) xa_nil)))))
      (xss_cons (xs_for (xi_rng1 (xa_cons (xe_var 4) xa_nil)) (xg_name 10)
      (xss_one (xs_for (xi_rng2 (xa_cons (xe_op xo_add (xe_var 10) xe_int) (xa_cons (xe_var 4) xa_nil))) (xg_name 11)
      (xss_one (xs_if (xt_or (xt_test (xe_op xo_lt (xe_call mo_dr (xa_cons (xe_var 0) (xa_cons xe_int xa_nil))) (xe_var 5))) (xt_and (xt_test (xe_op xo_eqI (xe_var 11) (xe_op xo_add (xe_var 10) xe_int))) (xt_test (xe_op xo_eqI (xe_call mo_dr (xa_cons (xe_var 0) (xa_cons xe_int xa_nil))) xe_int)))) (xss_one (xs_expr (xe_bm xm_append (xe_var 7) (xa_cons (xe_tup (xa_cons (xe_var 10) (xa_cons (xe_var 11) xa_nil))) xa_nil)))) xss_nil)))))
      (xss_cons (xs_asg (xe_call mo_dr (xa_cons (xe_var 0) (xa_cons (xe_op xo_add (xe_var 3) xe_int) xa_nil))) (xg_name 12))
      (xss_cons (xs_for (xi_rng1 (xa_cons (xe_if (xt_test (xe_op xo_gt (xe_var 4) xe_int)) (xe_op xo_add (xe_var 12) (xe_if (xt_test (xe_op xo_lt (xe_var 12) xe_int)) (xe_call mo_dr (xa_cons (xe_var 0) (xa_cons xe_int xa_nil))) xe_int)) xe_int) xa_nil)) (xg_name 9)
      (xss_cons (xs_asg (xe_gc (xe_call mo_fe (xa_cons (xe_var 0) (xa_cons (xe_lstRg (xrg_1 (xe_var 4))) (xa_cons (xe_if (xt_test (xe_op xo_gt (xe_call mo_dr (xa_cons (xe_var 0) (xa_cons xe_int xa_nil))) xe_int)) xe_int (xe_op xo_add xe_int (xe_call mo_dr (xa_cons (xe_var 0) (xa_cons (xe_op xo_sub (xe_var 4) xe_int) xa_nil))))) xa_nil))))) (xg_name 13))
      (xss_one (xs_if (xt_test (xe_op xo_notInD (xe_var 13) (xe_var 8))) (xss_one (xs_expr (xe_bm xm_append (xe_var 8) (xa_cons (xe_var 13) xa_nil)))) xss_nil))))
      (xss_one (xs_ret (xe_tup (xa_cons (xe_cb xc_tup (xa_cons (xe_var 6) xa_nil)) (xa_cons (xe_cb xc_tup (xa_cons (xe_var 7) xa_nil)) (xa_cons (xe_gc (xe_cb xc_tup (xa_cons (xe_cb xc_sortR (xa_cons (xe_var 8) xa_nil)) xa_nil))) xa_nil)))))))))))⟩
theorem ok_up (nb : Nb mg) (d : Dn K mg "_law_up" st_up ["net", "crew", "some"]) : Fd P w K mg base ts "_law_up" st_up ["net", "crew", "some"] 1 F_up := by
  obtain ⟨f, fd, Fn, g, b⟩ := d
  refine ⟨f, fd, fl_def (k := 0) Fn sc_up do_up (fun cdv A outer s H E hr => ?_), g, Fn.kp, b, Fn⟩
  have hu : (A.deeper (envOfC (Str.ofString "_law_up") (defScope st_up) s.heap.objs.size f cdv)).units + 65 < cLine := by
    have := hr.un
    omega
  exact ⟨_, (pss_cons (ps_set (i := 3) sc_up.nd rfl (.inr rfl) (pe_lc (own := [("at", 4)]) (g := gName 4) rfl sc_up.nd (pi_sq (pv 1)) (blkOk_by (N := ["net", "crew", "some", "found", "at", "one", "two"]) (sc := defScope st_up) (by decide +kernel)) (fun _ _ _ _ _ => (pg_name (i := 4) sc_up.nd rfl (.inl rfl))) (fun _ _ _ _ _ => pts_one (pt_cmpR (show OpR _ _ (rIn K false) from op_in_seq) (pv 4) (pv 2) (by with_unfolding_all rfl))) (fun _ _ _ _ _ => (pv 4))))
      (pss_cons (ps_for PassesOwn.never rfl (pi_revA (by rfl) nb.rev (pv 1)) (pg_name (i := 4) sc_up.nd rfl (.inr rfl))
      (pss_one (ps_if (PW.pt (pw_and (pt_cmpR (show OpR _ _ (rIn K true) from op_notIn_seq) (pv 4) (pv 3) (by with_unfolding_all rfl)) (pw_and1 (pt_cmpR (show OpR _ _ (rNeD K) from op_neD (Nat.lt_of_succ_lt hu)) (pe_lc (own := [("one", 5), ("two", 6)]) (g := gTup K 2 (gCons (gName 5) (gCons (gName 6) gNil))) rfl sc_up.nd (pi_tup (pe_ix (show IxR _ (rIxT K) from ix_tup) (pv 0) pe_int (fun _ _ => rfl))) (blkOk_by (N := ["net", "crew", "some", "found", "at", "one", "two"]) (sc := defScope st_up) (by decide +kernel)) (fun _ _ _ _ _ => (pg_tup rfl (pgs_cons (pg_name (i := 5) sc_up.nd rfl (.inl rfl)) (pgs_cons (pg_name (i := 6) sc_up.nd rfl (.inl rfl)) pgs_nil)))) (fun _ _ _ _ _ => pts_one (PW.pt (pw_and (pt_cmpR op_eq (pv 5) (pv 4) (nomark _)) (pw_and1 (pt_cmpR (show OpR _ _ (rIn K false) from op_in_seq) (pv 6) (pv 3) (by with_unfolding_all rfl)))))) (fun _ _ _ _ _ => (pv 6))) (pe_lst pa_nil) (nomark _))))) (pss_one (ps_expr (pe_bm PySem.F.plainAttrs_list PySem.F.slot_list_append PySem.F.type_list_append mt_append (pv 3) (pa_cons (pv 4) pa_nil)))) pss_nil)))
      (pss_one (ps_ret (pe_callTy (show CallR _ _ (rTupO K) from call_tuple_of) (by rfl) nb.tup (by decide +kernel) (pa_cons (pe_callB (show CallR _ _ (rSorted K) from cr_sorted) (by rfl) nb.sorted (by decide +kernel) (pa_cons (pv 3) pa_nil)) pa_nil)))))), (xss_cons (xs_asg (xe_lc (xi_sq (xe_var 1)) (xg_name 4) (wp_name (by decide)) (xt_test (xe_op xo_inI (xe_var 4) (xe_var 2))) (xe_var 4)) (xg_name 3))
      (xss_cons (xs_for (xi_revS (xe_var 1)) (xg_name 4)
      (xss_one (xs_if (xt_and (xt_test (xe_op xo_inI (xe_var 4) (xe_var 3))) (xt_gc (xt_test (xe_op xo_neD (xe_lc (xi_tup (xe_op xo_ixT (xe_var 0) xe_int)) (xg_tup (xgs_cons (xg_name 5) (xgs_cons (xg_name 6) xgs_nil))) (wp_two (by decide) (by decide)) (xt_and (xt_test (xe_op xo_eqI (xe_var 5) (xe_var 4))) (xt_test (xe_op xo_inI (xe_var 6) (xe_var 3)))) (xe_var 6)) (xe_lst xa_nil))))) (xss_one (xs_expr (xe_bm xm_append (xe_var 3) (xa_cons (xe_var 4) xa_nil)))) xss_nil)))
      (xss_one (xs_ret (xe_cb xc_tup (xa_cons (xe_cb xc_sort (xa_cons (xe_var 3) xa_nil)) xa_nil))))))⟩
theorem ok_lu (nb : Nb mg) (d : Dn K mg "_law_lumps" st_lu ["net", "crew"]) : Fd P w K mg base ts "_law_lumps" st_lu ["net", "crew"] 1 F_lu := by
  obtain ⟨f, fd, Fn, g, b⟩ := d
  refine ⟨f, fd, fl_def (k := 0) Fn sc_lu do_lu (fun cdv A outer s H E hr => ?_), g, Fn.kp, b, Fn⟩
  have hu : (A.deeper (envOfC (Str.ofString "_law_lumps") (defScope st_lu) s.heap.objs.size f cdv)).units + 65 < cLine := by
    have := hr.un
    omega
  exact ⟨_, (pss_cons (ps_set (i := 2) sc_lu.nd rfl (.inr rfl) pe_dnewK)
      (pss_cons (ps_for PassesOwn.never rfl (pi_sq (pv 1)) (pg_name (i := 3) sc_lu.nd rfl (.inl rfl))
      (pss_one (ps_dput (hu1 hu) (pv 2) (pv 3) (pv 3) (by rfl))))
      (pss_cons (ps_for PassesOwn.never rfl (pi_tup (pe_ix (show IxR _ (rIxT K) from ix_tup) (pv 0) pe_int (fun _ _ => rfl))) (pg_name (i := 4) sc_lu.nd rfl (.inl rfl))
      (pss_cons (ps_setLc (own := [("at", 3)]) (g := gName 3) (i := 5) rfl sc_lu.nd rfl rfl (sw_true rfl rfl rfl (by decide +kernel)) (pi_tup (pv 4)) (blkOk_by (N := ["net", "crew", "marks", "at", "host", "inner", "first"]) (sc := defScope st_lu) (by decide +kernel)) (fun _ _ _ _ _ => (pg_name (i := 3) sc_lu.nd rfl (.inl rfl))) (fun _ _ _ _ _ => pts_one (pt_cmp (pc_din (hu1 hu) (pv 3) (pv 2)) (by with_unfolding_all rfl))) (fun _ _ _ _ _ => (pe_dget (hu1 hu) (pv 2) (pv 3) (fun _ _ => rfl))))
      (pss_one (ps_for PassesOwn.never rfl (pi_sq (pv 1)) (pg_name (i := 3) sc_lu.nd rfl (.inl rfl))
      (pss_one (ps_if (pt_cmpR (show OpR _ _ (rIn K false) from op_in_seq) (pe_dget (hu1 hu) (pv 2) (pv 3) (fun _ _ => rfl)) (pv 5) (by with_unfolding_all rfl)) (pss_one (ps_dput (hu1 hu) (pv 2) (pv 3) (pe_callB (show CallR _ _ (rMin K) from cr_min rfl) (by rfl) nb.min (by decide +kernel) (pa_cons (pv 5) pa_nil)) (by rfl))) pss_nil))))))
      (pss_one (ps_ret (pe_callTy (show CallR _ _ (rTupO K) from call_tuple_of) (by rfl) nb.tup (by decide +kernel) (pa_cons (pe_lc (own := [("first", 6)]) (g := gName 6) rfl sc_lu.nd (pi_sq (pv 1)) (blkOk_by (N := ["net", "crew", "marks", "at", "host", "inner", "first"]) (sc := defScope st_lu) (by decide +kernel)) (fun _ _ _ _ _ => (pg_name (i := 6) sc_lu.nd rfl (.inr rfl))) (fun _ _ _ _ _ => pts_one (pt_cmpR op_eq (pe_dget (hu1 hu) (pv 2) (pv 6) (fun _ _ => rfl)) (pv 6) (nomark _))) (fun _ _ _ _ _ => (pe_callTy (show CallR _ _ (rTupO K) from call_tuple_of) (by rfl) nb.tup (by decide +kernel) (pa_cons (pe_lc (own := [("at", 3)]) (g := gName 3) rfl sc_lu.nd (pi_sq (pv 1)) (blkOk_by (N := ["net", "crew", "marks", "at", "host", "inner", "first"]) (sc := { kind := .function, names := [(".0", .local), ("first", .cell), ("tuple", .globalImplicit), ("crew", .cell), ("marks", .cell)], isGenerator := false, isCoroutine := false }) (by decide +kernel)) (fun _ _ _ _ _ => (pg_name (i := 3) sc_lu.nd rfl (.inl rfl))) (fun _ _ _ _ _ => pts_one (pt_cmpR op_eq (pe_dget (hu1 hu) (pv 2) (pv 3) (fun _ _ => rfl)) (pv 6) (nomark _))) (fun _ _ _ _ _ => (pv 3))) pa_nil)))) pa_nil))))))), (xss_cons (xs_asg xe_dnew (xg_name 2))
      (xss_cons (xs_for (xi_sq (xe_var 1)) (xg_name 3)
      (xss_one (xs_dput (xe_var 2) (xe_var 3) (xe_var 3))))
      (xss_cons (xs_for (xi_tup (xe_op xo_ixT (xe_var 0) xe_int)) (xg_name 4)
      (xss_cons (xs_asg (xe_lc (xi_tup (xe_var 4)) (xg_name 3) (wp_name (by decide)) (xt_test (xe_din (xe_var 3) (xe_var 2))) (xe_dget (xe_var 2) (xe_var 3))) (xg_name 5))
      (xss_one (xs_for (xi_sq (xe_var 1)) (xg_name 3)
      (xss_one (xs_if (xt_test (xe_op xo_inI (xe_dget (xe_var 2) (xe_var 3)) (xe_var 5))) (xss_one (xs_dput (xe_var 2) (xe_var 3) (xe_cb xc_minL (xa_cons (xe_var 5) xa_nil)))) xss_nil))))))
      (xss_one (xs_ret (xe_cb xc_tup (xa_cons (xe_lc (xi_sq (xe_var 1)) (xg_name 6) (wp_name (by decide)) (xt_test (xe_op xo_eqI (xe_dget (xe_var 2) (xe_var 6)) (xe_var 6))) (xe_gc (xe_cb xc_tup (xa_cons (xe_lc (xi_sq (xe_var 1)) (xg_name 3) (wp_name (by decide)) (xt_test (xe_op xo_eqI (xe_dget (xe_var 2) (xe_var 3)) (xe_var 6))) (xe_var 3)) xa_nil)))) xa_nil)))))))⟩
theorem ok_he (nb : Nb mg) (hlu : Fd P w K mg base ts "_law_lumps" st_lu ["net", "crew"] 1 F_lu) (hup : Fd P w K mg base ts "_law_up" st_up ["net", "crew", "some"] 1 F_up) (d : Dn K mg "_law_hedges" st_he ["net", "small", "crew"]) : Fd P w K mg base ts "_law_hedges" st_he ["net", "small", "crew"] 2 F_he := by
  obtain ⟨flu, fdlu, Glu, glu, klu, blu, ulu⟩ := hlu
  obtain ⟨fup, fdup, Gup, gup, kup, bup, uup⟩ := hup
  obtain ⟨f, fd, Fn, g, b⟩ := d
  refine ⟨f, fd, fl_def (k := 1) Fn sc_he do_he (fun cdv A outer s H E hr => ?_), g, Fn.kp, b, Fn⟩
  have hu : (A.deeper (envOfC (Str.ofString "_law_hedges") (defScope st_he) s.heap.objs.size f cdv)).units + 65 < cLine := by
    have := hr.un
    omega
  exact ⟨_, (pss_cons (ps_set (i := 3) sc_he.nd rfl (.inl rfl) (pe_lst (pa_cons (pe_lst pa_nil) pa_nil)))
      (pss_cons (ps_for PassesOwn.never rfl (pi_tup (pv 2)) (pg_name (i := 4) sc_he.nd rfl (.inr rfl))
      (pss_one (ps_set (i := 3) sc_he.nd rfl (.inl rfl) (pe_op op_cat (pe_lc (own := [("row", 5)]) (g := gName 5) (tt := tYes) rfl sc_he.nd (pi_list (pv 3)) (blkOk_by (N := ["net", "small", "crew", "lots", "at", "row", "found"]) (sc := defScope st_he) (by decide +kernel)) (fun _ _ _ _ _ => (pg_name (i := 5) sc_he.nd rfl (.inl rfl))) (fun _ _ _ _ _ => pts_nil) (fun _ _ _ _ _ => (pe_op op_cat (pv 5) (pe_lst (pa_cons (pv 4) pa_nil))))) (pe_lc (own := [("row", 5)]) (g := gName 5) rfl sc_he.nd (pi_list (pv 3)) (blkOk_by (N := ["net", "small", "crew", "lots", "at", "row", "found"]) (sc := defScope st_he) (by decide +kernel)) (fun _ _ _ _ _ => (pg_name (i := 5) sc_he.nd rfl (.inl rfl))) (fun _ _ _ _ _ => pts_one (pt_cmpR (show OpR _ _ (rIn K true) from op_notIn_seq) (pv 4) (pv 1) (by with_unfolding_all rfl))) (fun _ _ _ _ _ => (pv 5)))))))
      (pss_cons (ps_set (i := 6) sc_he.nd rfl (.inl rfl) (pe_lst pa_nil))
      (pss_cons (ps_for PassesOwn.never rfl (pi_list (pv 3)) (pg_name (i := 5) sc_he.nd rfl (.inl rfl))
      (pss_one (ps_if (PW.pt (pw_and (pt_cmpR op_gt (pe_callB (show CallR _ _ (rLen K) from call_len_seq) (by rfl) nb.len (by decide +kernel) (pa_cons (pv 5) pa_nil)) (pe_callB (show CallR _ _ (rLen K) from call_len_seq) (by rfl) nb.len (by decide +kernel) (pa_cons (pv 1) pa_nil)) (nomark _)) (pw_and (pt_cmpR op_eq (pe_callB (show CallR _ _ (rLen K) from call_len_seq) (by rfl) nb.len (by decide +kernel) (pa_cons (pe_call Glu (hr.mono (by decide)) (by rfl) glu klu blu .nil pass0 (pa_cons (pv 0) (pa_cons (pv 5) pa_nil))) pa_nil)) pe_int (nomark _)) (pw_and1 (pt_cmpR op_eq (pe_callB (show CallR _ _ (rLen K) from call_len_seq) (by rfl) nb.len (by decide +kernel) (pa_cons (pe_call Gup (hr.mono (by decide)) (by rfl) gup kup bup .nil pass0 (pa_cons (pv 0) (pa_cons (pv 5) (pa_cons (pv 1) pa_nil)))) pa_nil)) (pe_callB (show CallR _ _ (rLen K) from call_len_seq) (by rfl) nb.len (by decide +kernel) (pa_cons (pv 5) pa_nil)) (nomark _)))))) (pss_one (ps_expr (pe_bm PySem.F.plainAttrs_list PySem.F.slot_list_append PySem.F.type_list_append mt_append (pv 6) (pa_cons (pe_callTy (show CallR _ _ (rTupO K) from call_tuple_of) (by rfl) nb.tup (by decide +kernel) (pa_cons (pv 5) pa_nil)) pa_nil)))) pss_nil)))
      (pss_one (ps_ret (pe_callB (show CallR _ _ (rSortW K 8 8) from cr_sortW (by decide)) (by rfl) nb.sorted (by decide +kernel) (pa_cons (pv 6) pa_nil)))))))), (xss_cons (xs_asg (xe_lst (xa_cons (xe_lst xa_nil) xa_nil)) (xg_name 3))
      (xss_cons (xs_for (xi_tup (xe_var 2)) (xg_name 4)
      (xss_one (xs_asg (xe_op xo_catL (xe_lc (xi_list (xe_var 3)) (xg_name 5) (wp_name (by decide)) xt_yes (xe_op xo_catL (xe_var 5) (xe_lst (xa_cons (xe_var 4) xa_nil)))) (xe_lc (xi_list (xe_var 3)) (xg_name 5) (wp_name (by decide)) (xt_test (xe_op xo_inI (xe_var 4) (xe_var 1))) (xe_var 5))) (xg_name 3))))
      (xss_cons (xs_asg (xe_lst xa_nil) (xg_name 6))
      (xss_cons (xs_for (xi_list (xe_var 3)) (xg_name 5)
      (xss_one (xs_if (xt_and (xt_test (xe_op xo_gt (xe_cb xc_len (xa_cons (xe_var 5) xa_nil)) (xe_cb xc_len (xa_cons (xe_var 1) xa_nil)))) (xt_and (xt_test (xe_op xo_eqI (xe_cb xc_len (xa_cons (xe_call mo_lu (xa_cons (xe_var 0) (xa_cons (xe_var 5) xa_nil))) xa_nil)) xe_int)) (xt_test (xe_op xo_eqI (xe_cb xc_len (xa_cons (xe_call mo_up (xa_cons (xe_var 0) (xa_cons (xe_var 5) (xa_cons (xe_var 1) xa_nil)))) xa_nil)) (xe_cb xc_len (xa_cons (xe_var 5) xa_nil)))))) (xss_one (xs_expr (xe_bm xm_append (xe_var 6) (xa_cons (xe_cb xc_tup (xa_cons (xe_var 5) xa_nil)) xa_nil)))) xss_nil)))
      (xss_one (xs_ret (xe_cb xc_sortW (xa_cons (xe_var 6) xa_nil))))))))⟩
theorem ok_ge (nb : Nb mg) (d : Dn K mg "_law_greatest" st_ge ["found"]) : Fd P w K mg base ts "_law_greatest" st_ge ["found"] 1 F_ge := by
  obtain ⟨f, fd, Fn, g, b⟩ := d
  refine ⟨f, fd, fl_def (k := 0) Fn sc_ge do_ge (fun cdv A outer s H E hr => ?_), g, Fn.kp, b, Fn⟩
  have hu : (A.deeper (envOfC (Str.ofString "_law_greatest") (defScope st_ge) s.heap.objs.size f cdv)).units + 65 < cLine := by
    have := hr.un
    omega
  exact ⟨_, (pss_cons (ps_set (i := 1) sc_ge.nd rfl (.inl rfl) pe_non)
      (pss_cons (ps_for PassesOwn.never rfl (pi_list (pv 0)) (pg_name (i := 2) sc_ge.nd rfl (.inl rfl))
      (pss_one (ps_if (PW.pt (pw_or (pt_cmpR op_isN (pv 1) pe_non (nomark _)) (pw_or1 (pt_cmpR op_gt (pe_callB (show CallR _ _ (rLen K) from call_len_seq) (by rfl) nb.len (by decide +kernel) (pa_cons (pv 2) pa_nil)) (pe_callB (show CallR _ _ (rLen K) from call_len_seq) (by rfl) nb.len (by decide +kernel) (pa_cons (pv 1) pa_nil)) (nomark _))))) (pss_one (ps_set (i := 1) sc_ge.nd rfl (.inl rfl) (pv 2))) pss_nil)))
      (pss_one (ps_ret (pv 1))))), (xss_cons (xs_asg xe_non (xg_name 1))
      (xss_cons (xs_for (xi_list (xe_var 0)) (xg_name 2)
      (xss_one (xs_if (xt_or (xt_test (xe_op xo_isN (xe_var 1) xe_non)) (xt_test (xe_op xo_gt (xe_cb xc_len (xa_cons (xe_var 2) xa_nil)) (xe_cb xc_len (xa_cons (xe_var 1) xa_nil))))) (xss_one (xs_asg (xe_var 2) (xg_name 1))) xss_nil)))
      (xss_one (xs_ret (xe_var 1)))))⟩
theorem ok_ha (nb : Nb mg) (d : Dn K mg "_law_has" st_ha ["crew", "part"]) : Fd P w K mg base ts "_law_has" st_ha ["crew", "part"] 1 F_ha := by
  obtain ⟨f, fd, Fn, g, b⟩ := d
  refine ⟨f, fd, fl_def (k := 0) Fn sc_ha do_ha (fun cdv A outer s H E hr => ?_), g, Fn.kp, b, Fn⟩
  have hu : (A.deeper (envOfC (Str.ofString "_law_has") (defScope st_ha) s.heap.objs.size f cdv)).units + 65 < cLine := by
    have := hr.un
    omega
  exact ⟨_, (pss_one (ps_ret (pe_cmpR (show OpR _ _ (rEqD K) from op_eqD (Nat.lt_of_succ_lt hu)) (pe_lc (own := [("at", 2)]) (g := gName 2) rfl sc_ha.nd (pi_tup (pv 1)) (blkOk_by (N := ["crew", "part", "at"]) (sc := defScope st_ha) (by decide +kernel)) (fun _ _ _ _ _ => (pg_name (i := 2) sc_ha.nd rfl (.inl rfl))) (fun _ _ _ _ _ => pts_one (pt_cmpR (show OpR _ _ (rIn K true) from op_notIn_seq) (pv 2) (pv 0) (by with_unfolding_all rfl))) (fun _ _ _ _ _ => (pv 2))) (pe_lst pa_nil) (nomark _)))), (xss_one (xs_ret (xe_op xo_eqD (xe_lc (xi_tup (xe_var 1)) (xg_name 2) (wp_name (by decide)) (xt_test (xe_op xo_inI (xe_var 2) (xe_var 0))) (xe_var 2)) (xe_lst xa_nil))))⟩
theorem ok_lo2 (nb : Nb mg) (hlu : Fd P w K mg base ts "_law_lumps" st_lu ["net", "crew"] 1 F_lu) (hup : Fd P w K mg base ts "_law_up" st_up ["net", "crew", "some"] 1 F_up) (d : Dn K mg "_law_lots" st_lo2 ["net", "crew", "small"]) : Fd P w K mg base ts "_law_lots" st_lo2 ["net", "crew", "small"] 2 F_lo2 := by
  obtain ⟨flu, fdlu, Glu, glu, klu, blu, ulu⟩ := hlu
  obtain ⟨fup, fdup, Gup, gup, kup, bup, uup⟩ := hup
  obtain ⟨f, fd, Fn, g, b⟩ := d
  refine ⟨f, fd, fl_def (k := 1) Fn sc_lo2 do_lo2 (fun cdv A outer s H E hr => ?_), g, Fn.kp, b, Fn⟩
  have hu : (A.deeper (envOfC (Str.ofString "_law_lots") (defScope st_lo2) s.heap.objs.size f cdv)).units + 65 < cLine := by
    have := hr.un
    omega
  exact ⟨_, (pss_cons (ps_set (i := 3) sc_lo2.nd rfl (.inl rfl) (pe_lst (pa_cons (pv 1) pa_nil)))
      (pss_cons (ps_for PassesOwn.never rfl (pi_range1 (by rfl) nb.rng (pa_cons (pe_op op_add (pe_callB (show CallR _ _ (rLen K) from call_len_seq) (by rfl) nb.len (by decide +kernel) (pa_cons (pv 1) pa_nil)) pe_int) pa_nil)) (pg_name (i := 4) sc_lo2.nd rfl (.inl rfl))
      (pss_cons (ps_set (i := 5) sc_lo2.nd rfl (.inl rfl) (pe_ix (show IxR _ (rIxL K) from ix_list) (pv 3) (pe_un un_neg pe_int) (fun _ _ => rfl)))
      (pss_cons (ps_set (i := 6) sc_lo2.nd rfl (.inl rfl) (pe_ix (show IxR _ (rIxL K) from ix_list) (pe_lc (own := [("each", 7)]) (g := gName 7) rfl sc_lo2.nd (pi_tup (pe_call Glu (hr.mono (by decide)) (by rfl) glu klu blu .nil pass0 (pa_cons (pv 0) (pa_cons (pv 5) pa_nil)))) (blkOk_by (N := ["net", "crew", "small", "found", "lap", "now", "lead", "each", "last"]) (sc := defScope st_lo2) (by decide +kernel)) (fun _ _ _ _ _ => (pg_name (i := 7) sc_lo2.nd rfl (.inl rfl))) (fun _ _ _ _ _ => pts_one (pt_cmpR (show OpR _ _ (rIn K false) from op_in_seq) (pe_ix (show IxR _ (rIxT K) from ix_tup) (pv 2) pe_int (fun _ _ => rfl)) (pv 7) (by with_unfolding_all rfl))) (fun _ _ _ _ _ => (pv 7))) pe_int (fun _ _ => rfl)))
      (pss_cons (ps_set (i := 8) sc_lo2.nd rfl (.inl rfl) (pe_call Gup (hr.mono (by decide)) (by rfl) gup kup bup .nil pass0 (pa_cons (pv 0) (pa_cons (pv 6) (pa_cons (pv 2) pa_nil)))))
      (pss_cons (ps_if (pt_cmpR (show OpR _ _ (rNeD K) from op_neD (Nat.lt_of_succ_lt hu)) (pv 6) (pv 5) (nomark _)) (pss_one (ps_expr (pe_bm PySem.F.plainAttrs_list PySem.F.slot_list_append PySem.F.type_list_append mt_append (pv 3) (pa_cons (pv 6) pa_nil)))) pss_nil)
      (pss_cons (ps_if (pt_cmpR (show OpR _ _ (rNeD K) from op_neD (Nat.lt_of_succ_lt hu)) (pv 8) (pv 6) (nomark _)) (pss_one (ps_expr (pe_bm PySem.F.plainAttrs_list PySem.F.slot_list_append PySem.F.type_list_append mt_append (pv 3) (pa_cons (pv 8) pa_nil)))) pss_nil)
      (pss_one (ps_if (pt_cmpR (show OpR _ _ (rEqD K) from op_eqD (Nat.lt_of_succ_lt hu)) (pv 8) (pv 5) (nomark _)) (pss_one ps_break) pss_nil))))))))
      (pss_one (ps_ret (pe_callTy (show CallR _ _ (rTupO K) from call_tuple_of) (by rfl) nb.tup (by decide +kernel) (pa_cons (pv 3) pa_nil)))))), (xss_cons (xs_asg (xe_lst (xa_cons (xe_var 1) xa_nil)) (xg_name 3))
      (xss_cons (xs_for (xi_rng1 (xa_cons (xe_op xo_add (xe_cb xc_len (xa_cons (xe_var 1) xa_nil)) xe_int) xa_nil)) (xg_name 4)
      (xss_cons (xs_asg (xe_op xo_ixL (xe_var 3) (xe_neg xe_int)) (xg_name 5))
      (xss_cons (xs_asg (xe_gc (xe_op xo_ixL (xe_lc (xi_tup (xe_call mo_lu (xa_cons (xe_var 0) (xa_cons (xe_var 5) xa_nil)))) (xg_name 7) (wp_name (by decide)) (xt_test (xe_op xo_inI (xe_op xo_ixT (xe_var 2) xe_int) (xe_var 7))) (xe_var 7)) xe_int)) (xg_name 6))
      (xss_cons (xs_asg (xe_call mo_up (xa_cons (xe_var 0) (xa_cons (xe_var 6) (xa_cons (xe_var 2) xa_nil)))) (xg_name 8))
      (xss_cons (xs_if (xt_test (xe_op xo_neD (xe_var 6) (xe_var 5))) (xss_one (xs_expr (xe_bm xm_append (xe_var 3) (xa_cons (xe_var 6) xa_nil)))) xss_nil)
      (xss_cons (xs_if (xt_test (xe_op xo_neD (xe_var 8) (xe_var 6))) (xss_one (xs_expr (xe_bm xm_append (xe_var 3) (xa_cons (xe_var 8) xa_nil)))) xss_nil)
      (xss_one (xs_if (xt_test (xe_op xo_eqD (xe_var 8) (xe_var 5))) (xss_one xs_break) xss_nil))))))))
      (xss_one (xs_ret (xe_cb xc_tup (xa_cons (xe_var 3) xa_nil))))))⟩
theorem ok_be (nb : Nb mg) (hso : Fd P w K mg base ts "_law_some" st_so ["spring", "crew"] 2 F_so) (d : Dn K mg "_law_between" st_be ["spring", "crew", "part"]) : Fd P w K mg base ts "_law_between" st_be ["spring", "crew", "part"] 3 F_be := by
  obtain ⟨fso, fdso, Gso, gso, kso, bso, uso⟩ := hso
  obtain ⟨f, fd, Fn, g, b⟩ := d
  refine ⟨f, fd, fl_def (k := 2) Fn sc_be do_be (fun cdv A outer s H E hr => ?_), g, Fn.kp, b, Fn⟩
  have hu : (A.deeper (envOfC (Str.ofString "_law_between") (defScope st_be) s.heap.objs.size f cdv)).units + 65 < cLine := by
    have := hr.un
    omega
  exact ⟨_, (pss_cons (ps_set (i := 3) sc_be.nd rfl (.inr rfl) (pe_op (show OpR _ _ (rCatA K) from op_catA) (pv 2) (pe_call Gso (hr.mono (by decide)) (by rfl) gso kso bso .nil pass0 (pa_cons (pv 0) (pa_cons (pv 1) pa_nil)))))
      (pss_one (ps_ret (pe_callTy (show CallR _ _ (rTupO K) from call_tuple_of) (by rfl) nb.tup (by decide +kernel) (pa_cons (pe_lc (own := [("at", 4)]) (g := gName 4) rfl sc_be.nd (pi_tup (pv 1)) (blkOk_by (N := ["spring", "crew", "part", "more", "at"]) (sc := defScope st_be) (by decide +kernel)) (fun _ _ _ _ _ => (pg_name (i := 4) sc_be.nd rfl (.inl rfl))) (fun _ _ _ _ _ => pts_one (pt_cmpR (show OpR _ _ (rIn K false) from op_in_seq) (pv 4) (pv 3) (by with_unfolding_all rfl))) (fun _ _ _ _ _ => (pv 4))) pa_nil))))), (xss_cons (xs_asg (xe_op xo_catT (xe_var 2) (xe_call mo_so (xa_cons (xe_var 0) (xa_cons (xe_var 1) xa_nil)))) (xg_name 3))
      (xss_one (xs_ret (xe_cb xc_tup (xa_cons (xe_lc (xi_tup (xe_var 1)) (xg_name 4) (wp_name (by decide)) (xt_test (xe_op xo_inI (xe_var 4) (xe_var 3))) (xe_var 4)) xa_nil)))))⟩
theorem ok_il (nb : Nb mg) (hhe : Fd P w K mg base ts "_law_hedges" st_he ["net", "small", "crew"] 2 F_he) (hge : Fd P w K mg base ts "_law_greatest" st_ge ["found"] 1 F_ge) (hrr : Fd P w K mg base ts "rounds" st_rr ["graph", "lot", "ends"] 11 F_rr) (his2 : FdG P w K mg base ts "_law_is" st_is2 ["gave", "due"] 1 F_is2) (hlo2 : Fd P w K mg base ts "_law_lots" st_lo2 ["net", "crew", "small"] 2 F_lo2) (hgh : Fd P w K mg base ts "greatest_hedge" st_gh ["graph", "lot", "ends"] 12 F_gh) (hha : Fd P w K mg base ts "_law_has" st_ha ["crew", "part"] 1 F_ha) (hbe : Fd P w K mg base ts "_law_between" st_be ["spring", "crew", "part"] 3 F_be) (d : Dn K mg "_law_is_led" st_il ["spring", "net", "crew", "small"]) : FdG P w K mg base ts "_law_is_led" st_il ["spring", "net", "crew", "small"] 13 F_il := by
  obtain ⟨fhe, fdhe, Ghe, ghe, khe, bhe, uhe⟩ := hhe
  obtain ⟨fge, fdge, Gge, gge, kge, bge, uge⟩ := hge
  obtain ⟨frr, fdrr, Grr, grr, krr, brr, urr⟩ := hrr
  obtain ⟨fis2, fdis2, Gis2, gis2, kis2, bis2, uis2⟩ := his2
  obtain ⟨flo2, fdlo2, Glo2, glo2, klo2, blo2, ulo2⟩ := hlo2
  obtain ⟨fgh, fdgh, Ggh, ggh, kgh, bgh, ugh⟩ := hgh
  obtain ⟨fha, fdha, Gha, gha, kha, bha, uha⟩ := hha
  obtain ⟨fbe, fdbe, Gbe, gbe, kbe, bbe, ube⟩ := hbe
  obtain ⟨f, fd, Fn, g, b⟩ := d
  refine ⟨f, fd, fl_defG (k := 12) Fn sc_il do_il (fun cdv A outer s H E hgd hr => ?_), g, Fn.kp, b, Fn⟩
  have hu : (A.deeper (envOfC (Str.ofString "_law_is_led") (defScope st_il) s.heap.objs.size f cdv)).units + 65 < cLine := by
    have := hr.un
    omega
  exact ⟨_, (pss_cons (ps_set (i := 4) sc_il.nd rfl (.inl rfl) (pe_call Ghe (hr.mono (by decide)) (by rfl) ghe khe bhe .nil pass0 (pa_cons (pv 1) (pa_cons (pv 3) (pa_cons (pv 2) pa_nil)))))
      (pss_cons (ps_set (i := 5) sc_il.nd rfl (.inl rfl) (pe_call Gge (hr.mono (by decide)) (by rfl) gge kge bge .nil pass0 (pa_cons (pv 4) pa_nil)))
      (pss_cons (ps_set (i := 6) sc_il.nd rfl (.inl rfl) (pe_ifExp (pt_cmpR op_isN (pv 5) pe_non (nomark _)) (pv 3) (pv 5)))
      (pss_cons (ps_set (i := 7) sc_il.nd rfl (.inr rfl) (pe_call Grr (hr.mono (by decide)) (by rfl) grr krr brr .nil pass0 (pa_cons (pv 1) (pa_cons (pv 2) (pa_cons (pv 3) pa_nil)))))
      (pss_cons (ps_if (PW.pt (pw_or (pt_not (pt_val (pe_callG Gis2 hgd (hr.mono (by decide)) (by rfl) gis2 kis2 bis2 (pa_cons (pv 7) (pa_cons (pe_call Glo2 (hr.mono (by decide)) (by rfl) glo2 klo2 blo2 .nil pass0 (pa_cons (pv 1) (pa_cons (pv 2) (pa_cons (pv 3) pa_nil)))) pa_nil))))) (pw_or1 (pt_not (pt_val (pe_callG Gis2 hgd (hr.mono (by decide)) (by rfl) gis2 kis2 bis2 (pa_cons (pe_ix (show IxR _ (rIxT K) from ix_tup) (pv 7) (pe_un un_neg pe_int) (fun _ _ => rfl)) (pa_cons (pv 6) pa_nil)))))))) (pss_one (ps_ret pe_bl)) pss_nil)
      (pss_cons (ps_if (pt_not (pt_val (pe_callG Gis2 hgd (hr.mono (by decide)) (by rfl) gis2 kis2 bis2 (pa_cons (pe_call Ggh (hr.mono (by decide)) (by rfl) ggh kgh bgh .nil pass0 (pa_cons (pv 1) (pa_cons (pv 2) (pa_cons (pv 3) pa_nil)))) (pa_cons (pv 5) pa_nil))))) (pss_one (ps_ret pe_bl)) pss_nil)
      (pss_cons (ps_if (pt_cmpR (show OpR _ _ (rNeD K) from op_neD (Nat.lt_of_succ_lt hu)) (pe_lc (own := [("each", 8)]) (g := gName 8) rfl sc_il.nd (pi_list (pv 4)) (blkOk_by (N := ["spring", "net", "crew", "small", "found", "last", "due", "gave", "each", "more"]) (sc := defScope st_il) (by decide +kernel)) (fun _ _ _ _ _ => (pg_name (i := 8) sc_il.nd rfl (.inl rfl))) (fun _ _ _ _ _ => pts_one (pt_not (pt_val (pe_call Gha (hr.mono (by decide)) (by rfl) gha kha bha .nil pass0 (pa_cons (pe_ix (show IxR _ (rIxT K) from ix_tup) (pv 7) (pe_un un_neg pe_int) (fun _ _ => rfl)) (pa_cons (pv 8) pa_nil)))))) (fun _ _ _ _ _ => (pv 8))) (pe_lst pa_nil) (nomark _)) (pss_one (ps_ret pe_bl)) pss_nil)
      (pss_cons (ps_set (i := 9) sc_il.nd rfl (.inl rfl) (pe_call Gbe (hr.mono (by decide)) (by rfl) gbe kbe bbe .nil pass0 (pa_cons (pv 0) (pa_cons (pv 2) (pa_cons (pv 6) pa_nil)))))
      (pss_cons (ps_if (PW.pt (pw_or (pt_not (pt_val (pe_callG Gis2 hgd (hr.mono (by decide)) (by rfl) gis2 kis2 bis2 (pa_cons (pe_ix (show IxR _ (rIxT K) from ix_tup) (pe_callK0 Grr (hr.mono (by decide)) (by rfl) grr krr (kb_rr urr) pass0 (pk_cons (pv 3) (pk_cons (pv 9) (pk_cons (pv 1) pk_nil)))) (pe_un un_neg pe_int) (fun _ _ => rfl)) (pa_cons (pv 6) pa_nil))))) (pw_or1 (pt_not (pt_val (pe_callG Gis2 hgd (hr.mono (by decide)) (by rfl) gis2 kis2 bis2 (pa_cons (pe_call Grr (hr.mono (by decide)) (by rfl) grr krr brr .nil pass0 (pa_cons (pv 1) (pa_cons (pv 6) (pa_cons (pv 3) pa_nil)))) (pa_cons (pe_tup (pa_cons (pv 6) pa_nil)) pa_nil)))))))) (pss_one (ps_ret pe_bl)) pss_nil)
      (pss_one (ps_ret (pe_callG Gis2 hgd (hr.mono (by decide)) (by rfl) gis2 kis2 bis2 (pa_cons (pe_callK0 Ggh (hr.mono (by decide)) (by rfl) ggh kgh (kb_gh ugh) pass0 (pk_cons (pv 3) (pk_cons (pv 9) (pk_cons (pv 1) pk_nil)))) (pa_cons (pv 5) pa_nil)))))))))))))), (xss_cons (xs_asg (xe_call mo_he (xa_cons (xe_var 1) (xa_cons (xe_var 3) (xa_cons (xe_var 2) xa_nil)))) (xg_name 4))
      (xss_cons (xs_asg (xe_call mo_ge (xa_cons (xe_var 4) xa_nil)) (xg_name 5))
      (xss_cons (xs_asg (xe_if (xt_test (xe_op xo_isN (xe_var 5) xe_non)) (xe_var 3) (xe_var 5)) (xg_name 6))
      (xss_cons (xs_asg (xe_call mo_rr (xa_cons (xe_var 1) (xa_cons (xe_var 2) (xa_cons (xe_var 3) xa_nil)))) (xg_name 7))
      (xss_cons (xs_if (xt_or (xt_not (xt_b (xe_call mo_is2 (xa_cons (xe_var 7) (xa_cons (xe_call mo_lo2 (xa_cons (xe_var 1) (xa_cons (xe_var 2) (xa_cons (xe_var 3) xa_nil)))) xa_nil))))) (xt_not (xt_b (xe_call mo_is2 (xa_cons (xe_op xo_ixT (xe_var 7) (xe_neg xe_int)) (xa_cons (xe_var 6) xa_nil)))))) (xss_one (xs_ret xe_bl)) xss_nil)
      (xss_cons (xs_if (xt_not (xt_b (xe_call mo_is2 (xa_cons (xe_call mo_gh (xa_cons (xe_var 1) (xa_cons (xe_var 2) (xa_cons (xe_var 3) xa_nil)))) (xa_cons (xe_var 5) xa_nil))))) (xss_one (xs_ret xe_bl)) xss_nil)
      (xss_cons (xs_if (xt_gc (xt_test (xe_op xo_neD (xe_lc (xi_list (xe_var 4)) (xg_name 8) (wp_name (by decide)) (xt_not (xt_b (xe_call mo_ha (xa_cons (xe_op xo_ixT (xe_var 7) (xe_neg xe_int)) (xa_cons (xe_var 8) xa_nil))))) (xe_var 8)) (xe_lst xa_nil)))) (xss_one (xs_ret xe_bl)) xss_nil)
      (xss_cons (xs_asg (xe_call mo_be (xa_cons (xe_var 0) (xa_cons (xe_var 2) (xa_cons (xe_var 6) xa_nil)))) (xg_name 9))
      (xss_cons (xs_if (xt_or (xt_not (xt_b (xe_call mo_is2 (xa_cons (xe_op xo_ixT (xe_callK mo_rr rev_w (xa_cons (xe_var 3) (xa_cons (xe_var 9) (xa_cons (xe_var 1) xa_nil)))) (xe_neg xe_int)) (xa_cons (xe_var 6) xa_nil))))) (xt_not (xt_b (xe_call mo_is2 (xa_cons (xe_call mo_rr (xa_cons (xe_var 1) (xa_cons (xe_var 6) (xa_cons (xe_var 3) xa_nil)))) (xa_cons (xe_tup (xa_cons (xe_var 6) xa_nil)) xa_nil)))))) (xss_one (xs_ret xe_bl)) xss_nil)
      (xss_one (xs_ret (xe_call mo_is2 (xa_cons (xe_callK mo_gh rev_w (xa_cons (xe_var 3) (xa_cons (xe_var 9) (xa_cons (xe_var 1) xa_nil)))) (xa_cons (xe_var 5) xa_nil))))))))))))))⟩
theorem ok_r3 (nb : Nb mg) (hnt : Fd P w K mg base ts "_law_net" st_nt ["spring", "least", "most", "homes"] 3 F_nt) (hdr : Fd P w K mg base ts "_law_draw" st_dr ["spring", "top"] 1 F_dr) (hil : FdG P w K mg base ts "_law_is_led" st_il ["spring", "net", "crew", "small"] 13 F_il) (hfe : Fd P w K mg base ts "_law_few" st_fe ["spring", "crew", "many"] 2 F_fe) (hso : Fd P w K mg base ts "_law_some" st_so ["spring", "crew"] 2 F_so) (hpk : Fd P w K mg base ts "_law_pick" st_pk ["spring", "some"] 2 F_pk) (hlu : Fd P w K mg base ts "_law_lumps" st_lu ["net", "crew"] 1 F_lu) (d : Dn K mg "_law_right" st_r3 ["spring"]) : FdG P w K mg base ts "_law_right" st_r3 ["spring"] 14 F_r3 := by
  obtain ⟨fnt, fdnt, Gnt, gnt, knt, bnt, unt⟩ := hnt
  obtain ⟨fdr, fddr, Gdr, gdr, kdr, bdr, udr⟩ := hdr
  obtain ⟨fil, fdil, Gil, gil, kil, bil, uil⟩ := hil
  obtain ⟨ffe, fdfe, Gfe, gfe, kfe, bfe, ufe⟩ := hfe
  obtain ⟨fso, fdso, Gso, gso, kso, bso, uso⟩ := hso
  obtain ⟨fpk, fdpk, Gpk, gpk, kpk, bpk, upk⟩ := hpk
  obtain ⟨flu, fdlu, Glu, glu, klu, blu, ulu⟩ := hlu
  obtain ⟨f, fd, Fn, g, b⟩ := d
  refine ⟨f, fd, fl_defG (k := 13) Fn sc_r3 do_r3 (fun cdv A outer s H E hgd hr => ?_), g, Fn.kp, b, Fn⟩
  have hu : (A.deeper (envOfC (Str.ofString "_law_right") (defScope st_r3) s.heap.objs.size f cdv)).units + 65 < cLine := by
    have := hr.un
    omega
  exact ⟨_, (pss_cons (ps_set (i := 1) sc_r3.nd rfl (.inl rfl) (pe_call Gnt (hr.mono (by decide)) (by rfl) gnt knt bnt .nil pass0 (pa_cons (pv 0) (pa_cons pe_int (pa_cons (pe_ifExp (pt_cmpR op_eq (pe_call Gdr (hr.mono (by decide)) (by rfl) gdr kdr bdr .nil pass0 (pa_cons (pv 0) (pa_cons pe_int pa_nil))) pe_int (nomark _)) pe_int pe_int) (pa_cons pe_int pa_nil))))))
      (pss_cons (ps_if (pt_cmpR op_eq (pe_call Gdr (hr.mono (by decide)) (by rfl) gdr kdr bdr .nil pass0 (pa_cons (pv 0) (pa_cons pe_int pa_nil))) pe_int (nomark _)) (pss_cons (ps_set (i := 2) sc_r3.nd rfl (.inl rfl) (pe_tup (pa_cons (pe_tup (pa_cons pe_int (pa_cons pe_int pa_nil))) (pa_cons (pe_tup (pa_cons pe_int (pa_cons pe_int pa_nil))) (pa_cons (pe_tup (pa_cons pe_int (pa_cons pe_int pa_nil))) (pa_cons (pe_tup (pa_cons pe_int (pa_cons pe_int pa_nil))) (pa_cons (pe_tup (pa_cons pe_int (pa_cons pe_int pa_nil))) (pa_cons (pe_tup (pa_cons pe_int (pa_cons pe_int pa_nil))) (pa_cons (pe_tup (pa_cons pe_int (pa_cons pe_int pa_nil))) pa_nil)))))))))
      (pss_cons (ps_set (i := 1) sc_r3.nd rfl (.inl rfl) (pe_tup (pa_cons (pe_ix (show IxR _ (rIxT K) from ix_tup) (pe_call Gnt (hr.mono (by decide)) (by rfl) gnt knt bnt .nil pass0 (pa_cons (pv 0) (pa_cons pe_int (pa_cons pe_int (pa_cons pe_int pa_nil))))) pe_int (fun _ _ => rfl)) (pa_cons (pv 2) (pa_cons (pe_tup (pa_cons (pe_tup (pa_cons pe_int (pa_cons pe_int pa_nil))) (pa_cons (pe_tup (pa_cons pe_int (pa_cons pe_int pa_nil))) (pa_cons (pe_tup (pa_cons pe_int (pa_cons pe_int pa_nil))) (pa_cons (pe_tup (pa_cons pe_int (pa_cons pe_int pa_nil))) (pa_cons (pe_tup (pa_cons pe_int (pa_cons pe_int pa_nil))) (pa_cons (pe_tup (pa_cons pe_int (pa_cons pe_int pa_nil))) pa_nil))))))) pa_nil)))))
      (pss_one (ps_if (pt_not (pt_val (pe_callG Gil hgd (hr.mono (by decide)) (by rfl) gil kil bil (pa_cons (pv 0) (pa_cons (pv 1) (pa_cons (pe_tupRg rfl (by rfl) nb.tup (prg_1 (by rfl) nb.rng pe_int)) (pa_cons (pe_tup (pa_cons pe_int pa_nil)) pa_nil))))))) (pss_one (ps_ret pe_bl)) pss_nil)))) pss_nil)
      (pss_cons (ps_set (i := 3) sc_r3.nd rfl (.inl rfl) (pe_tupRg rfl (by rfl) nb.tup (prg_1 (by rfl) nb.rng (pe_callB (show CallR _ _ (rLen K) from call_len_seq) (by rfl) nb.len (by decide +kernel) (pa_cons (pe_ix (show IxR _ (rIxT K) from ix_tup) (pv 1) pe_int (fun _ _ => rfl)) pa_nil)))))
      (pss_cons (ps_for PassesOwn.never rfl (pi_range1 (by rfl) nb.rng (pa_cons pe_int pa_nil)) (pg_name (i := 4) sc_r3.nd rfl (.inl rfl))
      (pss_cons (ps_set (i := 5) sc_r3.nd rfl (.inl rfl) (pe_ifExp (pt_cmpR op_eq (pe_call Gdr (hr.mono (by decide)) (by rfl) gdr kdr bdr .nil pass0 (pa_cons (pv 0) (pa_cons pe_int pa_nil))) pe_int (nomark _)) (pv 3) (pe_call Gfe (hr.mono (by decide)) (by rfl) gfe kfe bfe .nil pass0 (pa_cons (pv 0) (pa_cons (pv 3) (pa_cons (pe_op op_add pe_int (pe_call Gdr (hr.mono (by decide)) (by rfl) gdr kdr bdr .nil pass0 (pa_cons (pv 0) (pa_cons (pe_op op_sub (pe_callB (show CallR _ _ (rLen K) from call_len_seq) (by rfl) nb.len (by decide +kernel) (pa_cons (pv 3) pa_nil)) pe_int) pa_nil)))) pa_nil))))))
      (pss_cons (ps_set (i := 6) sc_r3.nd rfl (.inl rfl) (pe_ifExp (pt_cmpR op_gt (pe_call Gdr (hr.mono (by decide)) (by rfl) gdr kdr bdr .nil pass0 (pa_cons (pv 0) (pa_cons pe_int pa_nil))) pe_int (nomark _)) (pe_call Gfe (hr.mono (by decide)) (by rfl) gfe kfe bfe .nil pass0 (pa_cons (pv 0) (pa_cons (pv 5) (pa_cons (pe_op op_add pe_int (pe_call Gdr (hr.mono (by decide)) (by rfl) gdr kdr bdr .nil pass0 (pa_cons (pv 0) (pa_cons pe_int pa_nil)))) pa_nil)))) (pe_call Gso (hr.mono (by decide)) (by rfl) gso kso bso .nil pass0 (pa_cons (pv 0) (pa_cons (pv 5) pa_nil)))))
      (pss_cons (ps_set (i := 7) sc_r3.nd rfl (.inl rfl) (pe_call Gpk (hr.mono (by decide)) (by rfl) gpk kpk bpk .nil pass0 (pa_cons (pv 0) (pa_cons (pe_call Glu (hr.mono (by decide)) (by rfl) glu klu blu .nil pass0 (pa_cons (pv 1) (pa_cons (pe_ifExp (pt_cmpR (show OpR _ _ (rEqD K) from op_eqD (Nat.lt_of_succ_lt hu)) (pv 6) (pe_tup pa_nil) (nomark _)) (pv 5) (pv 6)) pa_nil))) pa_nil))))
      (pss_one (ps_if (pt_not (pt_val (pe_callG Gil hgd (hr.mono (by decide)) (by rfl) gil kil bil (pa_cons (pv 0) (pa_cons (pv 1) (pa_cons (pv 5) (pa_cons (pv 7) pa_nil))))))) (pss_one (ps_ret pe_bl)) pss_nil))))))
      (pss_one (ps_ret pe_bl)))))), (xss_cons (xs_asg (xe_call mo_nt (xa_cons (xe_var 0) (xa_cons xe_int (xa_cons (xe_if (xt_test (xe_op xo_eqI (xe_call mo_dr (xa_cons (xe_var 0) (xa_cons xe_int xa_nil))) xe_int)) xe_int xe_int) (xa_cons xe_int xa_nil))))) (xg_name 1))
      (xss_cons (xs_if (xt_test (xe_op xo_eqI (xe_call mo_dr (xa_cons (xe_var 0) (xa_cons xe_int xa_nil))) xe_int)) (xss_cons (xs_asg (xe_tup (xa_cons (xe_tup (xa_cons xe_int (xa_cons xe_int xa_nil))) (xa_cons (xe_tup (xa_cons xe_int (xa_cons xe_int xa_nil))) (xa_cons (xe_tup (xa_cons xe_int (xa_cons xe_int xa_nil))) (xa_cons (xe_tup (xa_cons xe_int (xa_cons xe_int xa_nil))) (xa_cons (xe_tup (xa_cons xe_int (xa_cons xe_int xa_nil))) (xa_cons (xe_tup (xa_cons xe_int (xa_cons xe_int xa_nil))) (xa_cons (xe_tup (xa_cons xe_int (xa_cons xe_int xa_nil))) xa_nil)))))))) (xg_name 2))
      (xss_cons (xs_asg (xe_tup (xa_cons (xe_op xo_ixT (xe_call mo_nt (xa_cons (xe_var 0) (xa_cons xe_int (xa_cons xe_int (xa_cons xe_int xa_nil))))) xe_int) (xa_cons (xe_var 2) (xa_cons (xe_tup (xa_cons (xe_tup (xa_cons xe_int (xa_cons xe_int xa_nil))) (xa_cons (xe_tup (xa_cons xe_int (xa_cons xe_int xa_nil))) (xa_cons (xe_tup (xa_cons xe_int (xa_cons xe_int xa_nil))) (xa_cons (xe_tup (xa_cons xe_int (xa_cons xe_int xa_nil))) (xa_cons (xe_tup (xa_cons xe_int (xa_cons xe_int xa_nil))) (xa_cons (xe_tup (xa_cons xe_int (xa_cons xe_int xa_nil))) xa_nil))))))) xa_nil)))) (xg_name 1))
      (xss_one (xs_if (xt_not (xt_b (xe_call mo_il (xa_cons (xe_var 0) (xa_cons (xe_var 1) (xa_cons (xe_tupRg (xrg_1 xe_int)) (xa_cons (xe_tup (xa_cons xe_int xa_nil)) xa_nil))))))) (xss_one (xs_ret xe_bl)) xss_nil)))) xss_nil)
      (xss_cons (xs_asg (xe_tupRg (xrg_1 (xe_cb xc_len (xa_cons (xe_op xo_ixT (xe_var 1) xe_int) xa_nil)))) (xg_name 3))
      (xss_cons (xs_for (xi_rng1 (xa_cons xe_int xa_nil)) (xg_name 4)
      (xss_cons (xs_asg (xe_if (xt_test (xe_op xo_eqI (xe_call mo_dr (xa_cons (xe_var 0) (xa_cons xe_int xa_nil))) xe_int)) (xe_var 3) (xe_call mo_fe (xa_cons (xe_var 0) (xa_cons (xe_var 3) (xa_cons (xe_op xo_add xe_int (xe_call mo_dr (xa_cons (xe_var 0) (xa_cons (xe_op xo_sub (xe_cb xc_len (xa_cons (xe_var 3) xa_nil)) xe_int) xa_nil)))) xa_nil))))) (xg_name 5))
      (xss_cons (xs_asg (xe_if (xt_test (xe_op xo_gt (xe_call mo_dr (xa_cons (xe_var 0) (xa_cons xe_int xa_nil))) xe_int)) (xe_call mo_fe (xa_cons (xe_var 0) (xa_cons (xe_var 5) (xa_cons (xe_op xo_add xe_int (xe_call mo_dr (xa_cons (xe_var 0) (xa_cons xe_int xa_nil)))) xa_nil)))) (xe_call mo_so (xa_cons (xe_var 0) (xa_cons (xe_var 5) xa_nil)))) (xg_name 6))
      (xss_cons (xs_asg (xe_call mo_pk (xa_cons (xe_var 0) (xa_cons (xe_call mo_lu (xa_cons (xe_var 1) (xa_cons (xe_if (xt_test (xe_op xo_eqD (xe_var 6) (xe_tup xa_nil))) (xe_var 5) (xe_var 6)) xa_nil))) xa_nil))) (xg_name 7))
      (xss_one (xs_if (xt_not (xt_b (xe_call mo_il (xa_cons (xe_var 0) (xa_cons (xe_var 1) (xa_cons (xe_var 5) (xa_cons (xe_var 7) xa_nil))))))) (xss_one (xs_ret xe_bl)) xss_nil))))))
      (xss_one (xs_ret xe_bl))))))⟩
theorem ok_la3 (nb : Nb mg) (hsp : Fd P w K mg base ts "_law_spring" st_sp ["script", "lap"] 1 F_sp) (hr3 : FdG P w K mg base ts "_law_right" st_r3 ["spring"] 14 F_r3) (d : Dn K mg "law" st_la3 ["script"]) : FdG P w K mg base ts "law" st_la3 ["script"] 15 F_la3 := by
  obtain ⟨fsp, fdsp, Gsp, gsp, ksp, bsp, usp⟩ := hsp
  obtain ⟨fr3, fdr3, Gr3, gr3, kr3, br3, ur3⟩ := hr3
  obtain ⟨f, fd, Fn, g, b⟩ := d
  refine ⟨f, fd, fl_defG (k := 14) Fn sc_la3 do_la3 (fun cdv A outer s H E hgd hr => ?_), g, Fn.kp, b, Fn⟩
  have hu : (A.deeper (envOfC (Str.ofString "law") (defScope st_la3) s.heap.objs.size f cdv)).units + 65 < cLine := by
    have := hr.un
    omega
  exact ⟨_, (pss_cons (ps_for PassesOwn.never rfl (pi_range1 (by rfl) nb.rng (pa_cons (pe_callB (show CallR _ _ (rMx2) from call_max2 rfl) (by rfl) nb.max (by decide +kernel) (pa_cons pe_int (pa_cons (pe_callB (show CallR _ _ (rMn2) from call_min2 rfl) (by rfl) nb.min (by decide +kernel) (pa_cons (pe_callB (show CallR _ _ (rLen K) from call_len_seq) (by rfl) nb.len (by decide +kernel) (pa_cons (pv 0) pa_nil)) (pa_cons pe_int pa_nil))) pa_nil))) pa_nil)) (pg_name (i := 1) sc_la3.nd rfl (.inl rfl))
      (pss_one (ps_if (pt_not (pt_val (pe_callG Gr3 hgd (hr.mono (by decide)) (by rfl) gr3 kr3 br3 (pa_cons (pe_call Gsp (hr.mono (by decide)) (by rfl) gsp ksp bsp .nil pass0 (pa_cons (pv 0) (pa_cons (pv 1) pa_nil))) pa_nil)))) (pss_one (ps_ret pe_bl)) pss_nil)))
      (pss_one (ps_ret pe_bl))), (xss_cons (xs_for (xi_rng1 (xa_cons (xe_cb xc_max2 (xa_cons xe_int (xa_cons (xe_cb xc_min2 (xa_cons (xe_cb xc_len (xa_cons (xe_var 0) xa_nil)) (xa_cons xe_int xa_nil))) xa_nil))) xa_nil)) (xg_name 1)
      (xss_one (xs_if (xt_not (xt_gc (xt_b (xe_call mo_r3 (xa_cons (xe_call mo_sp (xa_cons (xe_var 0) (xa_cons (xe_var 1) xa_nil))) xa_nil))))) (xss_one (xs_ret xe_bl)) xss_nil)))
      (xss_one (xs_ret xe_bl)))⟩
end
end FL

namespace FL
open PySem PySem.Spec PyProof.Rows L2 KL KG GR KV KS KY RT
/-! ### what the written part says, by tests -/
def isNoV (o : Option (Option Value)) : Bool := match o with
  | some none => true
  | _ => false
theorem isNoV_of {o : Option (Option Value)} (h : isNoV o = true) : o = some none := by
  unfold isNoV at h
  split at h
  · rfl
  · cases h
def freeNames : List Str := ["all", "any", "range", "len", "type", "tuple", "int", "str", "set", "abs", "max", "min", "divmod", "sorted", "reversed", "list", "enumerate", "repr", "zip"]
def ckNo (K : PySem.W.Frag) : Bool := freeNames.all fun x => isNoV (PySem.W.nsIn K mainGlobals x)
theorem no_of {K : PySem.W.Frag} {h : Heap} {mg : Str → Option Value} (X : K.In h) (G : h.Ns mainGlobals mg) (c : ckNo K = true) {x : Str} (hx : x ∈ freeNames) : mg x = none := PySem.W.mg_none_of X G (isNoV_of (List.all_eq_true.mp c x hx))
def isStrV (v : Value) : Bool := match v with
  | .str _ _ => true
  | _ => false
def isIntV (v : Value) : Bool := match v with
  | .int _ _ => true
  | _ => false
def isBoolV (v : Value) : Bool := match v with
  | .bool _ => true
  | _ => false
def isRefV (v : Value) (p : Addr) : Bool := match v with
  | .ref q => q == p
  | _ => false
def isCodeV (v : Value) : Bool := match v with
  | .type t => t == "code"
  | _ => false
def ckCode (e : Value) (vs : Array Value) (c p : Addr) : Bool := isCodeV e && (isRefV (vs.getD 11 .none) p && (isStrV (vs.getD 18 .none) && (isIntV (vs.getD 7 .none) && (isBoolV (vs.getD 9 .none) && (isIntV (vs.getD 10 .none) && !Nat.beq c p)))))
theorem code_hd {K : PySem.W.Frag} {h : Heap} {c p : Addr} {e : Value} {d : Option Addr} {vs : Array Value} {sl : Array (Option Value)} (X : K.In h) (l : K.lookup c = some ⟨e, d, .fields vs, sl⟩) (g : vs[11]? = some (.ref p)) (z : ckCode e vs c p = true) : PySem.W.CodeHd h c p := by
  unfold ckCode at z
  simp only [Bool.and_eq_true] at z
  obtain ⟨z1, z2, z3, z4, z5, z6, z7⟩ := z
  have e1 : e = .type "code" := by
    unfold isCodeV at z1
    split at z1
    · rw [beq_iff_eq.mp z1]
    · cases z1
  have e2 : vs.getD 11 .none = .ref p := by
    unfold isRefV at z2
    split at z2
    · rename_i q he
      rw [he, beq_iff_eq.mp z2]
    · cases z2
  have e3 : ∃ a t, vs.getD 18 .none = .str a t := by
    unfold isStrV at z3
    split at z3
    · rename_i a t he
      exact ⟨a, t, he⟩
    · cases z3
  have e4 : ∃ a t, vs.getD 7 .none = .int a t := by
    unfold isIntV at z4
    split at z4
    · rename_i a t he
      exact ⟨a, t, he⟩
    · cases z4
  have e5 : ∃ b, vs.getD 9 .none = .bool b := by
    unfold isBoolV at z5
    split at z5
    · rename_i b he
      exact ⟨b, he⟩
    · cases z5
  have e6 : ∃ a t, vs.getD 10 .none = .int a t := by
    unfold isIntV at z6
    split at z6
    · rename_i a t he
      exact ⟨a, t, he⟩
    · cases z6
  have e7 : c ≠ p := fun q => by
    have z7 : (!Nat.beq c p) = true := z7
    rw [q] at z7
    have y : Nat.beq p p = true := Nat.beq_refl p
    rw [y] at z7
    cases z7
  obtain ⟨a3, t3, e3⟩ := e3
  obtain ⟨a4, t4, e4⟩ := e4
  obtain ⟨b5, e5⟩ := e5
  obtain ⟨a6, t6, e6⟩ := e6
  exact ⟨_, vs, a3, t3, a4, t4, b5, a6, t6, X _ _ l, e1, rfl, g, e2, e3, e4, e5, e6, e7⟩
theorem tdl_ints {K : PySem.W.Frag} {H : Hp} : ∀ ns : List Int, TDL K H (ns.map V.int) (ns.map PyData.int)
  | [] => .nil
  | n :: ns => .cons (.int n) (tdl_ints ns)
theorem law_start {K : PySem.W.Frag} {ts : List Addr} {H : Hp} {a : Addr} {ns : List Int} (hS : SqZ K H a (ns.map V.int)) (hl : ns.length ≤ 63) (tb : Tb ts H) : spS K ts F_la3 [.ref a] H (fun v _ => v = .bl true) E0 := by
  refine ⟨[], [], [.d (.list (ns.map .int))], ⟨rfl, List.nodup_nil, fun n a o e => (by cases e), tb⟩, .cons (.lst hS (tdl_ints ns)) .nil, ns, rfl, hl, fun μ' G v g S r => ?_⟩
  · have r : TD K G v (.bool true) := r
    cases r
    rfl

theorem all_mk {P : Program} {w : World} {K : PySem.W.Frag} {h : Heap} {mg : Str → Option Value} (X : K.In h) (G : h.Ns mainGlobals mg)
    {fa : Addr} {w0 w1 w2 w3 w4 w5 w6 w7 w8 w9 w10 w11 w12 w13 w14 w15 w16 w17 w18 w19 w20 w21 w22 w23 w24 w25 w26 w27 w28 w29 w30 u0 c0 p0 u1 c1 p1 u2 c2 p2 u3 c3 p3 u4 c4 p4 aw : Addr}
    {ocw0 kVw0 dcw0 pmw0 cdw0 ctw0 : Value} {odw0 anw0 : Option Addr} {slw0 : Array (Option Value)}
    {ocw1 kVw1 dcw1 pmw1 cdw1 ctw1 : Value} {odw1 anw1 : Option Addr} {slw1 : Array (Option Value)}
    {ocw2 kVw2 dcw2 pmw2 cdw2 ctw2 : Value} {odw2 anw2 : Option Addr} {slw2 : Array (Option Value)}
    {ocw3 kVw3 dcw3 pmw3 cdw3 ctw3 : Value} {odw3 anw3 : Option Addr} {slw3 : Array (Option Value)}
    {ocw4 kVw4 dcw4 pmw4 cdw4 ctw4 : Value} {odw4 anw4 : Option Addr} {slw4 : Array (Option Value)}
    {ocw5 kVw5 dcw5 pmw5 cdw5 ctw5 : Value} {odw5 anw5 : Option Addr} {slw5 : Array (Option Value)}
    {ocw6 kVw6 dcw6 pmw6 cdw6 ctw6 : Value} {odw6 anw6 : Option Addr} {slw6 : Array (Option Value)}
    {ocw7 kVw7 dcw7 pmw7 cdw7 ctw7 : Value} {odw7 anw7 : Option Addr} {slw7 : Array (Option Value)}
    {ocw8 kVw8 dcw8 pmw8 cdw8 ctw8 : Value} {odw8 anw8 : Option Addr} {slw8 : Array (Option Value)}
    {ocw9 kVw9 dcw9 pmw9 cdw9 ctw9 : Value} {odw9 anw9 : Option Addr} {slw9 : Array (Option Value)}
    {ocw10 kVw10 dcw10 pmw10 cdw10 ctw10 : Value} {odw10 anw10 : Option Addr} {slw10 : Array (Option Value)}
    {ocw11 kVw11 dcw11 pmw11 cdw11 ctw11 : Value} {odw11 anw11 : Option Addr} {slw11 : Array (Option Value)}
    {ocw12 kVw12 dcw12 pmw12 cdw12 ctw12 : Value} {odw12 anw12 : Option Addr} {slw12 : Array (Option Value)}
    {ocw13 kVw13 dcw13 pmw13 cdw13 ctw13 : Value} {odw13 anw13 : Option Addr} {slw13 : Array (Option Value)}
    {ocw14 kVw14 dcw14 pmw14 cdw14 ctw14 : Value} {odw14 anw14 : Option Addr} {slw14 : Array (Option Value)}
    {ocw15 kVw15 dcw15 pmw15 cdw15 ctw15 : Value} {odw15 anw15 : Option Addr} {slw15 : Array (Option Value)}
    {ocw16 kVw16 dcw16 pmw16 cdw16 ctw16 : Value} {odw16 anw16 : Option Addr} {slw16 : Array (Option Value)}
    {ocw17 kVw17 dcw17 pmw17 cdw17 ctw17 : Value} {odw17 anw17 : Option Addr} {slw17 : Array (Option Value)}
    {ocw18 kVw18 dcw18 pmw18 cdw18 ctw18 : Value} {odw18 anw18 : Option Addr} {slw18 : Array (Option Value)}
    {ocw19 kVw19 dcw19 pmw19 cdw19 ctw19 : Value} {odw19 anw19 : Option Addr} {slw19 : Array (Option Value)}
    {ocw20 kVw20 dcw20 pmw20 cdw20 ctw20 : Value} {odw20 anw20 : Option Addr} {slw20 : Array (Option Value)}
    {ocw21 kVw21 dcw21 pmw21 cdw21 ctw21 : Value} {odw21 anw21 : Option Addr} {slw21 : Array (Option Value)}
    {ocw22 kVw22 dcw22 pmw22 cdw22 ctw22 : Value} {odw22 anw22 : Option Addr} {slw22 : Array (Option Value)}
    {ocw23 kVw23 dcw23 pmw23 cdw23 ctw23 : Value} {odw23 anw23 : Option Addr} {slw23 : Array (Option Value)}
    {ocw24 kVw24 dcw24 pmw24 cdw24 ctw24 : Value} {odw24 anw24 : Option Addr} {slw24 : Array (Option Value)}
    {ocw25 kVw25 dcw25 pmw25 cdw25 ctw25 : Value} {odw25 anw25 : Option Addr} {slw25 : Array (Option Value)}
    {ocw26 kVw26 dcw26 pmw26 cdw26 ctw26 : Value} {odw26 anw26 : Option Addr} {slw26 : Array (Option Value)}
    {ocw27 kVw27 dcw27 pmw27 cdw27 ctw27 : Value} {odw27 anw27 : Option Addr} {slw27 : Array (Option Value)}
    {ocw28 kVw28 dcw28 pmw28 cdw28 ctw28 : Value} {odw28 anw28 : Option Addr} {slw28 : Array (Option Value)}
    {ocw29 kVw29 dcw29 pmw29 cdw29 ctw29 : Value} {odw29 anw29 : Option Addr} {slw29 : Array (Option Value)}
    {ocw30 kVw30 dcw30 pmw30 cdw30 ctw30 : Value} {odw30 anw30 : Option Addr} {slw30 : Array (Option Value)}
    {ocu0 kVu0 dcu0 pmu0 ctu0 ecu0 : Value} {odu0 anu0 ddu0 : Option Addr} {slu0 scu0 : Array (Option Value)} {vu0 : Array Value}
    {ocu1 kVu1 dcu1 pmu1 ctu1 ecu1 : Value} {odu1 anu1 ddu1 : Option Addr} {slu1 scu1 : Array (Option Value)} {vu1 : Array Value}
    {ocu2 kVu2 dcu2 pmu2 ctu2 ecu2 : Value} {odu2 anu2 ddu2 : Option Addr} {slu2 scu2 : Array (Option Value)} {vu2 : Array Value}
    {ocu3 kVu3 dcu3 pmu3 ctu3 ecu3 : Value} {odu3 anu3 ddu3 : Option Addr} {slu3 scu3 : Array (Option Value)} {vu3 : Array Value}
    {ocu4 kVu4 dcu4 pmu4 ctu4 ecu4 : Value} {odu4 anu4 ddu4 : Option Addr} {slu4 scu4 : Array (Option Value)} {vu4 : Array Value}
    {tl tf : Nat} {tsg tvr thd : Nat} {t0 t1 t2 t3 t4 t5 t6 t7 t8 : Nat} {nwd : Nat} {dwd : Option Addr} {swd : Array (Option Value)}
    (hfa : mg "law" = some (.ref fa))
    (gw0 : PySem.W.nsIn K mainGlobals "ascends" = some (some (.ref w0)))
    (lw0 : K.lookup w0 = some ⟨ocw0, odw0, .func (PySem.W.fnOf "ascends" "ascends" (defArgs sAsc) (defBody sAsc) (defScope sAsc) .none kVw0 dcw0 pmw0 anw0 cdw0 ctw0), slw0⟩)
    (cw0 : PySem.W.codeIn K cdw0 "ascends" = true)
    (kw0 : PySem.W.keepIn K (.ref w0) = true)
    (gw1 : PySem.W.nsIn K mainGlobals "is_graph" = some (some (.ref w1)))
    (lw1 : K.lookup w1 = some ⟨ocw1, odw1, .func (PySem.W.fnOf "is_graph" "is_graph" (defArgs sGraph) (defBody sGraph) (defScope sGraph) .none kVw1 dcw1 pmw1 anw1 cdw1 ctw1), slw1⟩)
    (cw1 : PySem.W.codeIn K cdw1 "is_graph" = true)
    (kw1 : PySem.W.keepIn K (.ref w1) = true)
    (gw2 : PySem.W.nsIn K mainGlobals "need_graph" = some (some (.ref w2)))
    (lw2 : K.lookup w2 = some ⟨ocw2, odw2, .func (PySem.W.fnOf "need_graph" "need_graph" (defArgs sNeed) (defBody sNeed) (defScope sNeed) .none kVw2 dcw2 pmw2 anw2 cdw2 ctw2), slw2⟩)
    (cw2 : PySem.W.codeIn K cdw2 "need_graph" = true)
    (kw2 : PySem.W.keepIn K (.ref w2) = true)
    (gw3 : PySem.W.nsIn K mainGlobals "need_lot" = some (some (.ref w3)))
    (lw3 : K.lookup w3 = some ⟨ocw3, odw3, .func (PySem.W.fnOf "need_lot" "need_lot" (defArgs sNeedLot) (defBody sNeedLot) (defScope sNeedLot) .none kVw3 dcw3 pmw3 anw3 cdw3 ctw3), slw3⟩)
    (cw3 : PySem.W.codeIn K cdw3 "need_lot" = true)
    (kw3 : PySem.W.keepIn K (.ref w3) = true)
    (gw4 : PySem.W.nsIn K mainGlobals "is_within" = some (some (.ref w4)))
    (lw4 : K.lookup w4 = some ⟨ocw4, odw4, .func (PySem.W.fnOf "is_within" "is_within" (defArgs st_wi) (defBody st_wi) (defScope st_wi) .none kVw4 dcw4 pmw4 anw4 cdw4 ctw4), slw4⟩)
    (cw4 : PySem.W.codeIn K cdw4 "is_within" = true)
    (kw4 : PySem.W.keepIn K (.ref w4) = true)
    (gw5 : PySem.W.nsIn K mainGlobals "need_within" = some (some (.ref w5)))
    (lw5 : K.lookup w5 = some ⟨ocw5, odw5, .func (PySem.W.fnOf "need_within" "need_within" (defArgs st_nw) (defBody st_nw) (defScope st_nw) .none kVw5 dcw5 pmw5 anw5 cdw5 ctw5), slw5⟩)
    (cw5 : PySem.W.codeIn K cdw5 "need_within" = true)
    (kw5 : PySem.W.keepIn K (.ref w5) = true)
    (gw6 : PySem.W.nsIn K mainGlobals "ancestors_in" = some (some (.ref w6)))
    (lw6 : K.lookup w6 = some ⟨ocw6, odw6, .func (PySem.W.fnOf "ancestors_in" "ancestors_in" (defArgs st_an) (defBody st_an) (defScope st_an) .none kVw6 dcw6 pmw6 anw6 cdw6 ctw6), slw6⟩)
    (cw6 : PySem.W.codeIn K cdw6 "ancestors_in" = true)
    (kw6 : PySem.W.keepIn K (.ref w6) = true)
    (gw7 : PySem.W.nsIn K mainGlobals "district_of" = some (some (.ref w7)))
    (lw7 : K.lookup w7 = some ⟨ocw7, odw7, .func (PySem.W.fnOf "district_of" "district_of" (defArgs st_di) (defBody st_di) (defScope st_di) .none kVw7 dcw7 pmw7 anw7 cdw7 ctw7), slw7⟩)
    (cw7 : PySem.W.codeIn K cdw7 "district_of" = true)
    (kw7 : PySem.W.keepIn K (.ref w7) = true)
    (gw8 : PySem.W.nsIn K mainGlobals "is_joined" = some (some (.ref w8)))
    (lw8 : K.lookup w8 = some ⟨ocw8, odw8, .func (PySem.W.fnOf "is_joined" "is_joined" (defArgs st_ij) (defBody st_ij) (defScope st_ij) .none kVw8 dcw8 pmw8 anw8 cdw8 ctw8), slw8⟩)
    (cw8 : PySem.W.codeIn K cdw8 "is_joined" = true)
    (kw8 : PySem.W.keepIn K (.ref w8) = true)
    (gw9 : PySem.W.nsIn K mainGlobals "rounds_of" = some (some (.ref w9)))
    (lw9 : K.lookup w9 = some ⟨ocw9, odw9, .func (PySem.W.fnOf "rounds_of" "rounds_of" (defArgs st_ro) (defBody st_ro) (defScope st_ro) .none kVw9 dcw9 pmw9 anw9 cdw9 ctw9), slw9⟩)
    (cw9 : PySem.W.codeIn K cdw9 "rounds_of" = true)
    (kw9 : PySem.W.keepIn K (.ref w9) = true)
    (gw10 : PySem.W.nsIn K mainGlobals "need_joined" = some (some (.ref w10)))
    (lw10 : K.lookup w10 = some ⟨ocw10, odw10, .func (PySem.W.fnOf "need_joined" "need_joined" (defArgs st_nj) (defBody st_nj) (defScope st_nj) .none kVw10 dcw10 pmw10 anw10 cdw10 ctw10), slw10⟩)
    (cw10 : PySem.W.codeIn K cdw10 "need_joined" = true)
    (kw10 : PySem.W.keepIn K (.ref w10) = true)
    (gw11 : PySem.W.nsIn K mainGlobals "rounds" = some (some (.ref w11)))
    (lw11 : K.lookup w11 = some ⟨ocw11, odw11, .func (PySem.W.fnOf "rounds" "rounds" (defArgs st_rr) (defBody st_rr) (defScope st_rr) .none kVw11 dcw11 pmw11 anw11 cdw11 ctw11), slw11⟩)
    (cw11 : PySem.W.codeIn K cdw11 "rounds" = true)
    (kw11 : PySem.W.keepIn K (.ref w11) = true)
    (gw12 : PySem.W.nsIn K mainGlobals "greatest_hedge" = some (some (.ref w12)))
    (lw12 : K.lookup w12 = some ⟨ocw12, odw12, .func (PySem.W.fnOf "greatest_hedge" "greatest_hedge" (defArgs st_gh) (defBody st_gh) (defScope st_gh) .none kVw12 dcw12 pmw12 anw12 cdw12 ctw12), slw12⟩)
    (cw12 : PySem.W.codeIn K cdw12 "greatest_hedge" = true)
    (kw12 : PySem.W.keepIn K (.ref w12) = true)
    (gw13 : PySem.W.nsIn K mainGlobals "_law_spring" = some (some (.ref w13)))
    (lw13 : K.lookup w13 = some ⟨ocw13, odw13, .func (PySem.W.fnOf "_law_spring" "_law_spring" (defArgs st_sp) (defBody st_sp) (defScope st_sp) .none kVw13 dcw13 pmw13 anw13 cdw13 ctw13), slw13⟩)
    (cw13 : PySem.W.codeIn K cdw13 "_law_spring" = true)
    (kw13 : PySem.W.keepIn K (.ref w13) = true)
    (gw14 : PySem.W.nsIn K mainGlobals "_law_draw" = some (some (.ref w14)))
    (lw14 : K.lookup w14 = some ⟨ocw14, odw14, .func (PySem.W.fnOf "_law_draw" "_law_draw" (defArgs st_dr) (defBody st_dr) (defScope st_dr) .none kVw14 dcw14 pmw14 anw14 cdw14 ctw14), slw14⟩)
    (cw14 : PySem.W.codeIn K cdw14 "_law_draw" = true)
    (kw14 : PySem.W.keepIn K (.ref w14) = true)
    (gw15 : PySem.W.nsIn K mainGlobals "_law_pick" = some (some (.ref w15)))
    (lw15 : K.lookup w15 = some ⟨ocw15, odw15, .func (PySem.W.fnOf "_law_pick" "_law_pick" (defArgs st_pk) (defBody st_pk) (defScope st_pk) .none kVw15 dcw15 pmw15 anw15 cdw15 ctw15), slw15⟩)
    (cw15 : PySem.W.codeIn K cdw15 "_law_pick" = true)
    (kw15 : PySem.W.keepIn K (.ref w15) = true)
    (gw16 : PySem.W.nsIn K mainGlobals "_law_is" = some (some (.ref w16)))
    (lw16 : K.lookup w16 = some ⟨ocw16, odw16, .func (PySem.W.fnOf "_law_is" "_law_is" (defArgs st_is2) (defBody st_is2) (defScope st_is2) .none kVw16 dcw16 pmw16 anw16 cdw16 ctw16), slw16⟩)
    (cw16 : PySem.W.codeIn K cdw16 "_law_is" = true)
    (kw16 : PySem.W.keepIn K (.ref w16) = true)
    (gw17 : PySem.W.nsIn K mainGlobals "_law_some" = some (some (.ref w17)))
    (lw17 : K.lookup w17 = some ⟨ocw17, odw17, .func (PySem.W.fnOf "_law_some" "_law_some" (defArgs st_so) (defBody st_so) (defScope st_so) .none kVw17 dcw17 pmw17 anw17 cdw17 ctw17), slw17⟩)
    (cw17 : PySem.W.codeIn K cdw17 "_law_some" = true)
    (kw17 : PySem.W.keepIn K (.ref w17) = true)
    (gw18 : PySem.W.nsIn K mainGlobals "_law_few" = some (some (.ref w18)))
    (lw18 : K.lookup w18 = some ⟨ocw18, odw18, .func (PySem.W.fnOf "_law_few" "_law_few" (defArgs st_fe) (defBody st_fe) (defScope st_fe) .none kVw18 dcw18 pmw18 anw18 cdw18 ctw18), slw18⟩)
    (cw18 : PySem.W.codeIn K cdw18 "_law_few" = true)
    (kw18 : PySem.W.keepIn K (.ref w18) = true)
    (gw19 : PySem.W.nsIn K mainGlobals "_law_label" = some (some (.ref w19)))
    (lw19 : K.lookup w19 = some ⟨ocw19, odw19, .func (PySem.W.fnOf "_law_label" "_law_label" (defArgs st_lb) (defBody st_lb) (defScope st_lb) .none kVw19 dcw19 pmw19 anw19 cdw19 ctw19), slw19⟩)
    (cw19 : PySem.W.codeIn K cdw19 "_law_label" = true)
    (kw19 : PySem.W.keepIn K (.ref w19) = true)
    (gw20 : PySem.W.nsIn K mainGlobals "_law_net" = some (some (.ref w20)))
    (lw20 : K.lookup w20 = some ⟨ocw20, odw20, .func (PySem.W.fnOf "_law_net" "_law_net" (defArgs st_nt) (defBody st_nt) (defScope st_nt) .none kVw20 dcw20 pmw20 anw20 cdw20 ctw20), slw20⟩)
    (cw20 : PySem.W.codeIn K cdw20 "_law_net" = true)
    (kw20 : PySem.W.keepIn K (.ref w20) = true)
    (gw21 : PySem.W.nsIn K mainGlobals "_law_up" = some (some (.ref w21)))
    (lw21 : K.lookup w21 = some ⟨ocw21, odw21, .func (PySem.W.fnOf "_law_up" "_law_up" (defArgs st_up) (defBody st_up) (defScope st_up) .none kVw21 dcw21 pmw21 anw21 cdw21 ctw21), slw21⟩)
    (cw21 : PySem.W.codeIn K cdw21 "_law_up" = true)
    (kw21 : PySem.W.keepIn K (.ref w21) = true)
    (gw22 : PySem.W.nsIn K mainGlobals "_law_lumps" = some (some (.ref w22)))
    (lw22 : K.lookup w22 = some ⟨ocw22, odw22, .func (PySem.W.fnOf "_law_lumps" "_law_lumps" (defArgs st_lu) (defBody st_lu) (defScope st_lu) .none kVw22 dcw22 pmw22 anw22 cdw22 ctw22), slw22⟩)
    (cw22 : PySem.W.codeIn K cdw22 "_law_lumps" = true)
    (kw22 : PySem.W.keepIn K (.ref w22) = true)
    (gw23 : PySem.W.nsIn K mainGlobals "_law_greatest" = some (some (.ref w23)))
    (lw23 : K.lookup w23 = some ⟨ocw23, odw23, .func (PySem.W.fnOf "_law_greatest" "_law_greatest" (defArgs st_ge) (defBody st_ge) (defScope st_ge) .none kVw23 dcw23 pmw23 anw23 cdw23 ctw23), slw23⟩)
    (cw23 : PySem.W.codeIn K cdw23 "_law_greatest" = true)
    (kw23 : PySem.W.keepIn K (.ref w23) = true)
    (gw24 : PySem.W.nsIn K mainGlobals "_law_has" = some (some (.ref w24)))
    (lw24 : K.lookup w24 = some ⟨ocw24, odw24, .func (PySem.W.fnOf "_law_has" "_law_has" (defArgs st_ha) (defBody st_ha) (defScope st_ha) .none kVw24 dcw24 pmw24 anw24 cdw24 ctw24), slw24⟩)
    (cw24 : PySem.W.codeIn K cdw24 "_law_has" = true)
    (kw24 : PySem.W.keepIn K (.ref w24) = true)
    (gw25 : PySem.W.nsIn K mainGlobals "_law_lots" = some (some (.ref w25)))
    (lw25 : K.lookup w25 = some ⟨ocw25, odw25, .func (PySem.W.fnOf "_law_lots" "_law_lots" (defArgs st_lo2) (defBody st_lo2) (defScope st_lo2) .none kVw25 dcw25 pmw25 anw25 cdw25 ctw25), slw25⟩)
    (cw25 : PySem.W.codeIn K cdw25 "_law_lots" = true)
    (kw25 : PySem.W.keepIn K (.ref w25) = true)
    (gw26 : PySem.W.nsIn K mainGlobals "_law_between" = some (some (.ref w26)))
    (lw26 : K.lookup w26 = some ⟨ocw26, odw26, .func (PySem.W.fnOf "_law_between" "_law_between" (defArgs st_be) (defBody st_be) (defScope st_be) .none kVw26 dcw26 pmw26 anw26 cdw26 ctw26), slw26⟩)
    (cw26 : PySem.W.codeIn K cdw26 "_law_between" = true)
    (kw26 : PySem.W.keepIn K (.ref w26) = true)
    (gw27 : PySem.W.nsIn K mainGlobals "_law_hedges" = some (some (.ref w27)))
    (lw27 : K.lookup w27 = some ⟨ocw27, odw27, .func (PySem.W.fnOf "_law_hedges" "_law_hedges" (defArgs st_he) (defBody st_he) (defScope st_he) .none kVw27 dcw27 pmw27 anw27 cdw27 ctw27), slw27⟩)
    (cw27 : PySem.W.codeIn K cdw27 "_law_hedges" = true)
    (kw27 : PySem.W.keepIn K (.ref w27) = true)
    (gw28 : PySem.W.nsIn K mainGlobals "_law_is_led" = some (some (.ref w28)))
    (lw28 : K.lookup w28 = some ⟨ocw28, odw28, .func (PySem.W.fnOf "_law_is_led" "_law_is_led" (defArgs st_il) (defBody st_il) (defScope st_il) .none kVw28 dcw28 pmw28 anw28 cdw28 ctw28), slw28⟩)
    (cw28 : PySem.W.codeIn K cdw28 "_law_is_led" = true)
    (kw28 : PySem.W.keepIn K (.ref w28) = true)
    (gw29 : PySem.W.nsIn K mainGlobals "_law_right" = some (some (.ref w29)))
    (lw29 : K.lookup w29 = some ⟨ocw29, odw29, .func (PySem.W.fnOf "_law_right" "_law_right" (defArgs st_r3) (defBody st_r3) (defScope st_r3) .none kVw29 dcw29 pmw29 anw29 cdw29 ctw29), slw29⟩)
    (cw29 : PySem.W.codeIn K cdw29 "_law_right" = true)
    (kw29 : PySem.W.keepIn K (.ref w29) = true)
    (gw30 : PySem.W.nsIn K mainGlobals "law" = some (some (.ref w30)))
    (lw30 : K.lookup w30 = some ⟨ocw30, odw30, .func (PySem.W.fnOf "law" "law" (defArgs st_la3) (defBody st_la3) (defScope st_la3) .none kVw30 dcw30 pmw30 anw30 cdw30 ctw30), slw30⟩)
    (cw30 : PySem.W.codeIn K cdw30 "law" = true)
    (kw30 : PySem.W.keepIn K (.ref w30) = true)
    (gu0 : PySem.W.nsIn K mainGlobals "is_lot" = some (some (.ref u0)))
    (lu0 : K.lookup u0 = some ⟨ocu0, odu0, .func (PySem.W.fnOf "is_lot" "is_lot" (defArgs sLot) (defBody sLot) (defScope sLot) .none kVu0 dcu0 pmu0 anu0 (.ref c0) ctu0), slu0⟩)
    (cu0 : PySem.W.codeIn K (.ref c0) "is_lot" = true)
    (ku0 : PySem.W.keepIn K (.ref u0) = true)
    (xu0 : K.lookup c0 = some ⟨ecu0, ddu0, .fields vu0, scu0⟩)
    (pu0 : vu0[11]? = some (.ref p0))
    (zu0 : ckCode ecu0 vu0 c0 p0 = true)
    (nu0 : (K.lookup p0).isNone = true)
    (gu1 : PySem.W.nsIn K mainGlobals "is_name" = some (some (.ref u1)))
    (lu1 : K.lookup u1 = some ⟨ocu1, odu1, .func (PySem.W.fnOf "is_name" "is_name" (defArgs sName) (defBody sName) (defScope sName) .none kVu1 dcu1 pmu1 anu1 (.ref c1) ctu1), slu1⟩)
    (cu1 : PySem.W.codeIn K (.ref c1) "is_name" = true)
    (ku1 : PySem.W.keepIn K (.ref u1) = true)
    (xu1 : K.lookup c1 = some ⟨ecu1, ddu1, .fields vu1, scu1⟩)
    (pu1 : vu1[11]? = some (.ref p1))
    (zu1 : ckCode ecu1 vu1 c1 p1 = true)
    (nu1 : (K.lookup p1).isNone = true)
    (gu2 : PySem.W.nsIn K mainGlobals "are_names" = some (some (.ref u2)))
    (lu2 : K.lookup u2 = some ⟨ocu2, odu2, .func (PySem.W.fnOf "are_names" "are_names" (defArgs sNames) (defBody sNames) (defScope sNames) .none kVu2 dcu2 pmu2 anu2 (.ref c2) ctu2), slu2⟩)
    (cu2 : PySem.W.codeIn K (.ref c2) "are_names" = true)
    (ku2 : PySem.W.keepIn K (.ref u2) = true)
    (xu2 : K.lookup c2 = some ⟨ecu2, ddu2, .fields vu2, scu2⟩)
    (pu2 : vu2[11]? = some (.ref p2))
    (zu2 : ckCode ecu2 vu2 c2 p2 = true)
    (nu2 : (K.lookup p2).isNone = true)
    (gu3 : PySem.W.nsIn K mainGlobals "are_arrows" = some (some (.ref u3)))
    (lu3 : K.lookup u3 = some ⟨ocu3, odu3, .func (PySem.W.fnOf "are_arrows" "are_arrows" (defArgs sArr) (defBody sArr) (defScope sArr) .none kVu3 dcu3 pmu3 anu3 (.ref c3) ctu3), slu3⟩)
    (cu3 : PySem.W.codeIn K (.ref c3) "are_arrows" = true)
    (ku3 : PySem.W.keepIn K (.ref u3) = true)
    (xu3 : K.lookup c3 = some ⟨ecu3, ddu3, .fields vu3, scu3⟩)
    (pu3 : vu3[11]? = some (.ref p3))
    (zu3 : ckCode ecu3 vu3 c3 p3 = true)
    (nu3 : (K.lookup p3).isNone = true)
    (gu4 : PySem.W.nsIn K mainGlobals "are_hidden_lots" = some (some (.ref u4)))
    (lu4 : K.lookup u4 = some ⟨ocu4, odu4, .func (PySem.W.fnOf "are_hidden_lots" "are_hidden_lots" (defArgs sHid) (defBody sHid) (defScope sHid) .none kVu4 dcu4 pmu4 anu4 (.ref c4) ctu4), slu4⟩)
    (cu4 : PySem.W.codeIn K (.ref c4) "are_hidden_lots" = true)
    (ku4 : PySem.W.keepIn K (.ref u4) = true)
    (xu4 : K.lookup c4 = some ⟨ecu4, ddu4, .fields vu4, scu4⟩)
    (pu4 : vu4[11]? = some (.ref p4))
    (zu4 : ckCode ecu4 vu4 c4 p4 = true)
    (nu4 : (K.lookup p4).isNone = true)
    (gl : PySem.W.nsIn K mainGlobals "LETTERS" = some (some (.str lettersS tl)))
    (gf : PySem.W.nsIn K mainGlobals "FIGURES" = some (some (.str figuresS tf)))
    (gd : PySem.W.nsIn K mainGlobals "WORDS" = some (some (.ref aw)))
    (gsg : PySem.W.nsIn K mainGlobals "MOST_SIGNS" = some (some (.int 8 tsg)))
    (gvr : PySem.W.nsIn K mainGlobals "MOST_VARIABLES" = some (some (.int 8 tvr)))
    (ghd : PySem.W.nsIn K mainGlobals "MOST_HIDDEN_LOTS" = some (some (.int 28 thd)))
    (lwd : K.lookup aw = some ⟨.type "tuple", dwd, .seq #[.str "names" t0, .str "arrows" t1, .str "hidden" t2, .str "sizes" t3, .str "lot" t4, .str "table" t5, .str "told" t6, .str "sum" t7, .str "on" t8] nwd, swd⟩)
    (zN : ckNo K = true)
    (tb0 : TabOf K mg "is_lot" h)
    (tb1 : TabOf K mg "is_name" h)
    (tb2 : TabOf K mg "are_names" h)
    (tb3 : TabOf K mg "are_arrows" h)
    (tb4 : TabOf K mg "are_hidden_lots" h)
    : ∃ (fd : FuncData) (cs : List (Addr × Addr)) (sp : Sp), (∀ p ∈ cs, h.get? p.2 = some { cls := .none, data := .fields #[] }) ∧ (∀ p ∈ cs, K.lookup p.2 = none) ∧ (∀ p ∈ cs, PySem.W.CodeHd h p.1 p.2) ∧ (∀ (s : Shared) (u : Value), BindsTo s fd ⟨[u], []⟩ [("script", u)]) ∧
        (∀ (H : Hp) (a : Addr) (ns : List Int), ns.length ≤ 63 → (∀ p ∈ cs, H p.2 = some (.tbl #[])) → SqZ K H a (ns.map V.int) → sp [.ref a] H (fun v _ => v = .bl true) E0) ∧
        ∀ base : Heap, K.In base → base.Ns mainGlobals mg → (∀ p ∈ cs, GxR.TabB base mg p.1 p.2) → FnG P w K mg base CX0 15 fa fd ["script"] sp := by
  have e := hfa.symm.trans (PySem.W.mg_of X G gw30)
  cases e
  have no : ∀ {x : Str}, x ∈ freeNames → mg x = none := fun hx => no_of X G zN hx
  have F0 := fun_mk (st := sAsc) lw0 cw0 kw0
  have b0 := F0.binds (ps := ["row"]) fun _ _ _ _ _ _ us hl => match us, hl with | [_], _ => rfl
  have m0 := PySem.W.mg_of X G gw0
  have F1 := fun_mk (st := sGraph) lw1 cw1 kw1
  have b1 := F1.binds (ps := ["value"]) fun _ _ _ _ _ _ us hl => match us, hl with | [_], _ => rfl
  have m1 := PySem.W.mg_of X G gw1
  have F2 := fun_mk (st := sNeed) lw2 cw2 kw2
  have b2 := F2.binds (ps := ["graph"]) fun _ _ _ _ _ _ us hl => match us, hl with | [_], _ => rfl
  have m2 := PySem.W.mg_of X G gw2
  have F3 := fun_mk (st := sNeedLot) lw3 cw3 kw3
  have b3 := F3.binds (ps := ["graph", "lot"]) fun _ _ _ _ _ _ us hl => match us, hl with | [_, _], _ => rfl
  have m3 := PySem.W.mg_of X G gw3
  have F4 := fun_mk (st := st_wi) lw4 cw4 kw4
  have b4 := F4.binds (ps := ["part", "lot"]) fun _ _ _ _ _ _ us hl => match us, hl with | [_, _], _ => rfl
  have m4 := PySem.W.mg_of X G gw4
  have F5 := fun_mk (st := st_nw) lw5 cw5 kw5
  have b5 := F5.binds (ps := ["part", "lot"]) fun _ _ _ _ _ _ us hl => match us, hl with | [_, _], _ => rfl
  have m5 := PySem.W.mg_of X G gw5
  have F6 := fun_mk (st := st_an) lw6 cw6 kw6
  have b6 := F6.binds (ps := ["graph", "lot", "starts"]) fun _ _ _ _ _ _ us hl => match us, hl with | [_, _, _], _ => rfl
  have m6 := PySem.W.mg_of X G gw6
  have F7 := fun_mk (st := st_di) lw7 cw7 kw7
  have b7 := F7.binds (ps := ["graph", "lot", "start"]) fun _ _ _ _ _ _ us hl => match us, hl with | [_, _, _], _ => rfl
  have m7 := PySem.W.mg_of X G gw7
  have F8 := fun_mk (st := st_ij) lw8 cw8 kw8
  have b8 := F8.binds (ps := ["graph", "lot"]) fun _ _ _ _ _ _ us hl => match us, hl with | [_, _], _ => rfl
  have m8 := PySem.W.mg_of X G gw8
  have F9 := fun_mk (st := st_ro) lw9 cw9 kw9
  have b9 := F9.binds (ps := ["graph", "lot", "ends"]) fun _ _ _ _ _ _ us hl => match us, hl with | [_, _, _], _ => rfl
  have m9 := PySem.W.mg_of X G gw9
  have F10 := fun_mk (st := st_nj) lw10 cw10 kw10
  have b10 := F10.binds (ps := ["graph", "lot"]) fun _ _ _ _ _ _ us hl => match us, hl with | [_, _], _ => rfl
  have m10 := PySem.W.mg_of X G gw10
  have F11 := fun_mk (st := st_rr) lw11 cw11 kw11
  have b11 := F11.binds (ps := ["graph", "lot", "ends"]) fun _ _ _ _ _ _ us hl => match us, hl with | [_, _, _], _ => rfl
  have m11 := PySem.W.mg_of X G gw11
  have F12 := fun_mk (st := st_gh) lw12 cw12 kw12
  have b12 := F12.binds (ps := ["graph", "lot", "ends"]) fun _ _ _ _ _ _ us hl => match us, hl with | [_, _, _], _ => rfl
  have m12 := PySem.W.mg_of X G gw12
  have F13 := fun_mk (st := st_sp) lw13 cw13 kw13
  have b13 := F13.binds (ps := ["script", "lap"]) fun _ _ _ _ _ _ us hl => match us, hl with | [_, _], _ => rfl
  have m13 := PySem.W.mg_of X G gw13
  have F14 := fun_mk (st := st_dr) lw14 cw14 kw14
  have b14 := F14.binds (ps := ["spring", "top"]) fun _ _ _ _ _ _ us hl => match us, hl with | [_, _], _ => rfl
  have m14 := PySem.W.mg_of X G gw14
  have F15 := fun_mk (st := st_pk) lw15 cw15 kw15
  have b15 := F15.binds (ps := ["spring", "some"]) fun _ _ _ _ _ _ us hl => match us, hl with | [_, _], _ => rfl
  have m15 := PySem.W.mg_of X G gw15
  have F16 := fun_mk (st := st_is2) lw16 cw16 kw16
  have b16 := F16.binds (ps := ["gave", "due"]) fun _ _ _ _ _ _ us hl => match us, hl with | [_, _], _ => rfl
  have m16 := PySem.W.mg_of X G gw16
  have F17 := fun_mk (st := st_so) lw17 cw17 kw17
  have b17 := F17.binds (ps := ["spring", "crew"]) fun _ _ _ _ _ _ us hl => match us, hl with | [_, _], _ => rfl
  have m17 := PySem.W.mg_of X G gw17
  have F18 := fun_mk (st := st_fe) lw18 cw18 kw18
  have b18 := F18.binds (ps := ["spring", "crew", "many"]) fun _ _ _ _ _ _ us hl => match us, hl with | [_, _, _], _ => rfl
  have m18 := PySem.W.mg_of X G gw18
  have F19 := fun_mk (st := st_lb) lw19 cw19 kw19
  have b19 := F19.binds (ps := ["spring", "taken"]) fun _ _ _ _ _ _ us hl => match us, hl with | [_, _], _ => rfl
  have m19 := PySem.W.mg_of X G gw19
  have F20 := fun_mk (st := st_nt) lw20 cw20 kw20
  have b20 := F20.binds (ps := ["spring", "least", "most", "homes"]) fun _ _ _ _ _ _ us hl => match us, hl with | [_, _, _, _], _ => rfl
  have m20 := PySem.W.mg_of X G gw20
  have F21 := fun_mk (st := st_up) lw21 cw21 kw21
  have b21 := F21.binds (ps := ["net", "crew", "some"]) fun _ _ _ _ _ _ us hl => match us, hl with | [_, _, _], _ => rfl
  have m21 := PySem.W.mg_of X G gw21
  have F22 := fun_mk (st := st_lu) lw22 cw22 kw22
  have b22 := F22.binds (ps := ["net", "crew"]) fun _ _ _ _ _ _ us hl => match us, hl with | [_, _], _ => rfl
  have m22 := PySem.W.mg_of X G gw22
  have F23 := fun_mk (st := st_ge) lw23 cw23 kw23
  have b23 := F23.binds (ps := ["found"]) fun _ _ _ _ _ _ us hl => match us, hl with | [_], _ => rfl
  have m23 := PySem.W.mg_of X G gw23
  have F24 := fun_mk (st := st_ha) lw24 cw24 kw24
  have b24 := F24.binds (ps := ["crew", "part"]) fun _ _ _ _ _ _ us hl => match us, hl with | [_, _], _ => rfl
  have m24 := PySem.W.mg_of X G gw24
  have F25 := fun_mk (st := st_lo2) lw25 cw25 kw25
  have b25 := F25.binds (ps := ["net", "crew", "small"]) fun _ _ _ _ _ _ us hl => match us, hl with | [_, _, _], _ => rfl
  have m25 := PySem.W.mg_of X G gw25
  have F26 := fun_mk (st := st_be) lw26 cw26 kw26
  have b26 := F26.binds (ps := ["spring", "crew", "part"]) fun _ _ _ _ _ _ us hl => match us, hl with | [_, _, _], _ => rfl
  have m26 := PySem.W.mg_of X G gw26
  have F27 := fun_mk (st := st_he) lw27 cw27 kw27
  have b27 := F27.binds (ps := ["net", "small", "crew"]) fun _ _ _ _ _ _ us hl => match us, hl with | [_, _, _], _ => rfl
  have m27 := PySem.W.mg_of X G gw27
  have F28 := fun_mk (st := st_il) lw28 cw28 kw28
  have b28 := F28.binds (ps := ["spring", "net", "crew", "small"]) fun _ _ _ _ _ _ us hl => match us, hl with | [_, _, _, _], _ => rfl
  have m28 := PySem.W.mg_of X G gw28
  have F29 := fun_mk (st := st_r3) lw29 cw29 kw29
  have b29 := F29.binds (ps := ["spring"]) fun _ _ _ _ _ _ us hl => match us, hl with | [_], _ => rfl
  have m29 := PySem.W.mg_of X G gw29
  have F30 := fun_mk (st := st_la3) lw30 cw30 kw30
  have b30 := F30.binds (ps := ["script"]) fun _ _ _ _ _ _ us hl => match us, hl with | [_], _ => rfl
  have m30 := PySem.W.mg_of X G gw30
  have U0 : FunC K "is_lot" "is_lot" sLot u0 _ c0 := ⟨⟨_, _, _, _, _, _, _, _, rfl, lu0, cu0⟩, ku0⟩
  have v0 := U0.fn.binds (ps := ["count", "value"]) fun _ _ _ _ _ _ us hl => match us, hl with | [_, _], _ => rfl
  have n0 := PySem.W.mg_of X G gu0
  have hd0 := code_hd X xu0 pu0 zu0
  have te0 : h.get? p0 = some { cls := .none, data := .fields #[] } := tb0 u0 c0 p0 _ _ _ _ _ _ n0 lu0 rfl rfl xu0 pu0
  have tn0 : K.lookup p0 = none := Option.isNone_iff_eq_none.mp nu0
  have U1 : FunC K "is_name" "is_name" sName u1 _ c1 := ⟨⟨_, _, _, _, _, _, _, _, rfl, lu1, cu1⟩, ku1⟩
  have v1 := U1.fn.binds (ps := ["value"]) fun _ _ _ _ _ _ us hl => match us, hl with | [_], _ => rfl
  have n1 := PySem.W.mg_of X G gu1
  have hd1 := code_hd X xu1 pu1 zu1
  have te1 : h.get? p1 = some { cls := .none, data := .fields #[] } := tb1 u1 c1 p1 _ _ _ _ _ _ n1 lu1 rfl rfl xu1 pu1
  have tn1 : K.lookup p1 = none := Option.isNone_iff_eq_none.mp nu1
  have U2 : FunC K "are_names" "are_names" sNames u2 _ c2 := ⟨⟨_, _, _, _, _, _, _, _, rfl, lu2, cu2⟩, ku2⟩
  have v2 := U2.fn.binds (ps := ["value"]) fun _ _ _ _ _ _ us hl => match us, hl with | [_], _ => rfl
  have n2 := PySem.W.mg_of X G gu2
  have hd2 := code_hd X xu2 pu2 zu2
  have te2 : h.get? p2 = some { cls := .none, data := .fields #[] } := tb2 u2 c2 p2 _ _ _ _ _ _ n2 lu2 rfl rfl xu2 pu2
  have tn2 : K.lookup p2 = none := Option.isNone_iff_eq_none.mp nu2
  have U3 : FunC K "are_arrows" "are_arrows" sArr u3 _ c3 := ⟨⟨_, _, _, _, _, _, _, _, rfl, lu3, cu3⟩, ku3⟩
  have v3 := U3.fn.binds (ps := ["count", "value"]) fun _ _ _ _ _ _ us hl => match us, hl with | [_, _], _ => rfl
  have n3 := PySem.W.mg_of X G gu3
  have hd3 := code_hd X xu3 pu3 zu3
  have te3 : h.get? p3 = some { cls := .none, data := .fields #[] } := tb3 u3 c3 p3 _ _ _ _ _ _ n3 lu3 rfl rfl xu3 pu3
  have tn3 : K.lookup p3 = none := Option.isNone_iff_eq_none.mp nu3
  have U4 : FunC K "are_hidden_lots" "are_hidden_lots" sHid u4 _ c4 := ⟨⟨_, _, _, _, _, _, _, _, rfl, lu4, cu4⟩, ku4⟩
  have v4 := U4.fn.binds (ps := ["count", "value"]) fun _ _ _ _ _ _ us hl => match us, hl with | [_, _], _ => rfl
  have n4 := PySem.W.mg_of X G gu4
  have hd4 := code_hd X xu4 pu4 zu4
  have te4 : h.get? p4 = some { cls := .none, data := .fields #[] } := tb4 u4 c4 p4 _ _ _ _ _ _ n4 lu4 rfl rfl xu4 pu4
  have tn4 : K.lookup p4 = none := Option.isNone_iff_eq_none.mp nu4
  refine ⟨PySem.W.fnOf "law" "law" (defArgs st_la3) (defBody st_la3) (defScope st_la3) .none kVw30 dcw30 pmw30 anw30 cdw30 ctw30, [(c0, p0), (c1, p1), (c2, p2), (c3, p3), (c4, p4)], spS K [p0, p1, p2, p3, p4] F_la3, fun p hp => ?_, fun p hp => ?_, fun p hp => ?_, fun s u => .of_eq rfl, fun H a ns hl hT hS => ?_, fun base KB GB TB => ?_⟩
  · simp only [List.mem_cons, List.not_mem_nil, or_false] at hp
    rcases hp with rfl | rfl | rfl | rfl | rfl
    · exact te0
    · exact te1
    · exact te2
    · exact te3
    · exact te4
  · simp only [List.mem_cons, List.not_mem_nil, or_false] at hp
    rcases hp with rfl | rfl | rfl | rfl | rfl
    · exact tn0
    · exact tn1
    · exact tn2
    · exact tn3
    · exact tn4
  · simp only [List.mem_cons, List.not_mem_nil, or_false] at hp
    rcases hp with rfl | rfl | rfl | rfl | rfl
    · exact hd0
    · exact hd1
    · exact hd2
    · exact hd3
    · exact hd4
  · refine law_start hS hl fun P hP => ⟨#[], ?_, ?_⟩
    · simp only [List.mem_cons, List.not_mem_nil, or_false] at hP
      rcases hP with q | q | q | q | q <;> rw [q]
      · exact hT (c0, p0) (by simp)
      · exact hT (c1, p1) (by simp)
      · exact hT (c2, p2) (by simp)
      · exact hT (c3, p3) (by simp)
      · exact hT (c4, p4) (by simp)
    · exact True.intro
  have B0 := TB (c0, p0) (by simp)
  have M0 : p0 ∈ ([p0, p1, p2, p3, p4] : List Addr) := by simp
  have B1 := TB (c1, p1) (by simp)
  have M1 : p1 ∈ ([p0, p1, p2, p3, p4] : List Addr) := by simp
  have B2 := TB (c2, p2) (by simp)
  have M2 : p2 ∈ ([p0, p1, p2, p3, p4] : List Addr) := by simp
  have B3 := TB (c3, p3) (by simp)
  have M3 : p3 ∈ ([p0, p1, p2, p3, p4] : List Addr) := by simp
  have B4 := TB (c4, p4) (by simp)
  have M4 : p4 ∈ ([p0, p1, p2, p3, p4] : List Addr) := by simp
  have N : Nm mg := ⟨no (by decide), no (by decide), no (by decide), no (by decide), no (by decide), no (by decide), no (by decide), no (by decide)⟩
  have NB : Nb mg := ⟨no (by decide), no (by decide), no (by decide), no (by decide), no (by decide), no (by decide), no (by decide), no (by decide), no (by decide), no (by decide), no (by decide), no (by decide), no (by decide), no (by decide), no (by decide), no (by decide), no (by decide)⟩
  have C : Cn K mg := ⟨⟨_, PySem.W.mg_of X G gl⟩, ⟨_, PySem.W.mg_of X G gf⟩, ⟨_, PySem.W.mg_of X G gd, fun H => .inr ⟨_, _, _, lwd, rfl, rfl, (by show 9 ≤ sizeLine; decide), .cons ⟨_, rfl⟩ (.cons ⟨_, rfl⟩ (.cons ⟨_, rfl⟩ (.cons ⟨_, rfl⟩ (.cons ⟨_, rfl⟩ (.cons ⟨_, rfl⟩ (.cons ⟨_, rfl⟩ (.cons ⟨_, rfl⟩ (.cons ⟨_, rfl⟩ .nil))))))))⟩⟩, ⟨_, PySem.W.mg_of X G gsg⟩, ⟨_, PySem.W.mg_of X G gvr⟩, ⟨_, PySem.W.mg_of X G ghd⟩⟩
  have LO : Lo K mg base [p0, p1, p2, p3, p4] u0 w0 c0 p0 _ _ := ⟨U0, B0, M0, n0, v0, F0, m0, b0⟩
  have S : Pg K mg base [p0, p1, p2, p3, p4] _ _ _ _ _ _ _ _ _ _ _ _ _ _ _ _ _ _ _ _ _ _ := ⟨N, C, LO, U1, B1, M1, n1, v1, U2, B2, M2, n2, v2, U3, B3, M3, n3, v3, U4, B4, M4, n4, v4⟩
  have Hng : Fd P w K mg base [p0, p1, p2, p3, p4] "need_graph" sNeed ["graph"] 10 F_ng := ⟨_, _, (ok_need F2 F1 m1 b1 S).imp (fun vs H Q E h => sp_ng h), m2, kw2, b2, F2⟩
  have Hlo : Fd P w K mg base [p0, p1, p2, p3, p4] "need_lot" sNeedLot ["graph", "lot"] 5 F_lo := ⟨_, _, (ok_needlot F3 S).imp (fun vs H Q E h => sp_lo h), m3, kw3, b3, F3⟩
  have Hwi : Fd P w K mg base [p0, p1, p2, p3, p4] "is_within" st_wi ["part", "lot"] 1 F_wi := ok_wi NB  ⟨_, _, F4, m4, b4⟩
  have Hnw : Fd P w K mg base [p0, p1, p2, p3, p4] "need_within" st_nw ["part", "lot"] 2 F_nw := ok_nw NB Hwi ⟨_, _, F5, m5, b5⟩
  have Han : Fd P w K mg base [p0, p1, p2, p3, p4] "ancestors_in" st_an ["graph", "lot", "starts"] 1 F_an := ok_an NB  ⟨_, _, F6, m6, b6⟩
  have Hdi : Fd P w K mg base [p0, p1, p2, p3, p4] "district_of" st_di ["graph", "lot", "start"] 1 F_di := ok_di NB  ⟨_, _, F7, m7, b7⟩
  have Hij : Fd P w K mg base [p0, p1, p2, p3, p4] "is_joined" st_ij ["graph", "lot"] 2 F_ij := ok_ij NB Hdi ⟨_, _, F8, m8, b8⟩
  have Hro : Fd P w K mg base [p0, p1, p2, p3, p4] "rounds_of" st_ro ["graph", "lot", "ends"] 2 F_ro := ok_ro NB Hdi Han ⟨_, _, F9, m9, b9⟩
  have Hnj : Fd P w K mg base [p0, p1, p2, p3, p4] "need_joined" st_nj ["graph", "lot"] 6 F_nj := ok_nj NB Hlo Hij ⟨_, _, F10, m10, b10⟩
  have Hrr : Fd P w K mg base [p0, p1, p2, p3, p4] "rounds" st_rr ["graph", "lot", "ends"] 11 F_rr := ok_rr NB Hng Hlo Hnj Hnw Hro ⟨_, _, F11, m11, b11⟩
  have Hgh : Fd P w K mg base [p0, p1, p2, p3, p4] "greatest_hedge" st_gh ["graph", "lot", "ends"] 12 F_gh := ok_gh NB Hrr ⟨_, _, F12, m12, b12⟩
  have Hsp : Fd P w K mg base [p0, p1, p2, p3, p4] "_law_spring" st_sp ["script", "lap"] 1 F_sp := ok_sp NB  ⟨_, _, F13, m13, b13⟩
  have Hdr : Fd P w K mg base [p0, p1, p2, p3, p4] "_law_draw" st_dr ["spring", "top"] 1 F_dr := ok_dr NB  ⟨_, _, F14, m14, b14⟩
  have Hpk : Fd P w K mg base [p0, p1, p2, p3, p4] "_law_pick" st_pk ["spring", "some"] 2 F_pk := ok_pk NB Hdr ⟨_, _, F15, m15, b15⟩
  have His2 : FdG P w K mg base [p0, p1, p2, p3, p4] "_law_is" st_is2 ["gave", "due"] 1 F_is2 := ok_is2 NB  ⟨_, _, F16, m16, b16⟩
  have Hso : Fd P w K mg base [p0, p1, p2, p3, p4] "_law_some" st_so ["spring", "crew"] 2 F_so := ok_so NB Hdr ⟨_, _, F17, m17, b17⟩
  have Hfe : Fd P w K mg base [p0, p1, p2, p3, p4] "_law_few" st_fe ["spring", "crew", "many"] 2 F_fe := ok_fe NB Hdr ⟨_, _, F18, m18, b18⟩
  have Hlb : Fd P w K mg base [p0, p1, p2, p3, p4] "_law_label" st_lb ["spring", "taken"] 2 F_lb := ok_lb NB Hdr ⟨_, _, F19, m19, b19⟩
  have Hnt : Fd P w K mg base [p0, p1, p2, p3, p4] "_law_net" st_nt ["spring", "least", "most", "homes"] 3 F_nt := ok_nt NB Hdr Hlb Hfe ⟨_, _, F20, m20, b20⟩
  have Hup : Fd P w K mg base [p0, p1, p2, p3, p4] "_law_up" st_up ["net", "crew", "some"] 1 F_up := ok_up NB  ⟨_, _, F21, m21, b21⟩
  have Hlu : Fd P w K mg base [p0, p1, p2, p3, p4] "_law_lumps" st_lu ["net", "crew"] 1 F_lu := ok_lu NB  ⟨_, _, F22, m22, b22⟩
  have Hge : Fd P w K mg base [p0, p1, p2, p3, p4] "_law_greatest" st_ge ["found"] 1 F_ge := ok_ge NB  ⟨_, _, F23, m23, b23⟩
  have Hha : Fd P w K mg base [p0, p1, p2, p3, p4] "_law_has" st_ha ["crew", "part"] 1 F_ha := ok_ha NB  ⟨_, _, F24, m24, b24⟩
  have Hlo2 : Fd P w K mg base [p0, p1, p2, p3, p4] "_law_lots" st_lo2 ["net", "crew", "small"] 2 F_lo2 := ok_lo2 NB Hlu Hup ⟨_, _, F25, m25, b25⟩
  have Hbe : Fd P w K mg base [p0, p1, p2, p3, p4] "_law_between" st_be ["spring", "crew", "part"] 3 F_be := ok_be NB Hso ⟨_, _, F26, m26, b26⟩
  have Hhe : Fd P w K mg base [p0, p1, p2, p3, p4] "_law_hedges" st_he ["net", "small", "crew"] 2 F_he := ok_he NB Hlu Hup ⟨_, _, F27, m27, b27⟩
  have Hil : FdG P w K mg base [p0, p1, p2, p3, p4] "_law_is_led" st_il ["spring", "net", "crew", "small"] 13 F_il := ok_il NB Hhe Hge Hrr His2 Hlo2 Hgh Hha Hbe ⟨_, _, F28, m28, b28⟩
  have Hr3 : FdG P w K mg base [p0, p1, p2, p3, p4] "_law_right" st_r3 ["spring"] 14 F_r3 := ok_r3 NB Hnt Hdr Hil Hfe Hso Hpk Hlu ⟨_, _, F29, m29, b29⟩
  have Hla3 : FdG P w K mg base [p0, p1, p2, p3, p4] "law" st_la3 ["script"] 15 F_la3 := ok_la3 NB Hsp Hr3 ⟨_, _, F30, m30, b30⟩
  obtain ⟨f, fd, R, g, k, b, u⟩ := Hla3
  obtain rfl := Value.ref.inj (Option.some.inj (m30.symm.trans g))
  obtain ⟨oc, od, kV, doc, pm, an, cdv, ct, osl, rfl, lk, hcd⟩ := u.ex
  have e := Data.func.inj (congrArg Obj.data (Option.some.inj (lw30.symm.trans lk)))
  rw [e]
  exact R
end FL

open PySem PySem.W PyProof.Rows
set_option maxHeartbeats 0 in
theorem PySem.Challenge.cw_causaleffects_k31_whole_rounds_end_at_th_holds : PySem.Challenge.rw_causaleffects_k31_whole_rounds_end_at_th.Holds := by
  w_on; o_law; k_head; (case hw => w_witness2)
  k_fill
  refine KL.walkZT (l := PySem.Challenge.rw_causaleffects_k31_whole_rounds_end_at_th) (n := 63) (k := 15) (x := "script") rfl (by decide) rfl ⟨rfl, by decide, by decide⟩ (fun w h Y => PySem.W.kIn_of Y) ?F
  intro w mg fa h KX G hmg tab
  refine' FL.all_mk KX G hmg ?own_gw0 ?own_lw0 ?own_cw0 ?own_kw0 ?own_gw1 ?own_lw1 ?own_cw1 ?own_kw1 ?own_gw2 ?own_lw2 ?own_cw2 ?own_kw2 ?own_gw3 ?own_lw3 ?own_cw3 ?own_kw3 ?own_gw4 ?own_lw4 ?own_cw4 ?own_kw4 ?own_gw5 ?own_lw5 ?own_cw5 ?own_kw5 ?own_gw6 ?own_lw6 ?own_cw6 ?own_kw6 ?own_gw7 ?own_lw7 ?own_cw7 ?own_kw7 ?own_gw8 ?own_lw8 ?own_cw8 ?own_kw8 ?own_gw9 ?own_lw9 ?own_cw9 ?own_kw9 ?own_gw10 ?own_lw10 ?own_cw10 ?own_kw10 ?own_gw11 ?own_lw11 ?own_cw11 ?own_kw11 ?own_gw12 ?own_lw12 ?own_cw12 ?own_kw12 ?own_gw13 ?own_lw13 ?own_cw13 ?own_kw13 ?own_gw14 ?own_lw14 ?own_cw14 ?own_kw14 ?own_gw15 ?own_lw15 ?own_cw15 ?own_kw15 ?own_gw16 ?own_lw16 ?own_cw16 ?own_kw16 ?own_gw17 ?own_lw17 ?own_cw17 ?own_kw17 ?own_gw18 ?own_lw18 ?own_cw18 ?own_kw18 ?own_gw19 ?own_lw19 ?own_cw19 ?own_kw19 ?own_gw20 ?own_lw20 ?own_cw20 ?own_kw20 ?own_gw21 ?own_lw21 ?own_cw21 ?own_kw21 ?own_gw22 ?own_lw22 ?own_cw22 ?own_kw22 ?own_gw23 ?own_lw23 ?own_cw23 ?own_kw23 ?own_gw24 ?own_lw24 ?own_cw24 ?own_kw24 ?own_gw25 ?own_lw25 ?own_cw25 ?own_kw25 ?own_gw26 ?own_lw26 ?own_cw26 ?own_kw26 ?own_gw27 ?own_lw27 ?own_cw27 ?own_kw27 ?own_gw28 ?own_lw28 ?own_cw28 ?own_kw28 ?own_gw29 ?own_lw29 ?own_cw29 ?own_kw29 ?own_gw30 ?own_lw30 ?own_cw30 ?own_kw30 ?own_gu0 ?own_lu0 ?own_cu0 ?own_ku0 ?own_xu0 ?own_pu0 ?own_zu0 ?own_nu0 ?own_gu1 ?own_lu1 ?own_cu1 ?own_ku1 ?own_xu1 ?own_pu1 ?own_zu1 ?own_nu1 ?own_gu2 ?own_lu2 ?own_cu2 ?own_ku2 ?own_xu2 ?own_pu2 ?own_zu2 ?own_nu2 ?own_gu3 ?own_lu3 ?own_cu3 ?own_ku3 ?own_xu3 ?own_pu3 ?own_zu3 ?own_nu3 ?own_gu4 ?own_lu4 ?own_cu4 ?own_ku4 ?own_xu4 ?own_pu4 ?own_zu4 ?own_nu4 ?own_gl ?own_gf ?own_gd ?own_gsg ?own_gvr ?own_ghd ?own_lwd ?own_zN (tab "is_lot" (by kernel_rfl)) (tab "is_name" (by kernel_rfl)) (tab "are_names" (by kernel_rfl)) (tab "are_arrows" (by kernel_rfl)) (tab "are_hidden_lots" (by kernel_rfl))
  (case own_gw0 => k_is)
  (case own_lw0 => k_is)
  (case own_cw0 => k_is)
  (case own_kw0 => k_is)
  (case own_gw1 => k_is)
  (case own_lw1 => k_is)
  (case own_cw1 => k_is)
  (case own_kw1 => k_is)
  (case own_gw2 => k_is)
  (case own_lw2 => k_is)
  (case own_cw2 => k_is)
  (case own_kw2 => k_is)
  (case own_gw3 => k_is)
  (case own_lw3 => k_is)
  (case own_cw3 => k_is)
  (case own_kw3 => k_is)
  (case own_gw4 => k_is)
  (case own_lw4 => k_is)
  (case own_cw4 => k_is)
  (case own_kw4 => k_is)
  (case own_gw5 => k_is)
  (case own_lw5 => k_is)
  (case own_cw5 => k_is)
  (case own_kw5 => k_is)
  (case own_gw6 => k_is)
  (case own_lw6 => k_is)
  (case own_cw6 => k_is)
  (case own_kw6 => k_is)
  (case own_gw7 => k_is)
  (case own_lw7 => k_is)
  (case own_cw7 => k_is)
  (case own_kw7 => k_is)
  (case own_gw8 => k_is)
  (case own_lw8 => k_is)
  (case own_cw8 => k_is)
  (case own_kw8 => k_is)
  (case own_gw9 => k_is)
  (case own_lw9 => k_is)
  (case own_cw9 => k_is)
  (case own_kw9 => k_is)
  (case own_gw10 => k_is)
  (case own_lw10 => k_is)
  (case own_cw10 => k_is)
  (case own_kw10 => k_is)
  (case own_gw11 => k_is)
  (case own_lw11 => k_is)
  (case own_cw11 => k_is)
  (case own_kw11 => k_is)
  (case own_gw12 => k_is)
  (case own_lw12 => k_is)
  (case own_cw12 => k_is)
  (case own_kw12 => k_is)
  (case own_gw13 => k_is)
  (case own_lw13 => k_is)
  (case own_cw13 => k_is)
  (case own_kw13 => k_is)
  (case own_gw14 => k_is)
  (case own_lw14 => k_is)
  (case own_cw14 => k_is)
  (case own_kw14 => k_is)
  (case own_gw15 => k_is)
  (case own_lw15 => k_is)
  (case own_cw15 => k_is)
  (case own_kw15 => k_is)
  (case own_gw16 => k_is)
  (case own_lw16 => k_is)
  (case own_cw16 => k_is)
  (case own_kw16 => k_is)
  (case own_gw17 => k_is)
  (case own_lw17 => k_is)
  (case own_cw17 => k_is)
  (case own_kw17 => k_is)
  (case own_gw18 => k_is)
  (case own_lw18 => k_is)
  (case own_cw18 => k_is)
  (case own_kw18 => k_is)
  (case own_gw19 => k_is)
  (case own_lw19 => k_is)
  (case own_cw19 => k_is)
  (case own_kw19 => k_is)
  (case own_gw20 => k_is)
  (case own_lw20 => k_is)
  (case own_cw20 => k_is)
  (case own_kw20 => k_is)
  (case own_gw21 => k_is)
  (case own_lw21 => k_is)
  (case own_cw21 => k_is)
  (case own_kw21 => k_is)
  (case own_gw22 => k_is)
  (case own_lw22 => k_is)
  (case own_cw22 => k_is)
  (case own_kw22 => k_is)
  (case own_gw23 => k_is)
  (case own_lw23 => k_is)
  (case own_cw23 => k_is)
  (case own_kw23 => k_is)
  (case own_gw24 => k_is)
  (case own_lw24 => k_is)
  (case own_cw24 => k_is)
  (case own_kw24 => k_is)
  (case own_gw25 => k_is)
  (case own_lw25 => k_is)
  (case own_cw25 => k_is)
  (case own_kw25 => k_is)
  (case own_gw26 => k_is)
  (case own_lw26 => k_is)
  (case own_cw26 => k_is)
  (case own_kw26 => k_is)
  (case own_gw27 => k_is)
  (case own_lw27 => k_is)
  (case own_cw27 => k_is)
  (case own_kw27 => k_is)
  (case own_gw28 => k_is)
  (case own_lw28 => k_is)
  (case own_cw28 => k_is)
  (case own_kw28 => k_is)
  (case own_gw29 => k_is)
  (case own_lw29 => k_is)
  (case own_cw29 => k_is)
  (case own_kw29 => k_is)
  (case own_gw30 => k_is)
  (case own_lw30 => k_is)
  (case own_cw30 => k_is)
  (case own_kw30 => k_is)
  (case own_gu0 => k_is)
  (case own_lu0 => k_is)
  (case own_cu0 => k_is)
  (case own_ku0 => k_is)
  (case own_xu0 => k_is)
  (case own_pu0 => rfl)
  (case own_zu0 => kernel_rfl)
  (case own_nu0 => kernel_rfl)
  (case own_gu1 => k_is)
  (case own_lu1 => k_is)
  (case own_cu1 => k_is)
  (case own_ku1 => k_is)
  (case own_xu1 => k_is)
  (case own_pu1 => rfl)
  (case own_zu1 => kernel_rfl)
  (case own_nu1 => kernel_rfl)
  (case own_gu2 => k_is)
  (case own_lu2 => k_is)
  (case own_cu2 => k_is)
  (case own_ku2 => k_is)
  (case own_xu2 => k_is)
  (case own_pu2 => rfl)
  (case own_zu2 => kernel_rfl)
  (case own_nu2 => kernel_rfl)
  (case own_gu3 => k_is)
  (case own_lu3 => k_is)
  (case own_cu3 => k_is)
  (case own_ku3 => k_is)
  (case own_xu3 => k_is)
  (case own_pu3 => rfl)
  (case own_zu3 => kernel_rfl)
  (case own_nu3 => kernel_rfl)
  (case own_gu4 => k_is)
  (case own_lu4 => k_is)
  (case own_cu4 => k_is)
  (case own_ku4 => k_is)
  (case own_xu4 => k_is)
  (case own_pu4 => rfl)
  (case own_zu4 => kernel_rfl)
  (case own_nu4 => kernel_rfl)
  (case own_gl => k_is)
  (case own_gf => k_is)
  (case own_gd => k_is)
  (case own_gsg => k_is)
  (case own_gvr => k_is)
  (case own_ghd => k_is)
  (case own_lwd => k_is)
  (case own_zN => kernel_rfl)

