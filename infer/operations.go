package infer

import "marquetry/api"

// signature returns the types of an operation's Args, and of its result.
func (f *finder) signature(op int64) ([]api.Type, api.Type) {
	num, truth := plain(api.TyInt), plain(api.TyBool)
	text, unit := plain(api.TyString), plain(api.TyUnit)
	switch op {
	case api.OpNeg:
		return []api.Type{num}, num
	case api.OpEq, api.OpLt:
		return []api.Type{num, num}, truth
	case api.OpNot:
		return []api.Type{truth}, truth
	case api.OpRef, api.OpDeref, api.OpAssign, api.OpArray, api.OpGet, api.OpSet, api.OpLen:
		return signatureOf(op, f.fresh())
	case api.OpSize:
		return []api.Type{text}, num
	case api.OpByte:
		return []api.Type{text, num}, num
	case api.OpCat:
		return []api.Type{text, text}, text
	case api.OpGetc:
		return []api.Type{unit}, num
	case api.OpPutc:
		return []api.Type{num}, unit
	}
	return []api.Type{num, num}, num
}

// signatureOf returns those of an operation on a reference or an array, whose content has a type.
func signatureOf(op int64, t api.Type) ([]api.Type, api.Type) {
	num, unit := plain(api.TyInt), plain(api.TyUnit)
	ref, array := plain(api.TyRef, t), plain(api.TyArray, t)
	switch op {
	case api.OpRef:
		return []api.Type{t}, ref
	case api.OpDeref:
		return []api.Type{ref}, t
	case api.OpAssign:
		return []api.Type{ref, t}, unit
	case api.OpArray:
		return []api.Type{num, t}, array
	case api.OpGet:
		return []api.Type{array, num}, t
	case api.OpSet:
		return []api.Type{array, num, t}, unit
	}
	return []api.Type{array}, num // api.OpLen
}
