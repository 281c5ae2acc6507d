// Package words: the words of statements that stand for themselves, and such tokens, for the layers that read statements or go by them.
package words

// What a statement begins with.
const (
	Make    = "make"
	Drop    = "drop"
	Index   = "index"
	Unindex = "unindex"
	Insert  = "insert"
	Replace = "replace"
	Get     = "get"
	Find    = "find"
	Count   = "count"
	Delete  = "delete"
	Update  = "update"
)

// What a condition is, if it is no test by a sign.
const (
	Or     = "or"
	And    = "and"
	Not    = "not"
	Exists = "exists"
	In     = "in"
)

// What a change does.
const (
	Set   = "set"
	Unset = "unset"
	Push  = "push"
	Add   = "add"
)

// What else stands for itself.
const (
	Where = "where"
	Order = "order"
	By    = "by"
	Desc  = "desc"
	Limit = "limit"
	Show  = "show"
	Null  = "null"
	True  = "true"
	False = "false"
)
