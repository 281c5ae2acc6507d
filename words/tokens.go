package words

import "tidemark/api"

// Word is a word as a token, Sign a sign.
func Word(s string) api.Token { return api.Token{Kind: api.Word, S: s} }

func Sign(s string) api.Token { return api.Token{Kind: api.Sign, S: s} }
